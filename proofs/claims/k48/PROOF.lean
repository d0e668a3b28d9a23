import PyProof.Rows.All
import Wide.All
import OpenK.AllK
import Wide.FinOn
import Lean
import PyProof.EqAt
import PyProof.EqKinds
import PyProof.TupleCall
import PySem.Challenge.RW_fewchecks_k48_whole_rounds_lots_and_fact
set_option Elab.async false
set_option linter.all false
set_option maxHeartbeats 0
set_option maxRecDepth 100000
set_option compiler.extract_closed false
section
local macro_rules | `(tactic| omega) => `(tactic| first | lia | omega (config := {}))
local macro_rules|`(∅)=>`(by omega)
local macro_rules|`(⋯)=>`(by decide)
local macro_rules | `(tactic| rfl') => `(tactic| walk_at "dt")
open And renaming intro->zz
open Array renaming getElem?_eq_getElem->lC,length_toList->mj,getElem?_toList->lU,getElem?_eq_some_iff->wL,size_extract->z0,getD_eq_getD_getElem?->EN,size_push->Gf,getElem?_push->FD,getElem?_eq_none->Jl,getElem?_extract_of_lt->Mp,toArray_toList->Rl,toList_push->nC
open Bool renaming false_ne_true->dH,and_eq_true->fQ,eq_iff_iff->jS,or_false->p7,bne_false->rZ,false_or->sS,false_eq_true->FW,true_and->J5,or_true->Jc,true_or->GY,eq_false_iff->ER,not_eq_true'->nT,not_false->rh
open Classical renaming byContradiction->jl,choose_spec->N6,choose->o4
open False renaming elim->el
open ForInStep renaming yield->eT
open Function renaming comp_def->n2
open Int renaming emod_nonneg->iw,emod_lt_of_pos->g7,mul_zero->iu,toNat_natCast->jw,mul_ediv_add_emod->jY,zero_mul->kC,mul_sub->kG,emod_eq_of_lt->kX,mul_comm->mh,mul_le_mul_of_nonneg_left->oA,mul_assoc->nF,mul_one->se,emod_eq_zero_of_dvd->rD,add_zero->rW,emod_def->qX,dvd_mul_of_dvd_right->tV,sub_zero->tY,one_mul->uQ,dvd_add->xr,add_mul_emod_self_left->uT,ediv_nonneg->xQ,natAbs_dvd_natAbs->BV,lt_trichotomy->AJ,dvd_mul_right->AW,zero_emod->yM,dvd_of_emod_eq_zero->Az,mul_add->Dj,natAbs_mul->Ka,dvd_sub->Hh,ediv_le_self->Ib,eq_ofNat_of_zero_le->Pb,gcd_eq_zero_iff->Sj,toNat_of_nonneg->QH,gcd->kd,gcd_dvd_right->n4,emod_add_emod->n7,gcd_dvd_left->oW,natCast_mul->p3,toNat->qx,mul_le_mul->si,le_of_dvd->uj,zero_add->u4,le_refl->xn,mul_neg->xp,sub_mul->xt
open Int.ofNat renaming inj->z9
open Lean renaming mkIdent->eA
open List renaming length_map->ao,getElem?_eq_getElem->aC,getElem?_eq_some_iff->aO,mem_cons->aY,mem_singleton->aZ,getD_eq_getElem?_getD->br,getElem?_map->bw,mem_of_getElem?->bC,map_cons->bG,getElem?_set_ne->bI,map_append->bS,getElem?_set_self->cI,mem_map->cL,mem_cons_self->cN,mem_cons_of_mem->cM,getElem_mem->cU,size_toArray->cY,take_length->c6,mem_append->dM,not_mem_nil->dR,length_cons->eH,length_append->fk,mem_filter->fG,length_set->fR,lookup_cons->fY,getElem?_replicate->gf,all_eq_true->g6,getElem?_of_mem->ic,length_take->iG,mem_range->iQ,append_nil->jg,getElem?_append_left->jj,length_singleton->i9,nodup_cons->jn,getElem?_append_right->jr,filter_append->jx,mem_append_left->jB,mem_append_right->jI,getElem?_eq_none->jT,map_map->j7,length_range->kD,filter_cons->kN,length_replicate->lN,sum_cons->lB,range_succ->lI,nodup_append->l9,set_set->mL,getElem?_cons_succ->mW,map_set->mX,any_cons->oq,map_nil->nR,cons_append->nV,mem_or_eq_of_mem_set->nZ,all_cons->pA,sum_append->oS,ext_getElem?->qo,find?_cons->oQ,length_filter_le->oN,mem_of_mem_take->pN,replicate_succ->rF,filter_cons_of_pos->qC,filter_cons_of_neg->qy,foldl_append->sf,pairwise_map->qW,filterMap_cons->uq,length_drop->sW,append_assoc->sO,map_congr_left->tU,mem_map_of_mem->uI,flatMap_cons->uC,flatten_cons->wA,take_add_one->xg,length_eq_zero_iff->wQ,any_eq_true->xo,take_of_length_le->vg,count_cons->xm,filter_nil->vY,filter_congr->wN,mem_flatMap->wK,replicate_succ'->vC,getElem?_take_of_lt->yL,pairwise_lt_range->AS,nodup_nil->zd,getElem?_zipWith->Bo,getElem?_eq_none_iff->zp,pairwise_cons->Ab,getElem?_zipIdx->zy,getElem?_set->zI,length_pos_iff->zb,map_replicate->xV,map_take->Cy,getElem_inj->Ji,mem_filterMap->FQ,of_mem_zip->FE,foldl_cons->Iz,getElem?_toArray->HU,findIdx?_eq_none_iff->FU,length_eraseIdx_of_lt->G0,all_map->Ec,lookup_cons_self->Dy,filter_eq_nil_iff->Je,eq_of_mem_replicate->IB,count_append->Fw,count_singleton->Kf,count_pos_iff->JG,filter_filter->Fo,length_zipWith->EW,map_singleton->FJ,mem_replicate->J6,mem_of_mem_drop->EX,length_eq_one_iff->JJ,drop_zero->Kr,map_drop->Hg,eraseIdx_cons_succ->QO,eraseIdxIfInBounds_toArray->Rk,length_dropLast->Qz,filterMap_cons_some->RG,pairwise_iff_getElem->Mu,findIdx?_eq_some_iff_getElem->R8,range_succ_eq_map->PD,dropLast_eq_take->R5,length_pos_of_mem->Lh,filter_eq_self->LK,getElem_zipWith->Nq,eq_nil_or_concat->Ri,getElem?_range->NS,flatMap_append->QI,length_filter_eq_length_iff->Ra,ne_nil_of_length_pos->Sd,dropLast_concat_getLast->Na,getLast_eq_getElem->To,eraseIdx_eq_take_drop_succ->Mh,replicate->ar,range->aL,Nodup->aR,map->a3,filter->cj,lookup->ed,take->ip,length->l3,length_zipIdx->mN,reverse_cons->n3,count->n5,ext_getElem->oP,countP_cons->pa,append_inj'->pd,zipIdx_cons->ph,getElem_map->pk,length_nil->qf,all_append->qz,take_zero->qS,foldl->td,map_id''->uk,set_comm->uY,zipWith->vc,drop->zN
open List.Nodup renaming length_le_of_subset->uA
open List.Pairwise renaming nil->y1
open List.Perm renaming append_left->vb,swap->zO,cons->z4
open List.cons renaming inj->vI
open Nat renaming le_refl->aW,ne_of_lt->dz,le_trans->dP,lt_of_lt_of_le->eK,zero_le->gE,lt_irrefl->i7,ne_of_gt->kO,le_of_lt->lE,lt_succ_of_lt->mK,mul_mod->oF,lt_succ_self->o6,lt_trans->p6,le_succ->qQ,le_of_eq->sX,mul_comm->uN,mul_assoc->vv,lt_of_le_of_lt->BI,mod_lt->An,pow_add->Ae,le_add_right->BQ,min_eq_left->A6,le_of_not_lt->FH,lt_or_eq_of_le->D7,lt_trichotomy->E4,lt_of_lt_of_eq->FA,mul_one->G8,zero_mul->GQ,div_add_mod->GN,mod_mod->JN,mod_mod_of_dvd->FG,one_mul->Ia,add_zero->JD,le_of_dvd->ES,dvd_of_mod_eq_zero->Ou,le_of_ble_eq_true->Pz,Coprime->kb,pos_of_ne_zero->mB,le_of_succ_le->n6,mod_eq_of_lt->oT,not_lt_zero->p4,mul_le_mul->ru,succ_mul->u3,lt_or_ge->va,mul_zero->vd,pow_zero->vi,sub_self->vk,zero_add->vt,sub_zero->vw,log2_lt->xl,pow_mul->xI,pow_mod->x2,gcd->x3,not_lt->y3
open Nat.Coprime renaming pow_left->vW
open Nat.succ renaming inj->xy
open Ne renaming symm->bH
open Option renaming some_ne_none->jP,map_eq_some_iff->kK,isSome_iff_exists->CI,isSome_map->D5,isNone_iff_eq_none->S5,getD_none->oC,none->xi
open Option.some renaming inj->fP
open Or renaming inl->be,inr->ee
open PyProof.Rows renaming boot_list->jD,boot_isinstance->kg,boot_all->oY,callWith_type1->qR,boot_int->xh,boot_bool->Ho,boot_tuple->EM,boot_sorted->Lc,boot_sum->RP,boot_str->Mc,firstMet->gg,IntsAre->gT,subscriptTail_builtinR->km,AllBare->kL,seqObj->lj,subscriptTail->mr,firstMet_succ->mx,envOfC->og,callWith_builtin1->oh,entry_list_sort->qk,slot_list_sort->rk,list_sort_tree->rl,args_list_sort->rn,sortedHeap_old->rr,boot_enumerate->rE,sortedHeap_at->ui,boot_dict->uZ,boot_abs->vx,boot_min->vy,boot_set->vG,Call_->y7
open PyProof.Rows.F renaming plain_set_update_loop->Ea,entry_set_update_loop->j2
open PySem renaming boot_len->gH,mem_of_lookup->q9,wpAny_bind->ae,Value->ag,Shared->aw,wpAny_pure->ax,Addr->aF,mainGlobals->ba,Program->bc,model->bj,starEach->cc,rawInt->cf,wpAny_call_entry->cv,World->cx,Around->c3,compareOp->dc,codeAny_builtin->de,builtinLookup_eq_fast->dy,wpAny_holding->dA,wpAny_callSpecial?_slot->dC,wpAny_newObj_type->ea,plainId_quiet->eh,wpAny_setState_of->ei,Heap->eo,wpAny_setField_rec->et,Expr->eB,wpAny_passesOwn->eC,typeLookup_type->eD,pickOrder->eF,SetTable->eI,wpAny_askSetting->eL,sysModules->eM,Stmt->eQ,NameKind->eS,wpAny_ite_split->e6,wpAny_updateSeq->e7,wpAny_mono->fg,wpAny_truthy_bool->fm,foldedSetIterable->fq,FuncData->ft,wpAny_setField->fx,wpAny_field->fA,wpAny_Call_Name_kw->fN,scanBound->gd,wpAny_attempt->gq,pyNext->gw,assignEach->gL,wpAny_pyIter_list->gN,sliceBounds->gO,fits_of_scanBound->g5,wpAny_pyIter_slot->hB,bootBuiltins->hH,codeAny_mono->hU,Scope->hX,wpAny_execs_nil->hY,letOwnedTupleGo->hZ,unsupported->ik,wpAny_specialOf->il,binaryOp->iq,setField->iW,wpAny_typeOf->i1,isSubtype_type->i2,wpAny_seqItems->i3,backTo->i5,call_meets->jf,wpAny_rule->jE,wpAny_pyIter_enum->jL,attributeBase->j1,wpAny_isInstance->kk,wpAny_pyNext_list_item->kl,wpAny_pyNext_list_end->kS,updateSeq->lh,typeLookup->ls,codeAny_call_builtin->lx,fitsIndex_both->lK,wpAny_runValue->lL,sizeLine_eq->lS,seqIndex_of->l4,wpAny_setEntries_of->l5,valueAt->ma,GenState->mf,wpAny_standAt->mi,relayAll->mw,tupleKind_room_in1->mM,wpAny_assign_Name->mS,slot_list_getitem->ng,callerA->nj,wpAny_storeSet_of->nz,setNext->nI,setsByText->nP,setNextDrawn->oo,call_meetsIn->ot,merged->ox,wpAny_execs_cons->oy,entryFor_of_tree->oL,wpAny_pyIter_zip->pb,tupleKind->pz,swapsWith->pE,getMethod->pL,BindsTo->pP,keywordEach->pQ,seqIndex?->pY,subscripted->p0,codeAny_of_tree->p5,drawOrder->qc,recursionLimit->qJ,entryFor_alias->ra,firstArgMember->rb,isSubtype_stop->rf,callType_codes->sg,builtinsNs->sk,wpAny_Name->sm,assign->so,wpAny_load->sr,Result->sv,wpAny_call->sJ,typeIs_int->sT,intKind_is->tf,argsOk->ti,intBits_le_64->tz,evalPart_none->tI,call_list_seq->tJ,entryFor->tL,raiseNew->tX,wpAny_newList->t5,cellsFrom->u0,getItem->v5,cLine->wa,bindL->wi,bindC->wq,newList->xk,collect->xv,Operator->x5,pyIter->x6,backToKw->x7,compEnvC->yB,compPost->yH,newTuple->yQ,stored->yU,atKey->zt
open PySem.Around renaming under_plainId->l7,under->oa
open PySem.AutoListH renaming list___mul___list_int_3->mu
open PySem.Builtin.Dict renaming updateFrom->ke,pairItems->ky,selfAndRest->tq
open PySem.Builtin.Frozenset renaming updateFrom->pq,newClass->qA,addrOf->tj,sizeOf->tm,slot0->t2
open PySem.Builtin.Int renaming intBits->ib
open PySem.Builtin.List renaming listExtendWith->df,listLengthHint->ej,listTooLong->fH,listSameRef->fJ,listItems->kA,listUpdate->uD
open PySem.Builtin.Range renaming rangeSize->tx
open PySem.Builtin.SmallTypes renaming ownedTupleHandOut->fy,ownedTupleIsFree->fD
open PySem.Calls renaming Name_function_global->Nt,call_function_entry->Lg,callWith_builtin->ku,spliced_cons->mn,spliced_nil->m9
open PySem.Code renaming isFrame->oe,frames->wb
open PySem.Data renaming cell->ml,fields->pG,seq->yy
open PySem.DictEntry renaming refKey->y6
open PySem.F renaming called_set->pC,plainAttrs_list->qE,plain_list_iadd->Ad,slot_list_getattribute->ym,slot_enumerate_next->yN,slot_list_append->xK,type_list_append->xE,plain_extend_loop->Fv,plainAttrs_dict->DM,entry_proto_collect->Rp,plain_proto_collect->Q0,entry_list_iadd->Lq,slot_dict_pop->Ph,slot_dict_get->Nm,slot_list_insert->Om,slot_dict_values->Ny,slot_list_pop->QZ,type_list_pop->SY,args_enumerate_next_1->kf,entry_enumerate_next->kz,entry_extend_loop->mc,entry_list_pop->oI,slot_int_rmul->p1,plain_set_new->qa
open PySem.Heap renaming lt_size->bN,get?_push_of_some->cF,get?_push_size->gk,get?_update_other->kr,size_push->lH,get?_update_self->o9,SameBut->da,NewAttrErr->qs
open PySem.Heap.DictOf renaming new->ql
open PySem.Heap.IsSliceOf renaming new->x8
open PySem.Heap.SameBut renaming update->uJ
open PySem.NameKind renaming free->cm,cell->fv
open PySem.Obj renaming mapSeq->cq,mapFields->j4,data_mapFields->my,putSet->nr
open PySem.PassesOwn renaming never->fF
open PySem.PyData renaming int->aq,canLayAll0->bg,depthAll->bp,canLay0->dk,list->dq,eqv->du,depth->er,eqvAll->eJ,bool->ij,tuple->ix
open PySem.ScopeKind renaming function->mI
open PySem.SeqAt renaming canLay_of_shaped->Ax,shaped->cH,EqAt->yX
open PySem.SeqAt.EqAt renaming int_str->md,str_int->me,none_bool->vJ,bool_none->vT,bool_bool->vV,none_int->wt,none_str->wx,bool_int->wy,bool_str->w7,int_none->xa,int_bool->xb,str_none->xc,str_bool->xf,int_int->x9,str_str->yn,same->zi
open PySem.SetTable renaming grown->eN,insertAt->jh,Probe->q8
open PySem.SetTable.below renaming go->fw
open PySem.SetTable.probe renaming go->js
open PySem.Str renaming ofString->fI,empty->y8
open PySem.Value renaming isInt_shape->wm,ref->bo,type->dE,none->ek,bool->fb,int->hV,str->i4,isStrOf_shape->lR,float->px,isStrOf->ts,isInt->vX,bytes->v3
open PySem.W renaming mg_of->cD,mg_none_of->ju,kia_one->lJ,kia_tup->qZ,kitx_dict->zU,plainGet_of->IJ,methodCall_KW->DK,kitx_list->Eo,callWith_K->Gy,cellsFrom_some->RT
open PySem.W.WData renaming int->zr
open PySem.W.WShape renaming has->y0
open PySem.Walks renaming dictKeys->sh,list->y4
open PySem.WalksT renaming enumerate->o3,zip2->x4
open PySem.pickOrder renaming go->oi
open Sum renaming inl->dn,inr->mQ
open Sum.inl renaming inj->E3
open True renaming intro->ec
open PySem PySem.Spec PyProof.Rows
variable{nb bq:aF->Prop}{p x c0:Int}{a b C acc it dx:aF}{n i pl t' m j ep:Nat}{pins:List (aF×Obj)}{Q E:ag->aw->Prop}{ds:List PyData}{r bz L ns ws ms cn left:List Int}{mp:List (Option Nat)}{Θ:Bool->List PyData->Prop}{α κ:Type}{pr:Int×Int}{T:List (Nat×Nat)}{s:aw}{N NX:List Str}{w:cx}{us its:List ag}{mg mA:Str->Option ag}{A:(Str->Option ag)->eo->Prop}{pos:Pos}{u first oc:ag}{h base h':eo}{o:Obj}{osl:Array (Option ag)}{f:ag->ag->Sem ag}{ch fp:List aF}{scope:hX}{y:cx->eo->Prop}{d dd:PyData}{M:Model}{es:Array (Int×ag)}{l:PySem.W.OpenLaw}{tg e:eB}{items:Array ag}{QQ:Fin->aw->Prop}{env:Env}{fd:ft}{Ψ:PyData->Prop}{bt:Bool}{I:Nat->List PyData->Prop}{use:Option (ag->Sem Unit)}{g':Array mf}{outer:List Env}{cells:List (Str×aF)}{d':Drawn}{qual:Str}{tk:Tok}{ha:Nat->Int}{ks:List Nat}
namespace PySem.W.Fast
def tw3013873130817431733:=Nat
def tw8324518154160174054:=Nat
def tw17277772248948165754:=Nat
def tw15995846970633670506:=Nat
def tw18209152551771598562:=Nat
def tw17693964955726607530:=Nat
def tw10668547955728754149:=Nat
def tw18093487224608032886:=Nat
def tw12280321730522645770:=Nat
def tw4067209308209421602:=Nat
def tw16680465154250470963:=Nat
def tw11241585325803962290:=Nat
def tw1957677189206705267:=Nat
def tw4000811765313665624:=Nat
def tw14029983627489651344:=Nat
def tw5380672595847457032:=Nat
def tw202704643284905752:=Nat
def tw8895099305187537006:=Nat
def tw9680219134948600375:=Nat
def tw9045042654364432685:=Nat
def tw10547015025428173620:=Nat
def tw9902261161363687983:=Nat
def tw9537919196492241205:=Nat
def tw7086412884699860776:=Nat
def tw8882939511122485055:=Nat
def tw8471484506788912799:=Nat
def tw7552085718040345600:=Nat
def tw17987337196323415597:=Nat
def tw14307469545368678611:=Nat
def tw16329350363732430775:=Nat
def tw1605083869519336171:=Nat
def tw5986257654709614443:=Nat
def tw12026534712038833085:=Nat
def tw8297493312699119795:=Nat
def tw9631006099220644326:=Nat
def tw4294213423625920272:=Nat
def tw3955803660890465516:=Nat
def tw3861214789564768075:=Nat
def tw2795587977868647874:=Nat
def tw10011773915064601696:=Nat
def tw8614229080908082042:=Nat
def tw4231206920906770950:=Nat
def tw15615219098428678681:=Nat
def tw17403035818182488242:=Nat
def tw5547183402065216554:=Nat
def tw8821367245126666312:=Nat
def tw13026050131658910145:=Nat
def tw15680287144086340685:=Nat
def tw6824548060272896757:=Nat
def tw6324836536429372657:=Nat
def tw2401234105419056909:=Nat
def tw8098310797742945971:=Nat
def tw12209032063923794347:=Nat
def tw6220487733986661761:=Nat
def tw10389167326995532994:=Nat
def tw15679315123990318261:=Nat
def tw9605290078587331803:=Nat
def tw4957104361804751458:=Nat
def tw16694765422702160754:=Nat
def tw1095722647584128578:=Nat
def tw13404122784008322686:=Nat
def tw11478248656772928509:=Nat
def tw15747137658717663347:=Nat
def tw1985392505965918349:=Nat
def tw8380108092195133142:=Nat
def tw2080534375944943566:=Nat
def tw4587100369922233977:=Nat
def tw11770196356441432690:=Nat
def tw16569374410126862378:=Nat
def tw15060274668688713449:=Nat
def tw4190614418585822841:=Nat
def tw15827892636716926867:=Nat
def tw1235190615016810146:=Nat
def tw17136287849653840960:=Nat
def tw1766025992093223044:=Nat
def tw17276473375147857727:=Nat
def tw2857031898757234494:=Nat
def tw18050556363626571769:=Nat
def tw17618918071479731935:=Nat
def tw7345713262975254850:=Nat
def tw12100208434373643185:=Nat
def tw13726323661344064164:=Nat
def tw8061326813364457087:=Nat
def tw11215020895463896963:=Nat
def tw11099458004623514060:=Nat
def tw1851328889498496172:=Nat
def tw12907654640149008541:=Nat
def tw16595247325815123986:=Nat
def tw10635966780393184659:=Nat
def tw4093453468553223862:=Nat
def tw10145426651551864774:=Nat
def tw16882817346468810888:=Nat
def tw11985301952297170041:=Nat
def tw290526176056672375:=Nat
def tw16900477620505201641:=Nat
def tw12187266022156013949:=Nat
def tw16845624706570027135:=Nat
def tw5398901353637563023:=Nat
def tw10451750463825499436:=Nat
def tw9347266851310749572:=Nat
def tw14547022317668241200:=Nat
def tw1637225215326434533:=Nat
def tw3549391052958495672:=Nat
def tw12400487990079523699:=Nat
def tw16725195183956376119:=Nat
def tw4935819567427511264:=Nat
def tw11519083404295312801:=Nat
def tw13975154909287029939:=Nat
def tw4248911483734402047:=Nat
def tw18436653411223181381:=Nat
def tw10516326669626000356:=Nat
def tw10297377650614709224:=Nat
def tw8950579573075072534:=Nat
def tw16848138764670351327:=Nat
def tw2124673491489968355:=Nat
def tw6722589372485191611:=Nat
def tw993878308768552376:=Nat
def tw6376163442549668306:=Nat
def tw9680144629316793173:=Nat
def tw12282780989205769822:=Nat
def tw15584582872367394396:=Nat
def tw1245668892215351443:=Nat
def tw11205761100908077194:=Nat
def tw7134621531971036726:=Nat
def tw3711331064824516767:=Nat
def tw13331901868237467802:=Nat
def tw6471975365425955780:=Nat
def tw7031489611703773498:=Nat
def tw17496967999306153461:=Nat
def tw10877568180539049204:=Nat
def tw11350459944253369536:=Nat
def tw10475402149846636697:=Nat
def tw11355097139490210330:=Nat
def tw8320015396458444448:=Nat
def tw11184140089581959250:=Nat
def tw9672056577509374322:=Nat
def tw14063582128220640419:=Nat
def tw17766397803341688586:=Nat
def tw6808284736396526602:=Nat
def tw14229608031090343690:=Nat
def tw16607864054358246922:=Nat
def tw17860126792681134702:=Nat
def tw16971426700171597581:=Nat
def tw16254865998508777154:=Nat
def tw13571225649668833162:=Nat
def tw15027706684955804897:=Nat
def tw4901604781689493056:=Nat
def tw10593663460977232633:=Nat
def tw16236735641095744268:=Nat
def tw6648304170871468478:=Nat
def tw7973550738851186984:=Nat
def tw4005094973391889545:=Nat
def tw1160685660991138331:=Nat
def tw10902177502875170597:=Nat
def tw17921396818934313379:=Nat
def tw6887289179277394138:=Nat
def tw6005205519286813733:=Nat
def tw16490528105378604843:=Nat
def tw6074781144689872929:=Nat
def tw15576700473601749767:=Nat
def tw15070242256858250966:=Nat
def tw11950428841418939507:=Nat
def tw12959944697067230039:=Nat
def tw2373560435501704609:=Nat
def tw4210088611976755200:=Nat
def tw11918044727664267341:=Nat
def tw15220837206148231143:=Nat
def tw17271887174368167307:=Nat
def tw2192143699486711701:=Nat
def tw10920785087686283466:=Nat
def tw8630782191098881072:=Nat
def tw17405137051559230025:=Nat
def tw6320337056885482860:=Nat
def tw14373534891096418338:=Nat
def tw14532769595825020927:=Nat
def tw1201564361068229441:=Nat
def tw14636645724205742689:=Nat
def tw14777297931053196435:=Nat
def tw4662726905633873150:=Nat
def tw7089370595480445774:=Nat
def tw1190032995446217796:=Nat
def tw18400865604080242101:=Nat
def tw854998739900977173:=Nat
def tw14772120233584330987:=Nat
def tw419444357340676481:=Nat
def tw16833876203981884488:=Nat
def tw16407601935219785674:=Nat
def tw5126848168325412754:=Nat
def tw5966653384122463107:=Nat
def tw16148377705840481893:=Nat
def tw496940491225913279:=Nat
def tw8475596893153560123:=Nat
def tw1752310323900182981:=Nat
def tw2727858742913165416:=Nat
def tw14532436351483480710:=Nat
def tw6937486954091441905:=Nat
def tw15305038275468211117:=Nat
def tw9287346640785772396:=Nat
def tw2808348062724616040:=Nat
def tw11987658800600289962:=Nat
def tw12741605053526944894:=Nat
def tw8540893647377077699:=Nat
def tw11323476180648475494:=Nat
def tw13663719903725691359:=Nat
def tw8923081555866356804:=Nat
def tw15281181592755850777:=Nat
def tw17241851201297321856:=Nat
def tw8172696295978810642:=Nat
def tw15511312834755841817:=Nat
def tw9437380227244844746:=Nat
def tw15574658110709143110:=Nat
def tw14996416370692939547:=Nat
end PySem.W.Fast
noncomputable def Ew:= @PySem.F.plain_extend_loop
namespace L2
noncomputable abbrev Key:=Sum Int Str
noncomputable def sU:Key->ag->Bool
 | .inl k,v=>vX k v
 | .inr x,v=>ts x v
noncomputable def X2(w:cx):Key->Int
 | .inl k=>hashInt k
 | .inr x=>hashStr w x
def nG:∀{k:Key} {v:ag},sU k v=true->(∃i t,k=dn i/\v=hV i t)\/(∃x t,k=mQ x/\v=i4 x t)
  | .inl i, v, h => by
    obtain⟨t,e⟩:=wm (k:=i) (v:=v) h;exact .inl ⟨i,t,rfl,e⟩
  | .inr x, v, h => by
    obtain⟨t,e⟩:=lR (x:=x) (v:=v) h;exact .inr ⟨x,t,rfl,e⟩
def Hf(i:Int)(t:Tok):sU (.inl i) (.int i t)=true:=by simp[sU,vX]
def ace(x:Str)(t:Tok):sU (.inr x) (.str x t)=true:=by simp[sU,ts]
def T4(a b:Int):decide ((dn a:Key)=dn b)=(a==b):=by
 by_cases e:a=b;·subst e;simp
 .have h:¬(dn a:Key)=dn b:=λq=>e (E3 q);rw[decide_eq_false h];exact(beq_eq_false_iff_ne.mpr e).symm
def Zo(a b:Str):decide ((mQ a:Key)=mQ b)=decide (a=b):=by
 by_cases e:a=b;·subst e;simp
 .have h:¬(mQ a:Key)=mQ b:=λq=>e (Sum.inr.inj q);rw[decide_eq_false h,decide_eq_false e]
def ZA(a:Int)(b:Str):decide ((dn a:Key)=mQ b)=false:=decide_eq_false (λq=>nomatch q)
def Vh(a:Str)(b:Int):decide ((mQ a:Key)=dn b)=false:=decide_eq_false (λq=>nomatch q)
noncomputable def eX(prog:bc)(w:cx):PySem.KeyKind prog w Key where
 is:=sU
 hash:=X2 w
 inj:=λv a b ha hb=>by
  rcases nG ha with ⟨i,t,rfl,rfl⟩|⟨x,t,rfl,rfl⟩
  .rcases nG hb with ⟨j,u,rfl,e⟩|⟨y,u,rfl,e⟩
   .injection e with e1 _;rw[e1]
   .exact nomatch e
  .rcases nG hb with ⟨j,u,rfl,e⟩|⟨y,u,rfl,e⟩
   .exact nomatch e
   .injection e with e1 _;rw[e1]
 byValue:=λk v h=>by
  rcases nG h with ⟨i,t,rfl,rfl⟩|⟨x,t,rfl,rfl⟩<;>rfl
 pyHash:=λhv h=>by
  rcases nG hv with ⟨i,t,rfl,rfl⟩|⟨x,t,rfl,rfl⟩
  .exact wpAny_pyHash_int h
  .exact wpAny_pyHash_str h
 eqBool:=λhu hv h=>by
  rcases nG hu with ⟨i,t,rfl,rfl⟩|⟨x,t,rfl,rfl⟩
  .rcases nG hv with ⟨j,u,rfl,rfl⟩|⟨y,u,rfl,rfl⟩
   .rw[T4] at h;exact wpAny_eqBool_int h
   .rw[ZA] at h;exact md i t y u _ _ _ _ h
  .rcases nG hv with ⟨j,u,rfl,rfl⟩|⟨y,u,rfl,rfl⟩
   .rw[Vh] at h;exact me x t j u _ _ _ _ h
   .rw[Zo] at h;exact wpAny_eqBool_str h
 «strs» :=λk x t v h=>by
  rcases nG h with ⟨i,u,rfl,e⟩|⟨y,u,rfl,e⟩
  .exact nomatch e
  .injection e with e1 _
   subst e1
   cases v<;>rfl
def Xj(prog:bc)(w:cx)(i:Int)(t:Tok):(eX prog w).is (.inl i) (.int i t)=true:=Hf i t
def Ye(prog:bc)(w:cx)(x:Str)(t:Tok):(eX prog w).is (.inr x) (.str x t)=true:=ace x t
inductive V where
 |aP|bl (b:Bool)|int (i:Int)|str (x:Str)|kj (b:Array UInt8)|mR (b:UInt64)|ref (a:aF)|ty (n:String)
 deriving DecidableEq
def RelV:V->ag->Prop
 | .aP,u=>u=ek
 | .bl b,u=>u=fb b
 | .int i,u=>∃t,u=hV i t
 | .str x,u=>∃t,u=i4 x t
 | .kj b,u=>∃t,u=v3 b t
 | .mR b,u=>∃t,u=px b t
 | .ref a,u=>u=bo a
 | .ty n,u=>u=dE n
abbrev Vals:List V->List ag->Prop:=Paired RelV
theorem Vals.length{xs:List V}{us:List ag}(r:Vals xs us):xs.length=us.length:=Paired.length r
theorem Vals.get:∀{xs:List V} {us:List ag} {i:Nat} {x:V},Vals xs us->xs[i]?=some x->∃u,us[i]?=some u/\RelV x u
  |_,_,_,_, .nil,e=>by simp at e
  |_,_,0,_, .cons r _,e=>by simp at e;subst e;exact⟨_,rfl,r⟩
  | _, _, i + 1, x, .cons _ t, e => by
    obtain⟨u,h1,h2⟩:=Vals.get (i:=i) (x:=x) t (by simpa using e);exact⟨u,by simpa using h1,h2⟩
theorem Vals.set{x:V}{u:ag}(r:RelV x u):∀{xs:List V} {us:List ag} (i:Nat),Vals xs us->Vals (xs.set i x) (us.set i u)
 |_,_,_, .nil=> .nil
 |_,_,0, .cons _ t=> .cons r t
 |_,_,i+1, .cons q t=> .cons q (Vals.set r i t)
theorem Vals.append:∀{xs ys:List V} {us ws:List ag},Vals xs us->Vals ys ws->Vals (xs++ys) (us++ws)
 |_,_,_,_, .nil,s=>s
 |_,_,_,_, .cons r t,s=> .cons r (Vals.append t s)
theorem Vals.take:∀{xs:List V} {us:List ag} (n:Nat),Vals xs us->Vals (xs.take n) (us.take n)
 |_,_,0,_=> .nil
 |_,_,_+1, .nil=> .nil
 |_,_,n+1, .cons r t=> .cons r (Vals.take n t)
theorem Vals.drop:∀{xs:List V} {us:List ag} (n:Nat),Vals xs us->Vals (xs.drop n) (us.drop n)
 |_,_,0,r=>r
 |_,_,_+1, .nil=> .nil
 |_,_,n+1, .cons _ t=>Vals.drop n t
def jd:Option V->Option ag->Prop
 |some v,some u=>RelV v u
 |none,none=>True
 |_,_=>False
def KV:List (κ×V)->List (κ×ag)->Prop:=Paired λ(p:κ×V) (q:κ×ag)=>p.1=q.1/\RelV p.2 q.2
noncomputable def kV:Key->V
 | .inl i=> .int i
 | .inr x=> .str x
inductive HO where
  |lst (xs:List V)
  |tup (xs:List V)
  |dK (kvs:List (Key×V))|dT (kvs:List (List Key×V))
  |set (S:Int->Bool) (n:Nat)
  |ins (C dx:aF) (fs:List (Str×V))
  |own (x:aF)
  |xd (fs:List (Str×V))
  |met (f x:aF)
  |AO (lo hi:Int)
  |cV (o:Obj) (u:HO)
  |qG (ps:Array ag)
  |ext (φ:eo->Prop)
noncomputable abbrev Hp:=aF->Option HO
noncomputable def upd(H:Hp)(a:aF)(o:HO):Hp:=λb=>if b=a then some o else H b
def bx{H:Hp}{o:HO}:upd H a o a=some o:=by unfold upd;rw[if_pos rfl]
def aH{H:Hp}{o:HO}(h:b≠a):upd H a o b=H b:=by unfold upd;rw[if_neg h]
def JP{H:Hp}{o u:HO}:upd (upd H a o) a u=upd H a u:=by
 funext b;unfold upd;split<;>rfl
def jJ{H:Hp}{o:HO}(h:H a=some o)(h':H b=none):a≠b:=by
 intro e;subst e;rw[h] at h';cases h'
section
variable(P:bc)(w:cx)
def cK(H:Hp)(h:eo)(a:aF):HO->Prop
 | .lst xs=>xs.length<=sizeLine/\∃(its:List ag) (n:Nat),Vals xs its/\h.get? a=some {cls:= .type "list",data:= .seq its.toArray n}
 | .tup xs=>xs.length<=sizeLine/\∃its:List ag,Vals xs its/\IsTup h a its.toArray
 | .dK kvs=>kvs.length<=sizeLine/\(a==eM)=false/\∃vs,KV kvs vs/\h.DictOf (eX P w) a vs
 | .dT kvs => kvs.length <= sizeLine /\ (a == sysModules) = false /\ ∃ xs : List (List Key × Addr × Value),
   Paired (λ(p:List Key×V) (q:List Key×aF×ag)=>p.1=q.1/\H q.2.1=some (.tup (p.1.map kV))/\RelV p.2 q.2.2) kvs xs/\
   ∃o es ep,h.get? a=some o/\o.ExactDict/\o.data= .dict es ep/\es.toList=xs.map (entryOfKey (pz (eX P w)))/\(xs.map (·.1)).Nodup
 | .set S n=>h.SetOf (intKind P w) a S n
 | .ins C dx fs => H dx = some (.own a) /\ fs.length <= 1000 /\ dx ≠ a /\ h.get? a = some (PySem.W.instObj C dx) /\
   ∃mA,h.Ns1 dx mA/\(∀f,jd (fs.lookup f) (mA f))/\PySem.Within mA (fs.map (·.1))
 | .own _=>∃o,h.get? a=some o
 | .xd fs=>∃mA,h.Ns1 a mA/\∀f,jd (fs.lookup f) (mA f)
 | .AO lo hi=>∃t u v,h.get? a=some {cls:= .type "range",data:= .fields #[.int lo t, .int hi u, .int 1 v]}
 | .cV o u=>h.get? a=some o/\cK H h a u
 | .qG ps=>h.get? a=some {cls:= .none,data:= .fields ps}
 | .met f x=>h.get? a=some (PySem.W.methodObj (.ref f) (.ref x))
 | .ext φ=>φ h/\(∃o,h.get? a=some o)/\∀h1 h2:eo,φ h1->(∀o,h1.get? a=some o->h2.get? a=some o)->φ h2
def ff(H:Hp)(h:eo):Prop:=∀a o,H a=some o->cK P w H h a o
end
section
variable{P:bc}{w:cx}{H H':Hp}{h h':eo}{a:aF}{o:HO}
theorem cK.lt(x:cK P w H h a o):a<h.objs.size:=by
 cases o with
 |lst xs=>obtain⟨_,_,_,_,e⟩:=x;exact bN e
 |tup xs=>obtain⟨_,_,_,p⟩:=x;exact p.lt
 |dK kvs=>obtain⟨_,_,_,_,o,_,_,e,_⟩:=x;exact bN e
 |dT kvs=>obtain⟨_,_,_,_,o,_,_,e,_⟩:=x;exact bN e
 |set S n=>obtain⟨o,_,_,_,e,_⟩:=x;exact bN e
 |ins C dx fs=>obtain⟨_,_,_,e,_⟩:=x;exact bN e
 |own y=>obtain⟨_,e⟩:=x;exact bN e
 |xd fs=>obtain⟨_,⟨_,_,_,e,_⟩,_⟩:=x;exact bN e
 |AO lo hi=>obtain⟨_,_,_,e⟩:=x;exact bN e
 |cV B u=>obtain⟨e,_⟩:=x;exact bN e
 |qG ps=>exact bN (show h.get? a=some _ from x)
 |met f y=>exact bN (show h.get? a=some _ from x)
 |ext φ=>obtain⟨_,⟨_,e⟩,_⟩:=x;exact bN e
theorem Paired.SI{α c:Type}{F G:α->c->Prop}:∀{d:List α} {l₂:List c},Paired F d l₂->(∀a b,F a b->G a b)->Paired G d l₂
 |_,_, .nil,_=> .nil
 |_,_, .cons r t,f=> .cons (f _ _ r) (Paired.SI t f)
def cK.stay(x:cK P w H h a o)(k:∀b u,(b=a\/H b=some (.own a))->h.get? b=some u->h'.get? b=some u)
    (ho:∀b,H b=some (.own a)->H' b=some (.own a)) (ht:∀b xs,H b=some (.tup xs)->H' b=some (.tup xs)):cK P w H' h' a o:=by
  induction o with
  |lst xs=>obtain⟨z,its,n,r,e⟩:=x;exact⟨z,its,n,r,k _ _ (.inl rfl) e⟩
  |tup xs=>obtain⟨z,its,r,B,e,c⟩:=x;exact⟨z,its,r,B,k _ _ (.inl rfl) e,c⟩
  |dK kvs=>obtain⟨z,y,vs,r,B,es,ep,e,c⟩:=x;exact⟨z,y,vs,r,B,es,ep,k _ _ (.inl rfl) e,c⟩
  | dT kvs =>
    obtain⟨z,y,xs,r,B,es,ep,e,c⟩:=x;exact⟨z,y,xs,Paired.SI r λp q z=>⟨z.1,ht _ _ z.2.1,z.2.2⟩,B,es,ep,k _ _ (.inl rfl) e,c⟩
  |set S n=>obtain⟨B,es,ep,t,e,c⟩:=x;exact⟨B,es,ep,t,k _ _ (.inl rfl) e,c⟩
  | ins C dx fs =>
    obtain⟨d,z,ne,e,mA,⟨od,es,ep,e2,c⟩,r⟩:=x;exact⟨ho _ d,z,ne,k _ _ (.inl rfl) e,mA,⟨od,es,ep,k _ _ (.inr d) e2,c⟩,r⟩
  |own y=>obtain⟨B,e⟩:=x;exact⟨B,k _ _ (.inl rfl) e⟩
  |xd fs=>obtain⟨mA,⟨od,es,ep,e,c⟩,r⟩:=x;exact⟨mA,⟨od,es,ep,k _ _ (.inl rfl) e,c⟩,r⟩
  |AO lo hi=>obtain⟨t,u,v,e⟩:=x;exact⟨t,u,v,k _ _ (.inl rfl) e⟩
  |cV B u ih=>obtain⟨e,q⟩:=x;exact⟨k _ _ (.inl rfl) e,ih q⟩
  | qG ps =>
    have e:h.get? a=some {cls:= .none,data:= .fields ps}:=x;show h'.get? a=some {cls:= .none,data:= .fields ps};exact k a _ (.inl rfl) e
  | met f y =>
    have e:h.get? a=some (PySem.W.methodObj (.ref f) (.ref y)):=x;show h'.get? a=some (PySem.W.methodObj (.ref f) (.ref y));exact k a _ (.inl rfl) e
  |ext φ=>obtain⟨p,⟨o,e⟩,st⟩:=x;exact⟨st _ _ p λo q=>k _ _ (.inl rfl) q,⟨o,k _ _ (.inl rfl) e⟩,st⟩
theorem ff.lt(x:ff P w H h)(e:H a=some o):a<h.objs.size:=(x a o e).lt
def ff.fresh(x:ff P w H h)(e:h.objs.size<=a):H a=none:=by
 cases q:H a with
 |none=>rfl
 |some u=>exact absurd (eK (x.lt q) e) (i7 _)
def ff.kept(x:ff P w H h)(k:∀b u,h.get? b=some u->h'.get? b=some u):ff P w H h':=λa o e=>
 (x a o e).stay (λb u _ q=>k b u q) (λ_ q=>q) λ_ _ q=>q
def ff.laid(x:ff P w H h)(k:∀b u,h.get? b=some u->h'.get? b=some u)(hp:h.objs.size<=a)(new:cK P w (upd H a o) h' a o):ff P w (upd H a o) h':=λb u e=>by
 have hn:=x.fresh hp;by_cases hb:b=a;·subst hb;rw[bx] at e;cases e;exact new
 .rw[aH hb] at e;exact(x b u e).stay (λc v _ q=>k c v q) (λc q=>by rw[aH (jJ q hn)];exact q) λc xs q=>by rw[aH (jJ q hn)];exact q
end
def Rd(H:Hp)(a:aF)(u:HO):Prop:=H a=some u\/∃o,H a=some (.cV o u)
def Rd.ok{P:bc}{H:Hp}{u:HO}(r:Rd H a u)(x:ff P w H h):cK P w H h a u:=by
 rcases r with r|⟨o,r⟩
 .exact x a u r
 .obtain⟨_,q⟩:=x a _ r;exact q
def wX:Option HO->Prop
 |some (.lst _)=>True
 |some (.dK _)=>True
 |some (.dT _)=>True
 |some (.set _ _)=>True
 |some (.ins _ _ _)=>True
 |some (.ext _)=>True
 |_=>False
section
variable{P:bc}{w:cx}{H:Hp}{h h':eo}{x e:aF}{o':HO}
def ff.write(ok:ff P w H h)(d:wX (H x))(he:e=x\/H e=some (.own x))(k:∀b u,b≠e->h.get? b=some u->h'.get? b=some u)(f:∃u,h'.get? e=some u)
  (new:cK P w (upd H x o') h' x o'):ff P w (upd H x o') h':=λb u q=>by
 have g:∀c y,H c=some (.own y)->c≠x:=λc y r z=>by subst z;rw[r] at d;exact d
 have i:∀c xs,H c=some (.tup xs)->c≠x:=λc xs r z=>by subst z;rw[r] at d;exact d
 by_cases hb:b=x;·subst hb;rw[bx] at q;cases q;exact new
 .rw[aH hb] at q;by_cases a:b=e
  .have L:H b=some (.own x):=by
    rcases he with z|z
    .exact absurd (a.trans z) hb
    .rw[a];exact z
   rw[q] at L;cases L
   obtain⟨v,hv⟩:=f;exact⟨v,by rw[a];exact hv⟩
  .refine(ok b u q).stay (λc v hc r=>k c v ?_ r) (λc r=>by rw[aH (g c b r)];exact r) λc xs r=>by rw[aH (i c xs r)];exact r
   rcases hc with rfl|hc
   .exact a
   .rintro rfl;rcases he with z|z
    .exact g c b hc z
    .rw[hc] at z;cases z;exact hb rfl
end
structure Un(fs ex:List aF)(H H':Hp)(h h':eo):Prop where
 keep:∀b o,h.get? b=some o->H b=none->b∉fs->b∉ex->h'.get? b=some o
 slot:∀b o,h.get? b=some o->H b=none->b∈fs->b∉ex->∃sl,h'.get? b=some {o with slots:=sl}
 free:∀b o,h.get? b=some o->H b=none->b∉ex->H' b=none
 there:∀b o,h.get? b=some o->b∉ex->∃o',h'.get? b=some o'
 tups:∀b xs,H b=some (.tup xs)->H' b=some (.tup xs)
 lY:∀b o u,H b=some (.cV o u)->H' b=some (.cV o u)
 n9:∀b ps,H b=some (.qG ps)->∃more,H' b=some (.qG (ps++more))
section
variable{fs fs' ex ex':List aF}{H H1 H2:Hp}{h h1 h2 h':eo}{a x e:aF}{o:HO}
def Un.any(u:Un fs ex H H1 h h1){b:aF}{B:Obj}(q:h.get? b=some B)(n:H b=none)(hx:b∉ex):∃sl,h1.get? b=some {B with slots:=sl}:=by
 by_cases hb:b∈fs;·exact u.slot b B q n hb hx
 .exact⟨B.slots,u.keep b B q n hb hx⟩
def Un.kept(k:∀b u,h.get? b=some u->h'.get? b=some u):Un fs ex H H h h':=
 ⟨λb B q _ _ _=>k b B q,λb B q _ _ _=>⟨B.slots,k b B q⟩,λ_ _ _ n _=>n,λb B q _=>⟨B,k b B q⟩,λ_ _ q=>q,λ_ _ _ q=>q,λ_ ps q=>⟨#[],by rw[q];simp⟩⟩
def Un.refl:Un fs ex H H h h:=Un.kept λ_ _ q=>q
def Un.laid(k:∀b u,h.get? b=some u->h'.get? b=some u)(hp:h.objs.size<=a)(hn:H a=none):Un fs ex H (upd H a o) h h' where
 keep:=λb u q _ _ _=>k b u q
 slot:=λb u q _ _ _=>⟨u.slots,k b u q⟩
 free:=λb u q n _=>by rw[aH (dz (eK (bN q) hp))];exact n
 there:=λb u q _=>⟨u,k b u q⟩
 tups:=λb xs q=>by rw[aH (jJ q hn)];exact q
 lY:=λb u xs q=>by rw[aH (jJ q hn)];exact q
 n9:=λb ps q=>⟨#[],by rw[aH (jJ q hn),q];simp⟩
def Un.write(d:wX (H x))(he:e=x\/H e=some (.own x))(k:∀b u,b≠e->h.get? b=some u->h'.get? b=some u)(f:∃u,h'.get? e=some u):Un fs ex H (upd H x o) h h':=by
 have hx:∀b,H b=none->b≠x:=λb n z=>by subst z;rw[n] at d;exact d
 have hb:∀b,H b=none->b≠e:=λb n z=>by
  subst z;rcases he with r|r
  .exact hx b n r
  .rw[n] at r;cases r
 have hm:∀b u,H b=some u->¬wX (some u)->b≠x:=λb u q nm z=>by subst z;rw[q] at d;exact nm d
 refine⟨λb u q n _ _=>k b u (hb b n) q,λb u q n _ _=>⟨u.slots,k b u (hb b n) q⟩,λb u q n _=>by rw[aH (hx b n)];exact n,λb u q _=>?_,
  λb xs q=>by rw[aH (hm b _ q λz=>z)];exact q,λb u xs q=>by rw[aH (hm b _ q λz=>z)];exact q,λb ps q=>⟨#[],by rw[aH (hm b _ q λz=>z),q];simp⟩⟩
 by_cases a:b=e;·subst a;exact f
 .exact⟨u,k b u a q⟩
end
noncomputable def zD(h:eo)(H:Hp):List aF:=(aL h.objs.size).filter λa=>(H a).isSome
noncomputable def nW(h:eo)(H:Hp):eo:=PySem.W.hideAll h (zD h H)
def Ue(h:eo)(H:Hp):(nW h H).objs.size=h.objs.size:=PySem.W.hideAll_size _ _
def Nf{H:Hp}(e:h.get? b=some o)(n:H b=none):(nW h H).get? b=some o:=
 PySem.W.hideAll_get _ e λhm=>by
  have q:(H b).isSome=true:=(fG.mp hm).2;rw[n] at q;simp at q
def Hk{H:Hp}(e:(nW h H).get? b=some o):h.get? b=some o/\H b=none:=by
  have e':h.get? b=some o:=PySem.W.of_hideAll (zD h H) e;refine⟨e',?_⟩;cases q:H b with
  |none=>rfl
  | some x =>
    have hm:b∈zD h H:=fG.mpr ⟨iQ.mpr (bN e'),by simp[q]⟩;have z:(nW h H).get? b=none:=PySem.W.hideAll_none (zD h H) hm;rw[z] at e;cases e
noncomputable def Ta(g h:eo)(L:aF):List (aF×Obj):=(aL h.objs.size).filterMap λa=>if a=L\/(g.get? a).isSome=true then none else(h.get? a).map λo=>(a,o)
noncomputable def rest(g h:eo)(L d:aF):List (aF×Obj):=(Ta g h L).filter λp=>decide (p.1≠d)
structure Mod(K:PySem.W.Frag)(mg:Str->Option ag)(base:eo):Prop where
 uU:K.In base
 glob:base.Ns ba mg
 blt:∃mb,base.Ns sk mb/\∀x:Str,x≠"__name__" ->mb x=hH x
 nolimit:base.NoLimit
structure Cx where
 prog:bc
 w:cx
 K:PySem.W.Frag
 mg:Str->Option ag
 base:eo
 A:c3
 N:List Str
 s₀:aw
 H₀:Hp
 env:Env
 outer:List Env
 stack:List Env
 ex:List aF
 fn:Str->Bool
 calm:Bool
 pn:List (aF×Obj)
 xe:ag->aw->Prop
noncomputable def frs(l:List Env):List aF:=l.filterMap (·.frame)
noncomputable abbrev Cx.fs(X:Cx):List aF:=frs X.outer
def Il(sc:hX)(x:Str):Prop:=sc.names.lookup x=some .local\/sc.names.lookup x=some .cell\/sc.names.lookup x=some .free
def Loc(sc:hX)(x:Str):Prop:=sc.names.lookup x=some .local\/sc.names.lookup x=some .cell
def Look(env:Env)(h:eo)(m:Str->Option ag)(x:Str)(u:ag):Prop:=
 (env.kindOf x=some .local/\m x=some u)\/((env.kindOf x=some .cell\/env.kindOf x=some .free)/\∃c,env.cells.lookup x=some c/\h.IsCell c (some u))
structure Cx.Ok(X:Cx):Prop where
 mod:Mod X.K X.mg X.base
 kind:X.env.scope.kind= .function
 glob:X.env.globals=ba
 blt:X.env.builtins=sk
 above:X.s₀.heap.objs.size<=X.env.locals
 inj:∀x y c,X.env.cells.lookup x=some c->X.env.cells.lookup y=some c->x=y
 has:∀x,(X.env.kindOf x=some .cell\/X.env.kindOf x=some .free)->∃c,X.env.cells.lookup x=some c
 wz:∀x c,X.fn x=true->X.env.cells.lookup x=some c->X.s₀.heap.objs.size<=c
 hd:X.calm=true->X.A.handled=none
 frames:X.A.frames=some X.stack
 stk:X.stack=X.outer\/(X.stack=X.env::X.outer/\X.env.frame=some X.env.locals)
 AG:∀b∈X.ex,b≠X.env.locals/\∀x c,X.env.cells.lookup x=some c->c≠b
 bs:∀b o,X.base.get? b=some o->X.s₀.heap.get? b=some o/\X.H₀ b=none
 qg:X.base.objs.size<=X.s₀.heap.objs.size
 vD:∀b o,X.base.get? b=some o->b∉X.ex
 uS:∀b∈X.ex,b∉X.fs
 k8:X.s₀.heap.FunFrames X.base X.outer
 rX:∀b∈X.fs,X.H₀ b=none
structure Inv(X:Cx)(pins:List (aF×Obj))(σ:List (Option V))(H:Hp)(s:aw):Prop where
 ok:X.Ok
 os:s.os=X.s₀.os
 bare:kL s.gens
 base:Un X.fs X.ex X.H₀ H X.s₀.heap s.heap
 loc:∃m,s.heap.Ns X.env.locals m/\∀(i:Nat) (x:Str) (v:V),X.N[i]?=some x->σ[i]?=some (some v)->Il X.env.scope x->∃u,RelV v u/\Look X.env s.heap m x u
 cell:∀x c,X.env.cells.lookup x=some c->∃v,s.heap.IsCell c v
 free:H X.env.locals=none
 kJ:∀x c,X.env.cells.lookup x=some c->H c=none
 pin:∀p∈X.pn++pins,s.heap.get? p.1=some p.2/\H p.1=none/\p.1≠X.env.locals/\p.1∉X.fs/\∀v,p.2.data≠ .cell v
 hok:ff X.prog X.w H s.heap
 len:σ.length=X.N.length
section
variable{X:Cx}{pins:List (aF×Obj)}{σ:List (Option V)}{H H':Hp}{s:aw}{h':eo}
def Cx.Ok.Vz(ok:X.Ok){b:aF}{o:Obj}(e:X.base.get? b=some o):b∉X.fs:=λhb=>by
 have:=(ok.k8.mem hb).1;rw[e] at this;cases this
theorem Inv.bs(I:Inv X pins σ H s):∀b o,X.base.get? b=some o->s.heap.get? b=some o/\H b=none:=λb o e=>
 ⟨I.base.keep b o (I.ok.bs b o e).1 (I.ok.bs b o e).2 (I.ok.Vz e) (I.ok.vD b o e),I.base.free b o (I.ok.bs b o e).1 (I.ok.bs b o e).2 (I.ok.vD b o e)⟩
def Inv.bk(I:Inv X pins σ H s):∀b o,X.base.get? b=some o->s.heap.get? b=some o:=λb o e=>(I.bs b o e).1
theorem Inv.mod(I:Inv X pins σ H s):Mod X.K X.mg X.base:=I.ok.mod
def Inv.dX(I:Inv X pins σ H s):X.K.In s.heap:=I.ok.mod.uU.keeps I.bk
theorem Inv.lt(I:Inv X pins σ H s):X.env.locals<s.heap.objs.size:=let ⟨_,hn,_⟩:=I.loc;hn.lt
def Inv.sz(I:Inv X pins σ H s):X.s₀.heap.objs.size<=s.heap.objs.size:=dP I.ok.above (lE I.lt)
def Inv.S7(I:Inv X pins σ H s){a:aF}(h:s.heap.objs.size<=a):a∉X.fs:=λhb=>by
 obtain⟨_,o,ho,_⟩:=I.ok.k8.mem hb;exact absurd (eK (bN ho) (dP I.sz h)) (i7 _)
def Inv.qB(I:Inv X pins σ H s):∀x c,X.env.cells.lookup x=some c->c≠X.env.locals:=λx c e z=>by
 obtain⟨v,o,ho,hd⟩:=I.cell x c e;obtain⟨m,⟨o',es,ep,d,l,_⟩,_⟩:=I.loc;rw[z,d] at ho;cases ho;rw[l] at hd;cases hd
theorem Inv.k8(I:Inv X pins σ H s):s.heap.FunFrames X.base X.outer:=by
  have all:∀(l:List Env),(∀b∈frs l,b∈X.fs)->X.s₀.heap.FunFrames X.base l->s.heap.FunFrames X.base l:=by
    intro l;induction l with
    |nil=>intro _ _;trivial
    | cons env r ih =>
      intro hs hl;obtain⟨hk,⟨L,o,hf,hn,ho,hd⟩,hr⟩:=hl;have hL:L∈X.fs:=hs L (by unfold frs;rw[uq,hf];exact cN);obtain⟨sl,e⟩:=I.base.slot L o ho (I.ok.rX L hL) hL λz=>I.ok.uS L z hL;exact⟨hk,⟨L,_,hf,hn,e,hd⟩,ih (λb hb=>hs b (by unfold frs;rw[uq,hf];exact cM _ hb)) hr⟩
  exact all X.outer (λ_ hb=>hb) I.ok.k8
theorem Inv.stack(I:Inv X pins σ H s):s.heap.FunFrames X.base X.stack:=by
 rcases I.ok.stk with e|⟨e,hf⟩
 .rw[e];exact I.k8
 .rw[e];obtain⟨m,hn,_⟩:=I.loc;refine .cons (by rw[I.ok.kind];decide) hf hn ?_ I.k8;exact Heap.get?_none_of_le (dP I.ok.qg I.ok.above)
def Inv.Im(I:Inv X pins σ H s):∀b∈frs X.stack,b∈X.env.locals::X.fs:=λb hb=>by
 rcases I.ok.stk with e|⟨e,hf⟩
 .rw[e] at hb;exact cM _ hb
 .rw[e] at hb;unfold frs at hb;rw[uq,hf] at hb;exact hb
def Inv.Rj(I:Inv X pins σ H s):∀b∈frs X.stack,H b=none:=λb hb=>by
 rcases aY.mp (I.Im b hb) with e|hb
 .rw[e];exact I.free
 .obtain⟨_,o,ho,_⟩:=I.ok.k8.mem hb;exact I.base.free b o ho (I.ok.rX b hb) λz=>I.ok.uS b z hb
def Inv.step(I:Inv X pins σ H s)
  (a:∀b∈ch,(b∈X.ex\/X.s₀.heap.objs.size<=b)/\b≠X.env.locals/\(∀x c,X.env.cells.lookup x=some c->c≠b)/\∀p∈X.pn++pins,p.1≠b)
  (keep:∀b o,b≠X.env.locals->b∉X.fs->b∉ch->s.heap.get? b=some o->H b=none->h'.get? b=some o)
  (slot:∀b o,b≠X.env.locals->b∈X.fs->b∉ch->s.heap.get? b=some o->H b=none->∃sl,h'.get? b=some {o with slots:=sl}) (free:∀b o,b∉ch->s.heap.get? b=some o->H b=none->H' b=none)
  (there:∀b o,b∉ch->s.heap.get? b=some o->∃o',h'.get? b=some o')
  (tups:∀b xs,H b=some (.tup xs)->H' b=some (.tup xs)) (lY:∀b o u,H b=some (.cV o u)->H' b=some (.cV o u)) (n9:∀b ps,H b=some (.qG ps)->∃more,H' b=some (.qG (ps++more)))
  (ns:∀m,s.heap.Ns X.env.locals m->h'.Ns X.env.locals m) (hok:ff X.prog X.w H' h') (hg:kL g'):
  Inv X pins σ H' {s with heap:=h',gens:=g',drawn:=d',toks:=t'}:=by
 have y:∀b o,X.s₀.heap.get? b=some o->b≠X.env.locals:=λb o e=>dz (eK (bN e) I.ok.above);have h:∀b o,X.s₀.heap.get? b=some o->b∉X.ex->b∉ch:=λb o e hx hb=>by
  rcases(a b hb).1 with z|z
  .exact hx z
  .exact absurd (eK (bN e) z) (i7 _)
 have f:∀x c,X.env.cells.lookup x=some c->∀v,s.heap.IsCell c v->h'.IsCell c v:=λx c e v ⟨o,ho,hd⟩=>by
  have g:c∉ch:=λz=>(a c z).2.2.1 x c e rfl;by_cases hc:c∈X.fs
  .obtain⟨sl,q⟩:=slot c o (I.qB x c e) hc g ho (I.kJ x c e);exact⟨_,q,hd⟩
  .exact⟨o,keep c o (I.qB x c e) hc g ho (I.kJ x c e),hd⟩
 refine⟨I.ok,I.os,hg,⟨λb o e n hb hx=>?_,λb o e n hb hx=>?_,λb o e n hx=>?_,λb o e hx=>?_,λb xs e=>tups b xs (I.base.tups b xs e),λb o xs e=>lY b o xs (I.base.lY b o xs e),λb ps e=>?_⟩,?_,λx c e=>?_,?_,λx c e=>?_,λp hp=>?_,hok,I.len⟩;·exact keep b o (y b o e) hb (h b o e hx) (I.base.keep b o e n hb hx) (I.base.free b o e n hx)
 .obtain⟨sl,e1⟩:=I.base.slot b o e n hb hx;obtain⟨j,e2⟩:=slot b _ (y b o e) hb (h b o e hx) e1 (I.base.free b o e n hx);exact⟨j,e2⟩
 .obtain⟨o',e1⟩:=I.base.there b o e hx;exact free b o' (h b o e hx) e1 (I.base.free b o e n hx)
 .obtain⟨o',e1⟩:=I.base.there b o e hx;exact there b o' (h b o e hx) e1
 .obtain⟨m1,e1⟩:=I.base.n9 b ps e;obtain⟨m2,e2⟩:=n9 b _ e1;exact⟨m1++m2,by rw[e2,Array.append_assoc]⟩
 .obtain⟨m,hn,hl⟩:=I.loc;refine⟨m,ns m hn,λi x v e1 e2 e3=>?_⟩;obtain⟨u,r,l⟩:=hl i x v e1 e2 e3;refine⟨u,r,?_⟩;rcases l with l|⟨k,c,e,z⟩
  .exact .inl l
  .exact .inr ⟨k,c,e,f x c e _ z⟩
 .obtain⟨v,z⟩:=I.cell x c e;exact⟨v,f x c e v z⟩
 .obtain⟨m,⟨o,_,_,ho,_⟩,_⟩:=I.loc;exact free _ o (λz=>(a _ z).2.1 rfl) ho I.free
 .obtain⟨v,o,ho,hd⟩:=I.cell x c e;exact free c o (λz=>(a c z).2.2.1 x c e rfl) ho (I.kJ x c e)
 .obtain⟨e,n,ne,t,d⟩:=I.pin p hp;have g:p.1∉ch:=λz=>(a p.1 z).2.2.2 p hp rfl;exact⟨keep p.1 p.2 ne t g e n,free p.1 p.2 g e n,ne,t,d⟩
def Inv.un(I:Inv X pins σ H s)(u:Un X.fs [] H H' s.heap h')(hok:ff X.prog X.w H' h'):Inv X pins σ H' {s with heap:=h',toks:=t'}:=by
 obtain⟨m,⟨o,es,ep,ho,r⟩,_⟩:=id I.loc;obtain⟨sl,hL⟩:=u.any ho I.free (by simp)
 exact I.step (g':=s.gens) (d':=s.drawn) (ch:=[]) (λ_ z=>nomatch z) (λb o _ hb _ e n=>u.keep b o e n hb (by simp)) (λb o _ hb _ e n=>u.slot b o e n hb (by simp)) (λb o _ e n=>u.free b o e n (by simp)) (λb o _ e=>u.there b o e (by simp)) u.tups u.lY u.n9 (λO hm=>by
  obtain⟨o',es',f,d,r'⟩:=hm;rw[ho] at d;cases d
  exact⟨_,es',f,hL,r'⟩) hok I.bare
def Inv.call(I:Inv X pins σ H s)(u:Un (frs X.stack) ch H H' s.heap h')(hok:ff X.prog X.w H' h')(hg:kL g')
  (a:∀b∈ch,(b∈X.ex\/X.s₀.heap.objs.size<=b)/\b≠X.env.locals/\(∀x c,X.env.cells.lookup x=some c->c≠b)/\∀p∈X.pn++pins,p.1≠b):
  Inv X pins σ H' {s with heap:=h',gens:=g',drawn:=d',toks:=t'}:=by
 obtain⟨m,⟨o,es,ep,ho,r⟩,_⟩:=id I.loc;obtain⟨sl,hL⟩:=u.any ho I.free λz=>(a _ z).2.1 rfl
 exact I.step (ch:=ch) a (λb o hL hb hc e n=>u.keep b o e n (λz=>(aY.mp (I.Im b z)).elim hL hb) hc) (λb o _ _ hc e n=>u.any e n hc) (λb o hc e n=>u.free b o e n hc) (λb o hc e=>u.there b o e hc) u.tups u.lY u.n9 (λO hm=>by
  obtain⟨o',es',f,d,r'⟩:=hm;rw[ho] at d;cases d
  exact⟨_,es',f,hL,r'⟩) hok hg
def Inv.turned(I:Inv X pins σ H s)(k:∀b o,b≠it->s.heap.get? b=some o->h'.get? b=some o)(hn:H it=none)(hL:it≠X.env.locals)
  (h1:it∈X.ex\/X.s₀.heap.objs.size<=it) (h2:∀x c,X.env.cells.lookup x=some c->c≠it) (h3:∀p∈X.pn++pins,p.1≠it):Inv X pins σ H {s with heap:=h',toks:=t'}:=by
 have a:∀b u,H b=some u->b≠it:=λb u e z=>by rw[z,hn] at e;cases e
 refine I.step (g':=s.gens) (d':=s.drawn) (ch:=[it]) (λb hb=>?_) (λb o _ _ hc e _=>k b o (λz=>hc (by simp[z])) e) (λb o _ _ hc e _=>⟨o.slots,k b o (λz=>hc (by simp[z])) e⟩) (λ_ _ _ _ n=>n)
  (λb o hc e=>⟨o,k b o (λz=>hc (by simp[z])) e⟩) (λ_ _ e=>e) (λ_ _ _ e=>e) (λb ps e=>⟨#[],by rw[e];simp⟩) (λm hm=>?_) (λb u e=>?_) I.bare
 .have e:b=it:=by simpa using hb
  subst e;exact⟨h1,hL,h2,h3⟩
 .obtain⟨o,es,ep,ho,r⟩:=hm;exact⟨o,es,ep,k _ o (bH hL) ho,r⟩
 .refine(I.hok b u e).stay (λc v hc q=>k c v ?_ q) (λ_ q=>q) λ_ _ q=>q;rcases hc with z|z
  .rw[z];exact a b u e
  .exact a c _ z
def Inv.tok(I:Inv X pins σ H s)(t:Nat):Inv X pins σ H {s with toks:=t}:=I.un (h':=s.heap) (t':=t) Un.refl I.hok
theorem Inv.kept{t':Nat}(I:Inv X pins σ H s)(k:∀b u,s.heap.get? b=some u->h'.get? b=some u):Inv X pins σ H {s with heap:=h',toks:=t'}:=I.un (Un.kept k) (I.hok.kept k)
theorem Inv.laid{a:aF}{o:HO}{t':Nat}(I:Inv X pins σ H s)(k:∀b u,s.heap.get? b=some u->h'.get? b=some u)(hp:s.heap.objs.size<=a)(new:cK X.prog X.w (upd H a o) h' a o):
  Inv X pins σ (upd H a o) {s with heap:=h',toks:=t'}:=I.un (Un.laid k hp (I.hok.fresh hp)) (I.hok.laid k hp new)
theorem Inv.write{x e:aF}{o:HO}{t':Nat}(I:Inv X pins σ H s)(d:wX (H x))(he:e=x\/H e=some (.own x))(k:∀b u,b≠e->s.heap.get? b=some u->h'.get? b=some u)(f:∃u,h'.get? e=some u)
  (new:cK X.prog X.w (upd H x o) h' x o):Inv X pins σ (upd H x o) {s with heap:=h',toks:=t'}:=I.un (Un.write d he k f) (I.hok.write d he k f new)
def Inv.O1{a:List (aF×Obj)}(I:Inv X pins σ H s)(h:∀p∈a,s.heap.get? p.1=some p.2/\H p.1=none/\p.1≠X.env.locals/\p.1∉X.fs/\∀v,p.2.data≠ .cell v):Inv X a σ H s:=
 ⟨I.ok,I.os,I.bare,I.base,I.loc,I.cell,I.free,I.kJ,λp hp=>(dM.mp hp).elim (λz=>I.pin p (jB _ z)) (h p),I.hok,I.len⟩
def Qh(hN:N.Nodup){i j:Nat}{x:Str}(a:N[i]?=some x)(b:N[j]?=some x):i=j:=by
 obtain⟨h1,e1⟩:=aO.mp a;obtain⟨h2,e2⟩:=aO.mp b;exact(Ji hN).mp (e1.trans e2.symm)
def Q8{A:c3}{x:Str}{v:V}{Q:Unit->aw->Prop}(I:Inv X pins σ H s)(hN:X.N.Nodup)(hi:X.N[i]?=some x)(hx:Loc X.env.scope x)(r:RelV v u)
  (h:∀s',Inv X pins (σ.set i (some v)) H s'->(∃a,da a s.heap s'.heap/\(a=X.env.locals\/X.env.cells.lookup x=some a))->Q () s') (hf:X.fn x=true\/X.env.scope.names.lookup x=some .local:=by first|exact .inl rfl|exact .inr rfl|assumption):wpAny M A (storeName X.env x u) Q E s:=by
 obtain⟨m,hn,hl⟩:=id I.loc;have G:(X.env.scope.kind== .class||(X.env.scope.kind== .module && X.env.locals !=X.env.globals))=false:=by rw[I.ok.kind];rfl
 have R:i<σ.length:=by rw[I.len];exact(aO.mp hi).1
 have qB:=I.qB;have l:∀{a:aF} {h':eo},(∃o,s.heap.get? a=some o/\H a=none)->da a s.heap h'->ff X.prog X.w H h':=λ{a h'} ha hs b B e=>by
  obtain⟨_,_,f⟩:=ha;refine(I.hok b B e).stay (λc w' hc q=>(hs.2 c ?_).trans q) (λ_ q=>q) λ_ _ q=>q;rintro rfl;rcases hc with rfl|hc
  .rw[f] at e;cases e
  .rw[f] at hc;cases hc
 rcases hx with hk|hk
 .refine wpAny_storeName_local hk hn (λh' O hs=>?_) G;obtain⟨S,_,_,T,_⟩:=id hn;refine h _ ⟨I.ok,I.os,I.bare,⟨λb o e n hb hx=>?_,λb o e n hb hx=>?_,I.base.free,λb o e hx=>?_,I.base.tups,I.base.lY,I.base.n9⟩,⟨_,O,λj y P e1 e2 e3=>?_⟩,λy c e=>?_,I.free,I.kJ,λp hp=>?_,l ⟨S,T,I.free⟩ hs,by simpa using I.len⟩ ⟨_,hs, .inl rfl⟩;·exact(hs.2 b (dz (eK (bN e) I.ok.above))).trans (I.base.keep b o e n hb hx)
  .obtain⟨sl,e1⟩:=I.base.slot b o e n hb hx;exact⟨sl,(hs.2 b (dz (eK (bN e) I.ok.above))).trans e1⟩
  .obtain⟨o',e1⟩:=I.base.there b o e hx;exact⟨o',(hs.2 b (dz (eK (bN e) I.ok.above))).trans e1⟩
  .by_cases hj:j=i
   .subst hj;rw[hi] at e1;cases e1
    rw[cI R] at e2;cases e2;exact⟨u,r, .inl ⟨hk,by simp⟩⟩
   .rw[bI (bH hj)] at e2;obtain⟨D,r',q⟩:=hl j y P e1 e2 e3;refine⟨D,r',?_⟩;rcases q with ⟨k,e⟩|⟨k,c,e,z⟩
    .refine .inl ⟨k,?_⟩;have:y≠x:=λe=>hj (Qh hN e1 (e▸hi));simp[this,e]
    .exact .inr ⟨k,c,e,z.sameBut hs (qB y c e)⟩
  .obtain⟨w',z⟩:=I.cell y c e;exact⟨w',z.sameBut hs (qB y c e)⟩
  .obtain⟨e,n,ne,t,d⟩:=I.pin p hp;exact⟨(hs.2 p.1 ne).trans e,n,ne,t,d⟩
 .have F:X.fn x=true:=by
   rcases hf with z|z
   .exact z
   .rw[z] at hk;cases hk
  obtain⟨c,hc⟩:=I.ok.has x (.inl hk);obtain⟨w',z⟩:=I.cell x c hc;refine wpAny_storeName_cell I.ok.kind hk hc z (λh' C hs=>?_);obtain⟨oc,J,K⟩:=id z;refine h {s with heap:=h'} ⟨I.ok,I.os,I.bare,⟨λb o e n hb hx=>?_,λb o e n hb hx=>?_,I.base.free,λb o e hx=>?_,I.base.tups,I.base.lY,I.base.n9⟩,⟨m,hn.sameBut hs (bH (qB x c hc)),λj y P e1 e2 e3=>?_⟩,λy c' e=>?_,I.free,I.kJ,λp hp=>?_,l ⟨oc,J,I.kJ x c hc⟩ hs,by simpa using I.len⟩ ⟨c,hs, .inr hc⟩;·exact(hs.2 b (dz (eK (bN e) (I.ok.wz x c F hc)))).trans (I.base.keep b o e n hb hx)
  .obtain⟨sl,e1⟩:=I.base.slot b o e n hb hx;exact⟨sl,(hs.2 b (dz (eK (bN e) (I.ok.wz x c F hc)))).trans e1⟩
  .obtain⟨o',e1⟩:=I.base.there b o e hx;exact⟨o',(hs.2 b (dz (eK (bN e) (I.ok.wz x c F hc)))).trans e1⟩
  .by_cases hj:j=i
   .subst hj;rw[hi] at e1;cases e1
    rw[cI R] at e2;cases e2;exact⟨u,r, .inr ⟨.inl hk,c,hc,C⟩⟩
   .rw[bI (bH hj)] at e2;obtain⟨D,r',q⟩:=hl j y P e1 e2 e3;refine⟨D,r',?_⟩;rcases q with q|⟨k,c',e,z'⟩
    .exact .inl q
    .refine .inr ⟨k,c',e,z'.sameBut hs ?_⟩;rintro rfl;exact hj (Qh hN e1 (I.ok.inj _ _ _ e hc▸hi))
  .by_cases g:c'=c;·subst g;exact⟨_,C⟩
   .obtain⟨w2,z2⟩:=I.cell y c' e;exact⟨w2,z2.sameBut hs g⟩
  .obtain⟨e,n,ne,t,d⟩:=I.pin p hp;refine⟨(hs.2 p.1 ?_).trans e,n,ne,t,d⟩;intro q;rw[q,J] at e;have L:oc=p.2:=fP e;exact d w' (by rw[<-L];exact K)
def KD{A:c3}{x:Str}{v:V}{Q:Unit->aw->Prop}(I:Inv X pins σ H s)(hN:X.N.Nodup)(hi:X.N[i]?=some x)(hx:Loc X.env.scope x)(r:RelV v u)
  (h:∀s',Inv X pins (σ.set i (some v)) H s'->Q () s') (hf:X.fn x=true\/X.env.scope.names.lookup x=some .local:=by first|exact .inl rfl|exact .inr rfl|assumption):wpAny M A (storeName X.env x u) Q E s:=
 Q8 I hN hi hx r (λs' b _=>h s' b) hf
def Inv.Vu{s':aw}(I:Inv X pins σ H s)(ho:s'.os=s.os)(u:Un (frs X.stack) ch H H' s.heap s'.heap)(hok:ff X.prog X.w H' s'.heap)(hg:kL s'.gens)
  (a:∀b∈ch,(b∈X.ex\/X.s₀.heap.objs.size<=b)/\b≠X.env.locals/\(∀x c,X.env.cells.lookup x=some c->c≠b)/\∀p∈X.pn++pins,p.1≠b):Inv X pins σ H' s':=by
 obtain⟨h',g',d',t',o'⟩:=s';have e:o'=s.os:=ho;subst e;exact I.call (g':=g') (t':=t') (d':=d') u hok hg a
end
abbrev XK:=ag->Option aF->Hp->Prop
noncomputable abbrev qr:=List (Option V)
abbrev VK:=V->Hp->Prop
abbrev TE:=qr->Hp->VK->Prop
abbrev TT:=qr->Hp->(Bool->Hp->Prop)->Prop
abbrev TA:=qr->Hp->(List V->Hp->Prop)->Prop
structure Ends where
 nx:qr->Hp->Prop
 rt:VK
 bk:qr->Hp->Prop:=λ_ _=>False
 ct:qr->Hp->Prop:=λ_ _=>False
abbrev TS:=Ends->qr->Hp->Prop
def EP(X:Cx)(pins:List (aF×Obj))(σ:qr)(Q:VK)(u:ag)(s':aw):Prop:=∃v H',Inv X pins σ H' s'/\RelV v u/\Q v H'
def TP(X:Cx)(pins:List (aF×Obj))(σ:qr)(Q:Bool->Hp->Prop)(b:Bool)(s':aw):Prop:=∃H',Inv X pins σ H' s'/\Q b H'
def AP(X:Cx)(pins:List (aF×Obj))(σ:qr)(Q:List V->Hp->Prop)(us:List ag)(s':aw):Prop:=∃vs H',Inv X pins σ H' s'/\Vals vs us/\Q vs H'
def SP(X:Cx)(pins:List (aF×Obj))(D:Ends)(f:Flow)(s':aw):Prop:=
 match f with
 | .next=>∃M H',Inv X pins M H' s'/\D.nx M H'
 | .brk=>∃M H',Inv X pins M H' s'/\D.bk M H'
 | .cont=>∃M H',Inv X pins M H' s'/\D.ct M H'
 | .ret u=>∃v M H',Inv X pins M H' s'/\RelV v u/\D.rt v H'
def PE(X:Cx)(e:eB)(t:TE):Prop:=
 ∀(pins:List (aF×Obj)) (s:aw) (σ:qr) (H:Hp) (Q:VK),Inv X pins σ H s->t σ H Q->wpAny (bj X.prog X.w) X.A (eval e X.env) (EP X pins σ Q) X.xe s
def PT(X:Cx)(e:eB)(t:TT):Prop:=
 ∀(pins:List (aF×Obj)) (s:aw) (σ:qr) (H:Hp) (Q:Bool->Hp->Prop),Inv X pins σ H s->t σ H Q->wpAny (bj X.prog X.w) X.A (isTrue e X.env (eval e X.env)) (TP X pins σ Q) X.xe s
def PW(X:Cx)(e:eB)(t:TT):Prop:=
 ∀(whole:Sem ag) (pins:List (aF×Obj)) (s:aw) (σ:qr) (H:Hp) (Q:Bool->Hp->Prop),Inv X pins σ H s->t σ H Q->wpAny (bj X.prog X.w) X.A (isTrue e X.env whole) (TP X pins σ Q) X.xe s
def PW.pt{X:Cx}{t:TT}(h:PW X e t):PT X e t:=h _
def PA(X:Cx)(es:List eB)(t:TA):Prop:=
 ∀(pos:Pos) (pins:List (aF×Obj)) (s:aw) (σ:qr) (H:Hp) (Q:List V->Hp->Prop),Inv X pins σ H s->t σ H Q->wpAny (bj X.prog X.w) X.A (spliced (i5 pos (cc es X.env))) (AP X pins σ Q) X.xe s
def PS(X:Cx)(st:eQ)(t:TS):Prop:=
 ∀(pins:List (aF×Obj)) (s:aw) (σ:qr) (H:Hp) (D:Ends),Inv X pins σ H s->t D σ H->wpAny (bj X.prog X.w) X.A (exec st X.env) (SP X pins D) X.xe s
def kU(X:Cx)(st:List eQ)(t:TS):Prop:=
 ∀(pins:List (aF×Obj)) (s:aw) (σ:qr) (H:Hp) (D:Ends),Inv X pins σ H s->t D σ H->wpAny (bj X.prog X.w) X.A (execs st X.env) (SP X pins D) X.xe s
def aT{α:Type}{t:Sem α}{Q g:α->aw->Prop}{A:c3}(h:wpAny M A t Q E s)(hQ:∀a s,Q a s->g a s):wpAny M A t g E s:=fg h hQ λ_ _ x=>x
section
variable{X:Cx}
def bZ(i:Nat):TE:=λσ H Q=>∃v,σ[i]?=some (some v)/\Q v H
def tC(v:V):TE:=λ_ H Q=>Q v H
def SU{x:Str}(hN:X.N[i]?=some x)(hv:Il X.env.scope x)(hd:(x==("__debug__":Str))=false:=by decide)(j:(x==("__classdict__":Str))=false:=by decide):PE X (.Name x pos) (bZ i):=by
 intro pins s σ H Q I h;obtain⟨v,e,h⟩:=h;obtain⟨m,hn,hl⟩:=I.loc;obtain⟨u,r,l⟩:=hl i x v hN e hv;have fin:EP X pins σ Q u s:=⟨v,H,I,r,h⟩;rcases l with ⟨hk,hm⟩|⟨hk,c,hc,hcell⟩
 .exact sm (wpAny_loadName_local I.ok.kind hk hn hm fin) hd
 .rcases hk with hk|hk
  .exact sm (wpAny_loadName_cell I.ok.kind hk hc hcell fin) hd
  .exact sm (wpAny_loadName_free I.ok.kind hk hc hcell fin j) hd
def au{i j pos}:PE X (.Constant (.int i) j pos) (tC (.int i)):=λ_ _ _ H _ I h=>wpAny_Constant_int ⟨.int i,H,I.tok _,⟨_,rfl⟩,h⟩
def jy{b j pos}:PE X (.Constant (.bool b) j pos) (tC (.bl b)):=λ_ _ _ H _ I h=>Constant_bool ⟨.bl b,H,I,rfl,h⟩
def iY{j pos}:PE X (.Constant .none j pos) (tC .aP):=λ_ _ _ H _ I h=>Constant_none ⟨.aP,H,I,rfl,h⟩
def tG{x j pos}:PE X (.Constant (.str x) j pos) (tC (.str x)):=λ_ _ _ H _ I h=>Calls.Constant_str ⟨.str x,H,I.tok _,⟨_,rfl⟩,h⟩
def Gl(X:Cx)(x:Str):Prop:=X.env.kindOf x=some .globalImplicit
def So{σ:qr}{H:Hp}{x:Str}(I:Inv X pins σ H s)(hg:Gl X x)(hm:X.mg x=some u)(h:Q u s)
  (hd:(x==("__debug__":Str))=false:=by decide):wpAny (bj X.prog X.w) X.A (eval (.Name x pos) X.env) Q E s:=
 Nt I.ok.kind hg (Calls.loadGlobal_global (by rw[I.ok.glob];exact I.mod.glob.keeps I.bk) hm h) hd
def nU{σ:qr}{H:Hp}{x:Str}(I:Inv X pins σ H s)(hg:Gl X x)(hm:X.mg x=none)(hv:hH x=some u)(h:Q u s)
  (hn:x≠"__name__":=by decide) (hd:(x==("__debug__":Str))=false:=by decide):wpAny (bj X.prog X.w) X.A (eval (.Name x pos) X.env) Q E s:=by
 obtain⟨mb,h1,h2⟩:=I.mod.blt;exact Nt I.ok.kind hg (Calls.loadGlobal_builtin (by rw[I.ok.glob];exact I.mod.glob.keeps I.bk) hm (by rw[I.ok.blt];exact h1.keeps I.bk) ((h2 x hn).trans hv) h) hd
def jK{x:Str}{v:V}(hg:Gl X x)(hm:X.mg x=none)(hv:hH x=some u)(r:RelV v u)(hn:x≠"__name__":=by decide)(hd:(x==("__debug__":Str))=false:=by decide):PE X (.Name x pos) (tC v):=
 λ_ _ _ H _ I h=>nU I hg hm hv ⟨v,H,I,r,h⟩ hn hd
variable{a b:eB}{ta tb:TE}{pos:Pos}
def PC(X:Cx)(op:CmpOp)(a b:eB)(t:TE):Prop:=
 ∀(pins:List (aF×Obj)) (s:aw) (σ:qr) (H:Hp) (Q:VK),Inv X pins σ H s->t σ H Q->
  wpAny (bj X.prog X.w) X.A (eval a X.env) (λv s₁=>wpAny (bj X.prog X.w) X.A (eval b X.env) (λu d=>wpAny (bj X.prog X.w) X.A (dc op v u) (EP X pins σ Q) X.xe d) X.xe s₁) X.xe s
variable{tA xW:TT}{rest:List eB}
def HY(t u:TT):TT:=λσ H Q=>t σ H λc H1=>if c=true then u σ H1 Q else Q false H1
def Th(t u:TT):TT:=λσ H Q=>t σ H λc H1=>if c=true then Q true H1 else u σ H1 Q
def Oe(t:TT):TT:=λσ H Q=>t σ H λc H1=>Q (!c) H1
def ow(ha:PT X a tA):PW X (.BoolOp .And [a] pos) tA:=by
 intro wh pins s σ H Q I h;refine isTrue_and (aT (ha pins s σ H Q I h) λc s1 e=>?_);cases c with
 |true=>exact isTrue_and_nil e
 |false=>exact e
def oM(ha:PT X a tA):PW X (.BoolOp .Or [a] pos) tA:=by
 intro wh pins s σ H Q I h;refine isTrue_or (aT (ha pins s σ H Q I h) λc s1 e=>?_);cases c with
 |false=>exact isTrue_or_nil e
 |true=>exact e
def oK(ha:PT X a tA)(hb:PW X (.BoolOp .And (b::rest) pos) xW):PW X (.BoolOp .And (a::b::rest) pos) (HY tA xW):=by
 intro wh pins s σ H Q I h;refine isTrue_and (aT (ha pins s σ H _ I h) λc s1 ⟨H1,I1,O⟩=>?_);cases c with
 |true=>exact hb wh pins s1 σ H1 Q I1 O
 |false=>exact⟨H1,I1,O⟩
def mE(ha:PT X a tA)(hb:PW X (.BoolOp .Or (b::rest) pos) xW):PW X (.BoolOp .Or (a::b::rest) pos) (Th tA xW):=by
 intro wh pins s σ H Q I h;refine isTrue_or (aT (ha pins s σ H _ I h) λc s1 ⟨H1,I1,O⟩=>?_);cases c with
 |true=>exact⟨H1,I1,O⟩
 |false=>exact hb wh pins s1 σ H1 Q I1 O
def kP(ha:PT X a tA):PT X (.UnaryOp .Not a pos) (Oe tA):=by
 intro pins s σ H Q I h;exact isTrue_not (ha pins s σ H (λc H1=>Q (!c) H1) I h)
def G5(ta tb:TE):TE:=λσ H Q=>ta σ H λx H1=>∃c,x= .bl c/\if c=true then tb σ H1 Q else Q (.bl false) H1
def LL(ta:TE):TE:=λσ H Q=>ta σ H λx H1=>∃c,x= .bl c/\Q (.bl (!c)) H1
def wj{op}{t:TE}(h:PE X a t):PE X (.BoolOp op [a] pos) t:=λpins s σ H Q I hw=>BoolOp_one (h pins s σ H Q I hw)
def uo(ha:PE X a ta)(hb:PE X (.BoolOp .And (b::rest) pos) tb):PE X (.BoolOp .And (a::b::rest) pos) (G5 ta tb):=by
 intro pins s σ H Q I h;refine BoolOp_and (aT (ha pins s σ H _ I h) λv s1 ⟨x,H1,I1,M,O⟩=>?_);obtain⟨c,rfl,O⟩:=O;cases M;refine fm ?_;cases c with
 |true=>exact hb pins s1 σ H1 Q I1 O
 |false=>exact⟨.bl false,H1,I1,rfl,O⟩
def U6(ha:PE X a ta):PE X (.UnaryOp .Not a pos) (LL ta):=by
 intro pins s σ H Q I h;refine UnaryOp_ (aT (ha pins s σ H _ I h) λv s1 ⟨x,H1,I1,M,O⟩=>?_);obtain⟨c,rfl,O⟩:=O;cases M;exact not_of (fm ⟨.bl (!c),H1,I1,rfl,O⟩)
def RQ(t:TT)(ta tb:TE):TE:=λσ H Q=>t σ H λc H1=>if c=true then ta σ H1 Q else tb σ H1 Q
def rJ{c:eB}(hc:PT X c tA)(ha:PE X a ta)(hb:PE X b tb):PE X (.IfExp c a b pos) (RQ tA ta tb):=by
 intro pins s σ H Q I h;refine wpAny_IfExp (aT (hc pins s σ H _ I h) λd s1 ⟨H1,I1,O⟩=>?_);cases d with
 |true=>exact ha pins s1 σ H1 Q I1 O
 |false=>exact hb pins s1 σ H1 Q I1 O
end
def aV(K:PySem.W.Frag)(H:Hp)(a:aF)(xs:List V):Prop:=
 Rd H a (.lst xs)\/
  ∃(o:Obj) (its:Array ag) (n:Nat),K.lookup a=some o/\o.cls= .type "list" /\o.dict=none/\o.data= .seq its n/\its.size<=sizeLine/\Vals xs its.toList
def iP(K:PySem.W.Frag)(H:Hp)(a:aF)(xs:List V):Prop:=
 Rd H a (.tup xs)\/
  ∃(o:Obj) (its:Array ag) (n:Nat),K.lookup a=some o/\o.cls= .type "tuple" /\o.data= .seq its n/\its.size<=sizeLine/\Vals xs its.toList
noncomputable def B2:ag->Option V
 | .none=>some .aP
 | .bool b=>some (.bl b)
 | .int i _=>some (.int i)
 | .str x _=>some (.str x)
 | .bytes b _=>some (.kj b)
 | .float b _=>some (.mR b)
 | .ref a=>some (.ref a)
 | .type n=>some (.ty n)
 |_=>none
def RelV.abs{x:V}(r:RelV x u):B2 u=some x:=by
 cases x with
 |aP=>cases r;rfl
 |bl _=>cases r;rfl
 |int _=>obtain⟨t,rfl⟩:=r;rfl
 |str _=>obtain⟨t,rfl⟩:=r;rfl
 |kj _=>obtain⟨t,rfl⟩:=r;rfl
 |mR _=>obtain⟨t,rfl⟩:=r;rfl
 |ref _=>cases r;rfl
 |ty _=>cases r;rfl
def RelV.inj{x y:V}(r:RelV x u)(q:RelV y u):x=y:=fP (r.abs.symm.trans q.abs)
theorem Vals.inj{xs ys:List V}{us:List ag}(h:Vals xs us)(k:Vals ys us):xs=ys:=by
 induction h generalizing ys with
 |nil=>cases k;rfl
 |cons r t ih=>cases k with|cons r' t'=>rw[r.inj r',ih t']
section
variable{X:Cx}{pins:List (aF×Obj)}{σ:qr}{H:Hp}{s:aw}{a:aF}{xs ys:List V}
def aV.of{K:PySem.W.Frag}(h:H a=some (.lst xs)):aV K H a xs:= .inl (.inl h)
def iP.of{K:PySem.W.Frag}(h:H a=some (.tup xs)):iP K H a xs:= .inl (.inl h)
theorem Inv.list(I:Inv X pins σ H s)(h:aV X.K H a xs):∃its:List ag,Vals xs its/\PlainL s.heap a its.toArray/\xs.length<=sizeLine:=by
 rcases h with h|⟨o,its,n,hk,hc,hd,hs,hz,r⟩
 .obtain⟨z,its,n,r,e⟩:=h.ok I.hok;exact⟨its,r,⟨_,n,e,rfl,rfl,rfl⟩,z⟩
 .refine⟨its.toList,r,⟨o,n,I.dX a o hk,hc,hd,by simpa using hs⟩,?_⟩;have e:=r.length;simp only[mj] at e;omega
theorem Inv.tuple(I:Inv X pins σ H s)(h:iP X.K H a xs):∃its:List ag,Vals xs its/\IsTup s.heap a its.toArray/\xs.length<=sizeLine:=by
 rcases h with h|⟨o,its,n,hk,hc,hs,hz,r⟩
 .obtain⟨z,its,r,p⟩:=h.ok I.hok;exact⟨its,r,p,z⟩
 .refine⟨its.toList,r,⟨o,I.dX a o hk,hc,n,by simpa using hs⟩,?_⟩;have e:=r.length;simp only[mj] at e;omega
def Inv.AN(I:Inv X pins σ H s)(h:aV X.K H a xs)(h':aV X.K H a ys):xs=ys:=by
 obtain⟨its,r,⟨o,n,e,_,_,d⟩,_⟩:=I.list h;obtain⟨its',r',⟨o',c,e',_,_,d'⟩,_⟩:=I.list h';rw[e] at e';cases e'
 rw[d] at d';injection d' with d1 _
 have:its=its':=by simpa using congrArg Array.toList d1
 subst this;exact r.inj r'
end
noncomputable abbrev Cx.nq(X:Cx)(E:ag->aw->Prop):Cx:={X with xe:=E}
noncomputable abbrev Cx.Cg(X:Cx):Cx:=X.nq λ_ _=>False
theorem Cx.Ok.nq{X:Cx}(ok:X.Ok)(E:ag->aw->Prop):(X.nq E).Ok:=
 ⟨ok.mod,ok.kind,ok.glob,ok.blt,ok.above,ok.inj,ok.has,ok.wz,ok.hd,ok.frames,ok.stk,ok.AG,ok.bs,ok.qg,ok.vD,ok.uS,ok.k8,ok.rX⟩
def Cx.Ok.qh{X:Cx}(ok:(X.nq E).Ok):X.Ok:=
 ⟨ok.mod,ok.kind,ok.glob,ok.blt,ok.above,ok.inj,ok.has,ok.wz,ok.hd,ok.frames,ok.stk,ok.AG,ok.bs,ok.qg,ok.vD,ok.uS,ok.k8,ok.rX⟩
section
variable{X:Cx}{pins:List (aF×Obj)}{σ:qr}{H:Hp}{s:aw}{E:ag->aw->Prop}
theorem Inv.nq(I:Inv X pins σ H s)(E:ag->aw->Prop):Inv (X.nq E) pins σ H s:=⟨I.ok.nq E,I.os,I.bare,I.base,I.loc,I.cell,I.free,I.kJ,I.pin,I.hok,I.len⟩
theorem Inv.qh(I:Inv (X.nq E) pins σ H s):Inv X pins σ H s:=⟨I.ok.qh,I.os,I.bare,I.base,I.loc,I.cell,I.free,I.kJ,I.pin,I.hok,I.len⟩
theorem SP.qh{D:Ends}{f:Flow}{s':aw}(h:SP (X.nq E) pins D f s'):SP X pins D f s':=by
 cases f with
 |next=>obtain⟨M,H',I,q⟩:=h;exact⟨M,H',I.qh,q⟩
 |brk=>obtain⟨M,H',I,q⟩:=h;exact⟨M,H',I.qh,q⟩
 |cont=>obtain⟨M,H',I,q⟩:=h;exact⟨M,H',I.qh,q⟩
 |ret u=>obtain⟨v,M,H',I,r,q⟩:=h;exact⟨v,M,H',I.qh,r,q⟩
theorem kU.Cg{st:List eQ}{t:TS}(h:kU X.Cg st t):kU X st t:=λpins s σ H D I hw=>
 fg (h pins s σ H D (I.nq _) hw) (λ_ _ q=>q.qh) λ_ _ z=>el z
end
section
variable{X:Cx}{st:eQ}{rest:List eQ}{t u:TS}{e:eB}{te:TE}{pos:Pos}
def Hs:TS:=λD σ H=>D.nx σ H
def lW(t u:TS):TS:=λD σ H=>t {D with nx:=u D} σ H
def dO:kU X [] Hs:=λ_ _ σ H _ I h=>hY ⟨σ,H,I,h⟩
def aA(h1:PS X st t)(h2:kU X rest u):kU X (st::rest) (lW t u):=by
  intro pins s σ H D I h;refine oy (aT (h1 pins s σ H {D with nx:=u D} I h) λf s1 q=>?_);cases f with
  | next =>
    obtain⟨M,H',b,q⟩:=q;exact h2 pins s1 M H' D b q
  |ret v=>exact q
  |brk=>exact q
  |cont=>exact q
def aI(h1:PS X st t):kU X [st] t:=by
 intro pins s σ H D I h;refine oy (aT (h1 pins s σ H D I h) λf s1 q=>?_);cases f with
 |next=>exact hY q
 |ret v=>exact q
 |brk=>exact q
 |cont=>exact q
def YZ:TS:=λD σ H=>D.bk σ H
def Vi:TS:=λD σ H=>D.ct σ H
def Inv.quiet{σ:qr}{H:Hp}(I:Inv X pins σ H s):interactive X.env=false:=by simp[interactive,I.ok.kind]
def p9(te:TE):TS:=λD σ H=>te σ H λ_ H1=>D.nx σ H1
def qK(he:PE X e te)(hs:pE e none pos.line X.env=pure false:=by rfl):PS X (.Expr e pos) (p9 te):=by
 intro pins s σ H D I h;exact wpAny_Expr_any (aT (he pins s σ H _ I h) λv s1 ⟨x,H1,I1,M,O⟩=>⟨σ,H1,I1,O⟩) I.quiet hs
def t6(te:TE):TS:=λD σ H=>te σ H D.rt
def bf(he:PE X e te):PS X (.Return (some e) pos) (t6 te):=by
 intro pins s σ H D I h;exact wpAny_Return_some (aT (he pins s σ H _ I h) λv s1 ⟨x,H1,I1,M,O⟩=>⟨x,σ,H1,I1,M,O⟩)
def Kq(c:TT)(t u:TS):TS:=λD σ H=>c σ H λb H1=>if b=true then t D σ H1 else u D σ H1
def dJ{c:eB}{a b:List eQ}{tc:TT}(hc:PT X c tc)(ha:kU X a t)(hb:kU X b u):PS X (.If c a b pos) (Kq tc t u):=by
 intro pins s σ H D I h;refine wpAny_If (aT (hc pins s σ H _ I h) λd s1 ⟨H1,I1,O⟩=>?_);cases d with
 |true=>exact ha pins s1 σ H1 D I1 O
 |false=>exact hb pins s1 σ H1 D I1 O
end
abbrev TG:=V->qr->Hp->(qr->Hp->Prop)->Prop
abbrev jV:=List V->qr->Hp->(qr->Hp->Prop)->Prop
def PG(X:Cx)(a:eB)(t:TG):Prop:=
 ∀(pins:List (aF×Obj)) (s:aw) (σ:qr) (H:Hp) (v:V) (u:ag) (Q:qr->Hp->Prop),Inv X pins σ H s->RelV v u->t v σ H Q->
  wpAny (bj X.prog X.w) X.A (so a X.env u) (λ_ s'=>∃M H',Inv X pins M H' s'/\Q M H') X.xe s
def xj(X:Cx)(b:List eB)(t:jV):Prop:=
 ∀(pins:List (aF×Obj)) (s:aw) (σ:qr) (H:Hp) (vs:List V) (us:List ag) (Q:qr->Hp->Prop),Inv X pins σ H s->Vals vs us->t vs σ H Q->
  wpAny (bj X.prog X.w) X.A (assignInOrder ((gL b X.env).map (·.2)) us) (λ_ s'=>∃M H',Inv X pins M H' s'/\Q M H') X.xe s
abbrev uu:=V->V->V->Hp->(Hp->Prop)->Prop
def AZ(X:Cx)(t:uu):Prop:=
 ∀(pins:List (aF×Obj)) (s:aw) (σ:qr) (H:Hp) (o i v:V) (b a u:ag) (Q:Hp->Prop),Inv X pins σ H s->RelV o b->RelV i a->RelV v u->t o i v H Q->
  wpAny (bj X.prog X.w) X.A (setItem b a u) (λ_ s'=>∃H',Inv X pins σ H' s'/\Q H') X.xe s
abbrev Bp:=V->V->Hp->VK->Prop
def RV(X:Cx)(op:x5)(t:Bp):Prop:=
 ∀(pins:List (aF×Obj)) (s:aw) (σ:qr) (H:Hp) (x y:V) (v u:ag) (Q:VK),Inv X pins σ H s->RelV x v->RelV y u->t x y H Q->
  wpAny (bj X.prog X.w) X.A (inplaceOp op v u) (EP X pins σ Q) X.xe s
section
variable{X:Cx}{pos:Pos}
def fB(i:Nat):TG:=λv σ H Q=>Q (σ.set i (some v)) H
def aK{x:Str}(hN:X.N.Nodup)(hi:X.N[i]?=some x)(hx:Loc X.env.scope x)(hf:X.fn x=true\/X.env.scope.names.lookup x=some .local:=by first|exact .inl rfl|exact .inr rfl|assumption):PG X (.Name x pos) (fB i):=by
 intro pins s σ H v u Q I r h;exact mS (KD I hN hi hx r (λs' b=>⟨_,H,b,h⟩) hf)
def tW:jV:=λvs σ H Q=>vs=[]/\Q σ H
def mV(t:TG)(u:jV):jV:=λvs σ H Q=>∃v r,vs=v::r/\t v σ H λM H'=>u r M H' Q
def gC:xj X [] tW:=by
 intro pins s σ H vs us Q I r h;obtain⟨e,h⟩:=h;subst e;cases r;exact assignInOrder_nil ⟨σ,H,I,h⟩
def bW{e:eB}{es:List eB}{t:TG}{u:jV}(h1:PG X e t)(h2:xj X es u)
    (hs:(gL (e::es) X.env).map (·.2)=so e X.env::(gL es X.env).map (·.2):=by rfl):xj X (e::es) (mV t u):=by
  intro pins s σ H vs us Q I r h;obtain⟨v,vr,e1,h⟩:=h;subst e1;cases r with
  | cons r n =>
    rw[hs];refine assignInOrder_cons (aT (h1 pins s σ H _ _ _ I r h) λ_ s1 ⟨c,H1,I1,O⟩=>?_);exact h2 pins s1 c H1 _ _ Q I1 n O
def qM(K:PySem.W.Frag)(n:Nat)(t:jV):TG:=λv σ H Q=>∃a xs,v= .ref a/\iP K H a xs/\xs.length=n/\t xs σ H Q
def Mz{es:List eB}{k:Nat}{t:jV}(hc:X.calm=true)(h:xj X es t)
  (hn:(gL es X.env).length=n:=by rfl) (c:(gL es X.env).findIdx? (·.1)=none:=by rfl):PG X (.Tuple es k pos) (qM X.K n t):=by
 intro pins s σ H v u Q I r hw;obtain⟨a,xs,e1,hq,hl,hw⟩:=hw;subst e1;cases r;obtain⟨its,rv,ht,hz⟩:=I.tuple hq;refine assign_Tuple_tuple (I.ok.hd hc) ht (by simp[hn,<-hl,rv.length]) c λh' hx=>?_;have I1:Inv X pins σ H {s with heap:=h'}:=I.kept (t':=s.toks) λb o e=>hx b o (dz (bN e)) e;exact h pins _ σ H xs _ Q I1 (by simpa using rv) hw
def nY(to c:TE)(t:uu):TG:=λv σ H Q=>to σ H λo H1=>c σ H1 λi H2=>t o i v H2 λH3=>Q σ H3
def jv{o i:eB}{to c:TE}{t:uu}(ho:PE X o to)(hi:PE X i c)(hs:AZ X t)
  (ha : ∀ v, assign (.Subscript o i pos) X.env v = (do
   let b<-holding [v] (eval o X.env)
   let a<-holding [v,b] (eval i X.env)
   standAt pos
   holding [v,b,a] (setItem b a v)
   release [v,b,a] []):=by intro _;rfl):PG X (.Subscript o i pos) (nY to c t):=by
 intro pins s σ H v u Q I r h;rw[ha];refine ae (dA (aT (ho pins s σ H _ I h) λb s1 ⟨x,H1,I1,M,O⟩=>?_));refine ae (dA (aT (hi pins s1 σ H1 _ I1 O) λa s2 ⟨y,H2,I2,U,q2⟩=>?_));refine ae (mi (ae (dA (aT (hs pins s2 σ H2 x y v b a u _ I2 M U r q2) λ_ s3 ⟨H3,I3,q3⟩=>?_))));exact wpAny_release ⟨σ,H3,I3,q3⟩
def fV(te:TE)(g:TG):TS:=λD σ H=>te σ H λx H1=>g x σ H1 D.nx
def gF{te:TE}{g:TG}(he:PE X e te)(hg:PG X tg g)(hs:swapsWithSole [tg] e pos.line X.env=pure false:=by rfl)(hw:swappedStores [tg] e X.env=pure none:=by rfl)
  (h1:(gL [tg] X.env).map (·.2)=[so tg X.env]:=by rfl):PS X (.Assign [tg] e pos) (fV te g):=by
 intro pins s σ H D I h;refine wpAny_Assign_stores (aT (he pins s σ H _ I h) λv s1 ⟨x,H1,I1,M,O⟩=>?_) hs hw;rw[h1];exact aT (hg pins s1 σ H1 x v _ I1 M O) λ_ s2 q=>q
def aX{i:Nat}{x:Str}{e:eB}{te:TE}{pos':Pos}(hN:X.N.Nodup)(hi:X.N[i]?=some x)(hx:Loc X.env.scope x)(he:PE X e te)(hs:pE e (some (.Name x pos')) pos.line X.env=pure false:=by rfl)(hf:X.fn x=true\/X.env.scope.names.lookup x=some .local:=by first|exact .inl rfl|exact .inr rfl|assumption):
  PS X (.Assign [.Name x pos'] e pos) (fV te (fB i)):=by
 intro pins s σ H D I h;refine wpAny_Assign_Name (aT (he pins s σ H _ I h) λv s1 ⟨y,H1,I1,M,O⟩=>?_) hs;exact KD I1 hN hi hx M (λs2 I2=>⟨_,H1,I2,O⟩) hf
def LB(to c te:TE)(f:V->V->Hp->VK->Prop)(d:Bp)(g:uu):TS:=λD σ H=>to σ H λo H1=>c σ H1 λi H2=>f o i H2 λx H3=>te σ H3 λy H4=>d x y H4 λz H5=>g o i z H5 λH6=>D.nx σ H6
def M4(X:Cx)(t:V->V->Hp->VK->Prop):Prop:=
 ∀(pins:List (aF×Obj)) (s:aw) (σ:qr) (H:Hp) (o i:V) (b a:ag) (Q:VK),Inv X pins σ H s->RelV o b->RelV i a->t o i H Q->
  wpAny (bj X.prog X.w) X.A (v5 b a) (EP X pins σ Q) X.xe s
def Kb{o i:eB}{to c te:TE}{f:V->V->Hp->VK->Prop}{d:Bp}{g:uu}{op:x5}{tpos:Pos}(ho:PE X o to)(hi:PE X i c)(hg:M4 X f)(he:PE X e te)(hp:RV X op d)(hs:AZ X g)
  (ha:∀b a new,augStore i b a new=(do holding [new,b,a] (setItem b a new);release [new,b,a] [];pure .next):=by intros;rfl):PS X (.AugAssign (.Subscript o i tpos) op e pos) (LB to c te f d g):=by
 intro pins s σ H D I h;refine wpAny_AugAssign_SubscriptAny (aT (ho pins s σ H _ I h) λb s1 ⟨W,H1,I1,M,O⟩=>?_) ha;refine aT (hi pins s1 σ H1 _ I1 O) λa s2 ⟨B,H2,I2,U,q2⟩=>?_;refine aT (hg pins s2 σ H2 W B b a _ I2 M U q2) λold s3 ⟨u,H3,I3,w,q3⟩=>?_;refine aT (he pins s3 σ H3 _ I3 q3) λv s4 ⟨N,H4,p,j,q4⟩=>?_;refine aT (hp pins s4 σ H4 u N old v _ p w j q4) λnew t ⟨Z,H5,I5,r5,r⟩=>?_;exact aT (hs pins t σ H5 W B Z b a new _ I5 M U r5 r) λ_ s6 ⟨H6,I6,q6⟩=>⟨σ,H6,I6,q6⟩
def RE(f:Int->Int->Int):Bp:=λx y H Q=>∃i j,x= .int i/\y= .int j/\Q (.int (f i j)) H
def F6:RV X .Sub (RE λi j=>i-j):=by
 intro pins s σ H x y v u Q I r1 r2 h;obtain⟨i,j,e1,e2,q⟩:=h;subst e1;subst e2;obtain⟨t,rfl⟩:=r1;obtain⟨t',rfl⟩:=r2;exact isub_int ⟨.int _,H,I.tok _,⟨_,rfl⟩,q⟩
end
section
variable{X:Cx}{pos:Pos}
def E7(c:TT)(tb:TS):TS:=λD σ H=>∃W:Nat->qr->Hp->Prop,(∃m,W m σ H)/\∀m σ H,W m σ H->
 c σ H λb H1=>if b=true then∃N:qr->Hp->Prop,(∀M H',N M H'->∃O,O<m/\W O M H')/\tb {D with nx:=N,ct:=N,bk:=D.nx} σ H1 else D.nx σ H1
def uG{c:eB}{a:List eQ}{tc:TT}{tb:TS}(hp:PassesOwn (bj X.prog X.w) X.A X.env X.xe)(hc:PT X c tc)(hb:kU X a tb):PS X (.While c a [] pos) (E7 tc tb):=by
  intro pins s σ H D I h;obtain⟨W,⟨m0,w0⟩,M⟩:=h;refine wpAny_While (codeAny_whileLoop (λn s'=>∃σ' H',Inv X pins σ' H' s'/\W n σ' H') ?_ m0 ⟨σ,H,I,w0⟩);rintro n s1 ⟨σ1,H1,I1,w1⟩;refine eC hp (aT (hc pins s1 σ1 H1 _ I1 (M n σ1 H1 w1)) λb s2 ⟨H2,I2,q2⟩=>?_);cases b with
  | true =>
    obtain⟨N,hN,q2⟩:=q2;rw[if_pos rfl];refine eC hp (aT (hb pins s2 σ1 H2 _ I2 q2) λf s3 q3=>?_);cases f with
    | next =>
      obtain⟨e,H3,I3,d⟩:=q3;obtain⟨O,hm,F⟩:=hN e H3 d;exact⟨O,hm,e,H3,I3,F⟩
    | cont =>
      obtain⟨e,H3,I3,d⟩:=q3;obtain⟨O,hm,F⟩:=hN e H3 d;exact⟨O,hm,e,H3,I3,F⟩
    |brk=>exact q3
    |ret v=>exact q3
  | false =>
    rw[if_neg dH];exact hY ⟨σ1,H2,I2,q2⟩
end
structure It where
 go:Nat->Hp->Prop
 nN:Nat->Hp->V->Hp->Prop
 stop:Nat->Hp->Prop
def jC(X:Cx)(pins:List (aF×Obj))(H:Hp)(b:aF):Prop:=
 H b=none/\b≠X.env.locals/\b∉X.fs/\(b∈X.ex\/X.s₀.heap.objs.size<=b)/\(∀x c,X.env.cells.lookup x=some c->c≠b)/\∀p∈X.pn++pins,p.1≠b
def Inv.qU{X:Cx}{σ:qr}{H H':Hp}(I:Inv X pins σ H s)(hb:s.heap.objs.size<=b)(hn:H' b=none):jC X pins H' b:=by
 refine⟨hn,kO (eK I.lt hb),I.S7 hb, .inr (dP I.sz hb),λx c e z=>?_,λp hp z=>?_⟩
 .obtain⟨v,q⟩:=I.cell x c e;exact absurd (eK q.lt (by rw[z];exact hb)) (i7 _)
 .exact absurd (eK (bN (I.pin p hp).1) (by rw[z];exact hb)) (i7 _)
structure Turn(P:bc)(w:cx)(K:PySem.W.Frag)(tg:eB)(J:It)(fp:List aF)(it:aF)(tn:Nat->eo->Prop):Prop where
 mem:it∈fp
 obj:∀i h,tn i h->∀b∈fp,∃o,h.get? b=some o/\∀v,o.data≠ .cell v
 keep:∀i h h',tn i h->(∀b∈fp,∀o,h.get? b=some o->h'.get? b=some o)->tn i h'
 item:∀(X:Cx),X.prog=P->X.w=w->X.K=K->X.calm=true->∀(i:Nat) (pins:List (aF×Obj)) (s:aw) (σ:qr) (H:Hp) (E:ag->aw->Prop),Inv X pins σ H s->(∀b∈fp,jC X pins H b)->tn i s.heap->J.go i H->
  wpAny (bj P w) X.A (gw (.ref it)) (λr s1=>∃u,r=some u/\
   wpAny (bj P w) X.A (hZ tg (.ref it) u) (λ_ s2=>∃x H',Inv X pins σ H' s2/\RelV x u/\J.nN i H x H'/\tn (i+1) s2.heap/\∀b∈fp,H' b=none) E s1) E s
 done:∀(X:Cx),X.prog=P->X.w=w->X.K=K->X.calm=true->∀(i:Nat) (pins:List (aF×Obj)) (s:aw) (σ:qr) (H:Hp) (E:ag->aw->Prop),Inv X pins σ H s->(∀b∈fp,jC X pins H b)->tn i s.heap->J.stop i H->
  wpAny (bj P w) X.A (gw (.ref it)) (λr s1=>r=none/\Inv X pins σ H s1) E s
 self:∀(A:c3) (i:Nat) (s:aw) (Q:ag->aw->Prop) (E:ag->aw->Prop),tn i s.heap->Q (.ref it) s->wpAny (bj P w) A (x6 (.ref it)) Q E s
abbrev TI:=qr->Hp->(It->Hp->Prop)->Prop
def MK(X:Cx)(pins:List (aF×Obj))(σ:qr)(tg:eB)(R:It->Hp->Prop)(itv:ag)(s2:aw):Prop:=
 ∃(it:aF) (fp:List aF) (tn:Nat->eo->Prop) (J:It) (H':Hp),itv= .ref it/\Inv X pins σ H' s2/\Turn X.prog X.w X.K tg J fp it tn/\tn 0 s2.heap/\(∀b∈fp,jC X pins H' b)/\R J H'
def PI(X:Cx)(tg l:eB)(F:TI):Prop:=
 ∀(pins:List (aF×Obj)) (s:aw) (σ:qr) (H:Hp) (R:It->Hp->Prop),Inv X pins σ H s->F σ H R->
  wpAny (bj X.prog X.w) X.A (eval l X.env) (λv s1=>wpAny (bj X.prog X.w) X.A (x6 v) (MK X pins σ tg R) X.xe s1) X.xe s
def JK{A:c3}{n:String}{vs:Array ag}{Q:Unit->aw->Prop}(ho:s.heap.get? it=some o)(hc:o.cls= .type n)(hd:o.data= .fields vs)
    (hn:["enumerate","zip","dict_itemiterator","dict_reverseitemiterator","odict_iterator","itertools.zip_longest","itertools.pairwise"].contains n=false) (hQ:Q () s):wpAny M A (hZ tg (.ref it) u) Q E s:=by
  unfold hZ
  cases tg<;>first
    |exact ax hQ
    |(cases u<;>first
        |exact ax hQ
        | (refine wpAny_bind (wpAny_load ho ?_)
           rw[hc,hd];show wpAny M A (if(["enumerate","zip","dict_itemiterator","dict_reverseitemiterator","odict_iterator","itertools.zip_longest","itertools.pairwise"].contains n && vs[0]?==some (cf _))=true then _ else _) Q E s;rw[if_neg (by intro h;rw[hn,Bool.false_and] at h;cases h)];exact ax hQ))
noncomputable def qP(K:PySem.W.Frag)(a:aF):It:=
 ⟨λi H=>∃xs x,aV K H a xs/\xs[i]?=some x,λi H x H'=>H'=H/\∀xs,aV K H a xs->xs[i]?=some x,λi H=>∃xs,aV K H a xs/\xs.length<=i⟩
noncomputable def j9(lo:Int)(n:Nat):It:=⟨λi _=>i<n,λi H x H'=>H'=H/\x= .int (lo+i),λi _=>n<=i⟩
theorem Mo{P:bc}{K:PySem.W.Frag}(a it:aF):Turn P w K tg (qP K a) [it] it (λi h=>h.IsListIter it a i) where
 mem:=by simp
 obj:=λi h st b hb=>by
  have e:b=it:=by simpa using hb
  subst e;obtain⟨o,e,c,d⟩:=st;exact⟨o,e,λv z=>by rw[d] at z;cases z⟩
 keep:=λi h h' st k=>st.at λo e=>k it (by simp) o e
 item:=by
  intro X hP hw hK hc i pins s σ H E I hf st hg;subst hP hw hK;obtain⟨xs,x,hq,hx⟩:=hg;obtain⟨its,rv,p,hz⟩:=I.list hq;obtain⟨u,hu,G⟩:=rv.get hx;obtain⟨M,f1,f2,f3,f4,f5⟩:=hf it (by simp);refine kl st p.isList (x:=u) (by simpa using hu) λh' g sb=>?_;have I1:Inv X pins σ H {s with heap:=h'}:=I.turned (t':=s.toks) (λb o hb e=>(sb.2 b hb).trans e) M f1 f3 f4 f5;obtain⟨o,e,c,d⟩:=id g;exact⟨u,rfl,JK (s:={s with heap:=h'}) e c d ⋯ ⟨x,H,I1,G,⟨rfl,λys hy=>by rw[I.AN hy hq];exact hx⟩,g,λb hb=>(hf b hb).1⟩⟩
 done:=by
  intro X hP hw hK hc i pins s σ H E I hf st hg;subst hP hw hK;obtain⟨xs,hq,hx⟩:=hg;obtain⟨its,rv,p,hz⟩:=I.list hq;obtain⟨M,f1,f2,f3,f4,f5⟩:=hf it (by simp);have hl:=rv.length;exact kS (I.ok.hd hc) st p.isList (by simp;omega) λh' A=>⟨rfl,I.turned (t':=s.toks) (λb o hb e=>A b o hb e) M f1 f3 f4 f5⟩
 self:=λ_ _ _ _ _ st h=>wpAny_pyIter_listiter st h
theorem GX{P:bc}{K:PySem.W.Frag}(it:aF)(lo:Int)(n:Nat):Turn P w K tg (j9 lo n) [it] it (λi h=>IsRangeIter h it (lo+(i:Nat)*1) ((n:Int)-(i:Nat)) 1) where
 mem:=by simp
 obj:=λi h st b hb=>by
  have e:b=it:=by simpa using hb
  subst e
  exact⟨_,st,λv z=>by
   have z':pG _=ml v:=z;cases z'⟩
 keep:=λi h h' st k=>k it (by simp) _ st
 item:=by
  intro X hP hw hK hc i pins s σ H E I hf st hg;subst hP hw hK;obtain⟨M,f1,f2,f3,f4,f5⟩:=hf it (by simp);have W:=Walks.range (prog:=X.prog) (w:=X.w) (I.ok.hd hc) it lo 1 n;refine W.item i s _ _ hg st λv h' tk hv g J=>?_;obtain⟨t,rfl⟩:=hv;have I1:Inv X pins σ H {s with heap:=h',toks:=tk}:=I.turned (λb o hb e=>J b o (by simpa using hb) e) M f1 f3 f4 f5;refine⟨_,rfl,JK (s:={s with heap:=h',toks:=tk}) (n:="range_iterator") g rfl rfl ⋯ ⟨.int (lo+i),H,I1,⟨t,?_⟩,⟨rfl,rfl⟩,g,λb hb=>(hf b hb).1⟩⟩;rw[se]
 done:=by
  intro X hP hw hK hc i pins s σ H E I hf st hg;subst hP hw hK;obtain⟨M,f1,f2,f3,f4,f5⟩:=hf it (by simp);exact wpAny_pyNext_range_end (I.ok.hd hc) st (by have:n<=i:=hg;omega) λh' A=>⟨rfl,I.turned (t':=s.toks) (λb o hb e=>A b o hb e) M f1 f3 f4 f5⟩
 self:=λ_ _ _ _ _ st h=>wpAny_pyIter_rangeiter st h
section
variable{X:Cx}{tg:eB}
def ua(K:PySem.W.Frag)(tl:TE):TI:=λσ H R=>tl σ H λx H1=>∃a,x= .ref a/\(∃xs,aV K H1 a xs)/\R (qP K a) H1
def XF{l:eB}{tl:TE}(hl:PE X l tl):PI X tg l (ua X.K tl):=by
 intro pins s σ H R I h;refine aT (hl pins s σ H _ I h) λv s1 ⟨x,H1,I1,M,O⟩=>?_;obtain⟨a,e,⟨xs,hq⟩,q⟩:=O;subst e;cases M;obtain⟨its,rv,p,hz⟩:=I1.list hq;refine gN p.isList ?_;refine⟨s1.heap.objs.size,[s1.heap.objs.size],_,_,H1,rfl,I1.kept (t':=s1.toks) λb o e=>cF _ e,Mo a _,⟨_,gk _ rfl,rfl,rfl⟩,λb hb=>?_,q⟩;have e:b=s1.heap.objs.size:=by simpa using hb
 subst e;exact I1.qU (aW _) (I1.hok.fresh (aW _))
theorem SA{σ:qr}{H:Hp}{R:It->Hp->Prop}{lo hi:Int}{t u v:Tok}{tk:Nat}(I:Inv X pins σ H s)(h1: -(2^62)<=lo)(h2:lo<2^62)(h3: -(2^62)<=hi)(h4:hi<2^62)
  (q:R (j9 lo (hi-lo).toNat) H):wpAny (bj X.prog X.w) X.A (x6 (.ref s.heap.objs.size)) (MK X pins σ tg R) E {s with heap:=s.heap.push {cls:= .type "range",data:= .fields #[.int lo t, .int hi u, .int 1 v]},toks:=tk}:=by
 refine wpAny_pyIter_range (IsRange.new ..) (small_one h1 h2 h3 h4) ?_;have I1:Inv X pins σ H {s with heap:=s.heap.push {cls:= .type "range",data:= .fields #[.int lo t, .int hi u, .int 1 v]},toks:=tk}:=I.kept λb o e=>cF _ e
 refine⟨(s.heap.push {cls:= .type "range",data:= .fields #[.int lo t, .int hi u, .int 1 v]}).objs.size,[(s.heap.push {cls:= .type "range",data:= .fields #[.int lo t, .int hi u, .int 1 v]}).objs.size],_,_,H,rfl,
  I1.kept (t':=tk) λb o e=>cF _ e,GX _ lo (hi-lo).toNat,?_,λb hb=>?_,q⟩
 .have e1:lo+((0:Nat):Int)*1=lo:=by simp
  have e2:(((hi-lo).toNat:Nat):Int)-((0:Nat):Int)=tx lo hi 1:=by rw[rangeSize_one];split<;>omega
  show IsRangeIter _ _ (lo+((0:Nat):Int)*1) ((((hi-lo).toNat:Nat):Int)-((0:Nat):Int)) 1;rw[e1,e2];exact gk _ rfl
 .have e:b=(s.heap.push {cls:= .type "range",data:= .fields #[.int lo t, .int hi u, .int 1 v]}).objs.size:=by simpa using hb
  subst e;exact I1.qU (aW _) (I1.hok.fresh (aW _))
def wV(ta:TA):TI:=λσ H R=>ta σ H λvs H1=>∃j:Int,vs=[.int j]/\ -(2^62)<=j/\j<2^62/\R (j9 0 j.toNat) H1
def Tj(ta:TA):TI:=λσ H R=>ta σ H λvs H1=>∃i j:Int,vs=[.int i, .int j]/\(-(2^62)<=i/\i<2^62/\ -(2^62)<=j/\j<2^62)/\R (j9 i (j-i).toNat) H1
theorem iN{a:eB}{ta:TA}{p:Pos}(hg:Gl X "range")(hm:X.mg "range"=none)(ha:PA X [a] ta)(hs:cc [a] X.env=[(false,eval a X.env)]:=by rfl):PI X tg (.Call (.Name "range" p) [a] [] pos) (wV ta):=by
  intro pins s σ H R I h;refine y7 (nU I hg hm boot_range (qR (aT (ha pos pins s σ H _ I h) λus s1 ⟨vs,H1,I1,M,O⟩=>?_) hs rfl));obtain⟨j,e,O,q2,q⟩:=O;subst e;cases M with
  | cons r n =>
    cases n;obtain⟨t,rfl⟩:=r;exact call_range_1 (SA I1 ∅ ∅ O q2 (by simpa using q))
def Lk{a b:eB}{ta:TA}{p:Pos}(hg:Gl X "range")(hm:X.mg "range"=none)(ha:PA X [a,b] ta)(hs:cc [a,b] X.env=[(false,eval a X.env),(false,eval b X.env)]:=by rfl)(m:cc [b] X.env=[(false,eval b X.env)]:=by rfl):
    PI X tg (.Call (.Name "range" p) [a,b] [] pos) (Tj ta):=by
  intro pins s σ H R I h;refine y7 (nU I hg hm boot_range (qR (aT (ha pos pins s σ H _ I h) λus s1 ⟨vs,H1,I1,M,O⟩=>?_) (by rw[hs,m]) (by rw[m];rfl)));obtain⟨i,j,e,⟨O,q2,q3,q4⟩,q⟩:=O;subst e;cases M with
  | cons r n =>
    cases n with
    | cons r' n =>
      cases n;obtain⟨t,rfl⟩:=r;obtain⟨t',rfl⟩:=r';exact call_range_2 (SA I1 O q2 q3 q4 q)
def qj(F:TI)(g:TG)(tb:TS):TS:=λD σ H=>F σ H λJ H1=>∃W:Nat->Nat->qr->Hp->Prop,(∃m,W 0 m σ H1)/\∀i m σ H,W i m σ H->
 (J.stop i H/\D.nx σ H)\/(J.go i H/\∃N:qr->Hp->Prop,(∀M H',N M H'->∃O,O<m/\W (i+1) O M H')/\∀x H',J.nN i H x H'->g x σ H' λc H2=>tb {D with nx:=N,ct:=N,bk:=D.nx} c H2)
noncomputable def wJ(fp:List aF)(h:eo):List (aF×Obj):=fp.filterMap λb=>(h.get? b).map λo=>(b,o)
def Bu(hb:b∈fp)(e:h.get? b=some o):(b,o)∈wJ fp h:=FQ.mpr ⟨b,hb,by rw[e];rfl⟩
def Ze{p:aF×Obj}(hp:p∈wJ fp h):p.1∈fp/\h.get? p.1=some p.2:=by
  obtain⟨b,hb,e⟩:=FQ.mp hp;cases q:h.get? b with
  |none=>rw[q] at e;cases e
  | some o =>
    rw[q] at e;have e':(b,o)=p:=fP e;subst e';exact⟨hb,q⟩
def Inv.pinned{σ:qr}{H:Hp}(I:Inv X pins σ H s)(hf:∀b∈fp,jC X pins H b)(ho:∀b∈fp,∃o,s.heap.get? b=some o/\∀v,o.data≠ .cell v):Inv X (pins++wJ fp s.heap) σ H s:=
 I.O1 λp hp=>(dM.mp hp).elim (λz=>I.pin p (jI _ z)) λz=>by
  obtain⟨hb,e⟩:=Ze z;obtain⟨M,f1,f2,_⟩:=hf p.1 hb;obtain⟨o,e',d⟩:=ho p.1 hb;rw[e] at e';cases e'
  exact⟨e,M,f1,f2,d⟩
def Inv.yf{pl:List (aF×Obj)}{σ:qr}{H:Hp}(I:Inv X (pins++pl) σ H s):Inv X pins σ H s:=I.O1 λp hp=>I.pin p (jI _ (jB _ hp))
def gX{l:eB}{a:List eQ}{F:TI}{g:TG}{tb:TS}(hp:PassesOwn (bj X.prog X.w) X.A X.env X.xe)(hc:X.calm=true)(hi:PI X tg l F)(hg:PG X tg g)(hb:kU X a tb)
  (hs:∀x,fq l X.env x=pure x:=by intro _;rfl):PS X (.For tg l a [] pos) (qj F g tb):=by
 intro pins s σ H D I h;refine wpAny_For (aT (hi pins s σ H _ I h) λv s1 h1=>aT h1 λitv s2 h2=>?_) hs;obtain⟨it,fp,tn,J,H2,e,I2,T,P,f2,W,⟨m0,w0⟩,M⟩:=h2;subst e;have pO:∀{H':Hp},(∀b∈fp,H' b=none)->∀b∈fp,jC X pins H' b:=λhn b hb=>⟨hn b hb,(f2 b hb).2⟩;refine codeAny_forLoop_any (λn s'=>∃i σ' H',Inv X pins σ' H' s'/\tn i s'.heap/\(∀b∈fp,H' b=none)/\W i n σ' H') ?_ m0 ⟨0,σ,H2,I2,P,λb hb=>(f2 b hb).1,w0⟩;rintro n s3 ⟨i,σ3,H3,I3,st3,fr3,w3⟩;rcases M i n σ3 H3 w3 with ⟨stop,qn⟩|⟨go,N,hN,step⟩
 .refine eC hp (aT (T.done X rfl rfl rfl hc i pins s3 σ3 H3 X.xe I3 (pO fr3) st3 stop) λr s4 ⟨hr,p⟩=>?_);subst hr;exact hY ⟨σ3,H3,p,qn⟩
 .refine eC hp (aT (T.item X rfl rfl rfl hc i pins s3 σ3 H3 X.xe I3 (pO fr3) st3 go) λr s4 ⟨u,hr,h4⟩=>?_);subst hr;refine eC hp (aT h4 λ_ t ⟨x,H5,I5,r5,y5,rK,Ht⟩=>?_);have EJ:=I5.pinned (pO Ht) (T.obj _ _ rK);refine eC hp (aT (hg _ t σ3 H5 x u _ EJ r5 (step x H5 y5)) λ_ s6 ⟨wF,H6,I6,q6⟩=>?_);refine eC hp (aT (hb _ s6 wF H6 _ I6 q6) λf s7 S=>?_);have again:∀{c:qr} {U:Hp},Inv X (pins++wJ fp t.heap) c U s7->N c U->∃m,m<n/\∃i σ' H',Inv X pins σ' H' s7/\tn i s7.heap/\(∀b∈fp,H' b=none)/\W i m σ' H':=λ{c U} R j=>by
   obtain⟨O,hm,q⟩:=hN c U j;refine⟨O,hm,i+1,c,U,R.yf,T.keep _ _ _ rK λb hb o e=>(R.pin (b,o) (jI _ (jI _ (Bu hb e)))).1,λb hb=>?_,q⟩;obtain⟨o,e,d⟩:=T.obj _ _ rK b hb;exact(R.pin (b,o) (jI _ (jI _ (Bu hb e)))).2.1
  cases f with
  |next=>obtain⟨c,U,R,j⟩:=S;exact again R j
  |cont=>obtain⟨c,U,R,j⟩:=S;exact again R j
  |brk=>obtain⟨c,U,R,S⟩:=S;exact⟨c,U,R.yf,S⟩
  |ret v=>obtain⟨B,c,U,R,k,S⟩:=S;exact⟨B,c,U,R.yf,k,S⟩
end
theorem JO{K:PySem.W.Frag}{xs:List V}{g:TG}{tb:TS}{D:Ends}{σ:qr}{H:Hp}(Pv:Nat->qr->Hp->Prop)(h0:Pv 0 σ H)(hl:∀i σ H,i<=xs.length->Pv i σ H->aV K H a xs)
  (hs:∀i x σ H,xs[i]?=some x->Pv i σ H->g x σ H λc H2=>tb {D with nx:=Pv (i+1),ct:=Pv (i+1),bk:=D.nx} c H2) (hd:∀σ H,Pv xs.length σ H->D.nx σ H):
  ∃W:Nat->Nat->qr->Hp->Prop,(∃m,W 0 m σ H)/\∀i m σ H,W i m σ H->
   ((qP K a).stop i H/\D.nx σ H)\/((qP K a).go i H/\∃N:qr->Hp->Prop,(∀M H',N M H'->∃O,O<m/\W (i+1) O M H')/\∀x H',(qP K a).nN i H x H'->g x σ H' λc H2=>tb {D with nx:=N,ct:=N,bk:=D.nx} c H2):=by
 refine⟨λi m σ H=>m=xs.length-i/\i<=xs.length/\Pv i σ H,⟨xs.length,by simp,gE _,h0⟩,?_⟩;rintro i m σ H ⟨rfl,hi,p⟩;have q:=hl i σ H hi p;by_cases hlt:i<xs.length
 .refine .inr ⟨⟨xs,xs[i],q,by simp[hlt]⟩,Pv (i+1),λM H' j=>⟨xs.length-(i+1),∅,rfl,hlt,j⟩,λx H' y=>?_⟩;obtain⟨e,y⟩:=y;subst e;exact hs i x σ _ (y xs q) p
 .have e:i=xs.length:=∅
  subst e;exact .inl ⟨⟨xs,q,aW _⟩,hd σ H p⟩
theorem Ke{lo:Int}{g:TG}{tb:TS}{D:Ends}{σ:qr}{H:Hp}(Pv:Nat->qr->Hp->Prop)(h0:Pv 0 σ H)
  (hs:∀i σ H,i<n->Pv i σ H->g (.int (lo+i)) σ H λc H2=>tb {D with nx:=Pv (i+1),ct:=Pv (i+1),bk:=D.nx} c H2) (hd:∀σ H,Pv n σ H->D.nx σ H):
  ∃W:Nat->Nat->qr->Hp->Prop,(∃m,W 0 m σ H)/\∀i m σ H,W i m σ H->
   ((j9 lo n).stop i H/\D.nx σ H)\/((j9 lo n).go i H/\∃N:qr->Hp->Prop,(∀M H',N M H'->∃O,O<m/\W (i+1) O M H')/\∀x H',(j9 lo n).nN i H x H'->g x σ H' λc H2=>tb {D with nx:=N,ct:=N,bk:=D.nx} c H2):=by
 refine⟨λi m σ H=>m=n-i/\i<=n/\Pv i σ H,⟨n,by simp,gE _,h0⟩,?_⟩;rintro i m σ H ⟨rfl,hi,p⟩;by_cases hlt:i<n
 .refine .inr ⟨hlt,Pv (i+1),λM H' j=>⟨n-(i+1),∅,rfl,hlt,j⟩,λx H' y=>?_⟩;obtain⟨e,y⟩:=y;subst e y;exact hs i σ _ hlt p
 .have e:i=n:=∅
  subst e;exact .inl ⟨aW _,hd σ H p⟩
def Wm{c:TT}{tb:TS}{D:Ends}{σ:qr}{H:Hp}(Pv:qr->Hp->Prop)(a:qr->Hp->Nat)(h0:Pv σ H)
  (hs:∀σ H,Pv σ H->c σ H λb H1=>if b=true then tb {D with nx:=λM H'=>Pv M H'/\a M H'<a σ H,ct:=λM H'=>Pv M H'/\a M H'<a σ H,bk:=D.nx} σ H1 else D.nx σ H1)
  (mono:∀σ H Q g,(∀b H1,Q b H1->g b H1)->c σ H Q->c σ H g):E7 c tb D σ H:=by
 refine⟨λm σ H=>m=a σ H/\Pv σ H,⟨_,rfl,h0⟩,?_⟩;rintro m σ H ⟨rfl,p⟩;refine mono σ H _ _ (λb H1 q=>?_) (hs σ H p);cases b with
 |true=>exact⟨_,λM H' ⟨j,l⟩=>⟨_,l,rfl,j⟩,q⟩
 |false=>exact q
abbrev R2:=V->V->Hp->VK->Prop
def dZ(X:Cx)(f:ag->ag->Sem ag)(r:R2):Prop:=
 ∀(pins:List (aF×Obj)) (s:aw) (σ:qr) (H:Hp) (x y:V) (v u:ag) (Q:VK),Inv X pins σ H s->RelV x v->RelV y u->r x y H Q->
  wpAny (bj X.prog X.w) X.A (f v u) (EP X pins σ Q) X.xe s
def Iv(X:Cx)(f:ag->Sem ag)(r:V->Hp->VK->Prop):Prop:=
 ∀(pins:List (aF×Obj)) (s:aw) (σ:qr) (H:Hp) (x:V) (v:ag) (Q:VK),Inv X pins σ H s->RelV x v->r x H Q->
  wpAny (bj X.prog X.w) X.A (f v) (EP X pins σ Q) X.xe s
def iF(X:Cx)(f:ag)(r:List V->Hp->VK->Prop):Prop:=
 ∀(pins:List (aF×Obj)) (s:aw) (σ:qr) (H:Hp) (xs:List V) (us:List ag) (Q:VK),Inv X pins σ H s->Vals xs us->r xs H Q->
  wpAny (bj X.prog X.w) X.A (call f us) (EP X pins σ Q) X.xe s
def MH(X:Cx)(r:V->Hp->(Bool->Hp->Prop)->Prop):Prop:=
 ∀(pins:List (aF×Obj)) (s:aw) (σ:qr) (H:Hp) (x:V) (v:ag) (Q:Bool->Hp->Prop),Inv X pins σ H s->RelV x v->r x H Q->
  wpAny (bj X.prog X.w) X.A (truthy v) (TP X pins σ Q) X.xe s
def cQ(r:R2)(ta tb:TE):TE:=λσ H Q=>ta σ H λx H1=>tb σ H1 λy H2=>r x y H2 Q
def Ge(r:V->Hp->VK->Prop)(ta:TE):TE:=λσ H Q=>ta σ H λx H1=>r x H1 Q
def rI(C:Int->Int->Prop)(g:Int->Int->V):R2:=λx y H Q=>∃i j,x= .int i/\y= .int j/\C i j/\Q (g i j) H
def j5(g:Int->Int->V):R2:=λx y H Q=>∃i j,x= .int i/\y= .int j/\Q (g i j) H
def rU(g:Int->V):V->Hp->VK->Prop:=λx H Q=>∃i,x= .int i/\Q (g i) H
section
variable{X:Cx}{a b c:eB}{ta tb tc:TE}{pos:Pos}
def Gd(ha:PE X a ta)(hb:PE X b tb){pins:List (aF×Obj)}{s:aw}{σ:qr}{H:Hp}{R:V->V->Hp->Prop}(I:Inv X pins σ H s)
  (h:ta σ H λx H1=>tb σ H1 λy H2=>R x y H2) {Q:ag->aw->Prop} {f:ag->ag->Sem ag}
  (hf:∀v u s2 x y H2,Inv X pins σ H2 s2->RelV x v->RelV y u->R x y H2->wpAny (bj X.prog X.w) X.A (f v u) Q X.xe s2):
  wpAny (bj X.prog X.w) X.A (eval a X.env) (λv s₁=>wpAny (bj X.prog X.w) X.A (eval b X.env) (λu d=>wpAny (bj X.prog X.w) X.A (f v u) Q X.xe d) X.xe s₁) X.xe s:=by
 refine aT (ha pins s σ H _ I h) λv s1 ⟨x,H1,I1,M,O⟩=>?_;refine aT (hb pins s1 σ H1 _ I1 O) λu s2 ⟨y,H2,I2,U,q2⟩=>?_;exact hf v u s2 x y H2 I2 M U q2
def aM{op:x5}{r:R2}(ho:dZ X (iq op) r)(ha:PE X a ta)(hb:PE X b tb):PE X (.BinOp a op b pos) (cQ r ta tb):=by
 intro pins s σ H Q I h;exact wpAny_BinOp (Gd ha hb I h λv u s2 x y H2 I2 g d q=>ho pins s2 σ H2 x y v u Q I2 g d q)
def sL{op:UnaryOp}{r:V->Hp->VK->Prop}(ho:Iv X (unaryOp op) r)(ha:PE X a ta):PE X (.UnaryOp op a pos) (Ge r ta):=by
 intro pins s σ H Q I h;exact UnaryOp_ (aT (ha pins s σ H _ I h) λv s1 ⟨x,H1,I1,M,O⟩=>ho pins s1 σ H1 x v Q I1 M O)
def zW{C:Int->Int->Prop}{g:Int->Int->Int}
  (rule:∀(i j:Int) (t u:Tok) (s:aw) (Q:ag->aw->Prop) (E:ag->aw->Prop),C i j->Q (.int (g i j) s.toks) {s with toks:=s.toks+1}->wpAny (bj X.prog X.w) X.A (f (.int i t) (.int j u)) Q E s):
  dZ X f (rI C λi j=> .int (g i j)):=by
 intro pins s σ H x y v u Q I rx ry h;obtain⟨i,j,rfl,rfl,hc,q⟩:=h;obtain⟨t,rfl⟩:=rx;obtain⟨t',rfl⟩:=ry;exact rule i j t t' s _ _ hc ⟨.int (g i j),H,I.tok _,⟨_,rfl⟩,q⟩
def M9{g:Int->Int->Int}
  (rule:∀(i j:Int) (t u:Tok) (s:aw) (Q:ag->aw->Prop) (E:ag->aw->Prop),Q (.int (g i j) s.toks) {s with toks:=s.toks+1}->wpAny (bj X.prog X.w) X.A (f (.int i t) (.int j u)) Q E s):
  dZ X f (j5 λi j=> .int (g i j)):=by
 intro pins s σ H x y v u Q I rx ry h;obtain⟨i,j,rfl,rfl,q⟩:=h;obtain⟨t,rfl⟩:=rx;obtain⟨t',rfl⟩:=ry;exact rule i j t t' s _ _ ⟨.int (g i j),H,I.tok _,⟨_,rfl⟩,q⟩
def Ik{g:Int->Int->Bool}
  (rule:∀(i j:Int) (t u:Tok) (s:aw) (Q:ag->aw->Prop) (E:ag->aw->Prop),Q (.bool (g i j)) s->wpAny (bj X.prog X.w) X.A (f (.int i t) (.int j u)) Q E s):
  dZ X f (j5 λi j=> .bl (g i j)):=by
 intro pins s σ H x y v u Q I rx ry h;obtain⟨i,j,rfl,rfl,q⟩:=h;obtain⟨t,rfl⟩:=rx;obtain⟨t',rfl⟩:=ry;exact rule i j t t' s _ _ ⟨.bl (g i j),H,I,rfl,q⟩
def El(i j:Int):Prop:=0<=j/\j<=1000000/\i.natAbs<2^64
def Cz(i j:Int):Prop:=(-(2^64)<i/\i<2^64)\/(-(2^64)<j/\j<2^64)
def Cz.ok{i j:Int}(h:Cz i j):IntMulOk i j:=by
 rcases h with ⟨h1,h2⟩|⟨h1,h2⟩
 .exact .of_left (tz h1 h2)
 .exact .of_right (tz h1 h2)
def gm:dZ X (iq .Add) (j5 λi j=> .int (i+j)):=M9 λ_ _ _ _ _ _ _ q=>add_int q
def nE:dZ X (iq .Sub) (j5 λi j=> .int (i-j)):=M9 λ_ _ _ _ _ _ _ q=>sub_int q
theorem ia:dZ X (iq .Mod) (rI (λ_ j=>0<j) λi j=> .int (i%j)):=zW λi j _ _ _ _ _ hc q=>by
 have h1:(0:Int)<j:=hc;exact mod_int' ∅ (by rw[Int.fmod_eq_emod_of_nonneg i ∅];exact q)
def Ak:dZ X (iq .Pow) (rI El λi j=> .int (i^j.toNat)):=zW λ_ _ _ _ _ _ _ hc q=>pow_int_small hc.1 hc.2.1 hc.2.2 q
def DX{f:ag->Sem ag}{g:Int->Int}
  (rule:∀(i:Int) (t:Tok) (s:aw) (Q:ag->aw->Prop) (E:ag->aw->Prop),Q (.int (g i) s.toks) {s with toks:=s.toks+1}->wpAny (bj X.prog X.w) X.A (f (.int i t)) Q E s):
  Iv X f (rU λi=> .int (g i)):=by
 intro pins s σ H x v Q I rx h;obtain⟨i,rfl,q⟩:=h;obtain⟨t,rfl⟩:=rx;exact rule i t s _ _ ⟨.int (g i),H,I.tok _,⟨_,rfl⟩,q⟩
def uB:Iv X (unaryOp .USub) (rU λi=> .int (-i)):=DX λ_ _ _ _ _ q=>neg_int q
end
noncomputable def Hw:V->V->Bool
 | .aP, .aP=>true| .aP, .int _=>true| .int _, .aP=>true| .aP, .bl _=>true| .bl _, .aP=>true| .aP, .str _=>true| .str _, .aP=>true
 | .int _, .int _=>true| .bl _, .bl _=>true| .str _, .str _=>true| .kj _, .kj _=>true
 | .int _, .str _=>true| .str _, .int _=>true| .bl _, .str _=>true| .str _, .bl _=>true
 |_,_=>false
def J7:R2:=λx y H Q=>Hw x y=true/\Q (.bl (decide (x=y))) H
def DO:R2:=λx y H Q=>Hw x y=true/\Q (.bl (!decide (x=y))) H
def Qw{i j:Int}:decide (V.int i=V.int j)=(i==j):=by
 rw[jS];simp
def Li{i j:Bool}:decide (V.bl i=V.bl j)=(i==j):=by
 rw[jS];simp
def RN{i j:Str}:decide (V.str i=V.str j)=(i==j):=by
 rw[jS];simp
def MD{i j:Array UInt8}:decide (V.kj i=V.kj j)=(i.toList==j.toList):=by
 rw[jS];cases i;cases j;simp
section
variable{X:Cx}{a b c:eB}{ta tb tc:TE}{pos:Pos}
def eE{σ:qr}{H:Hp}{Q:VK}{k u:Bool}(I:Inv X pins σ H s)(q:Q (.bl k) H)(e:k=u):EP X pins σ Q (.bool u) s:=by
 subst e;exact⟨.bl k,H,I,rfl,q⟩
def fX:dZ X (dc .Eq) J7:=by
  intro pins s σ H x y v u Q I rx d h;obtain⟨hs,q⟩:=h;cases x with
  | aP =>
    cases rx;cases y with
    |aP=>cases d;exact PySem.EqNone.eq_none_none (eE I q (by simp))
    |bl j=>cases d;exact PySem.EqNone.eq_none_bool (eE I q (by simp))
    |int j=>obtain⟨t',rfl⟩:=d;exact PySem.EqNone.eq_none_int (eE I q (by simp))
    |str j=>obtain⟨t',rfl⟩:=d;exact PySem.EqNone.eq_none_str (eE I q (by simp))
    |_=>exact absurd (show false=true from hs) dH
  | bl i =>
    cases rx;cases y with
    |aP=>cases d;exact PySem.EqNone.eq_bool_none (eE I q (by simp))
    |bl j=>cases d;exact eq_bool (eE I q Li)
    |str j=>obtain⟨t',rfl⟩:=d;exact PySem.EqMixed.eq_bool_str (eE I q (by simp))
    |_=>exact absurd (show false=true from hs) dH
  | int i =>
    obtain⟨t,rfl⟩:=rx;cases y with
    |aP=>cases d;exact PySem.EqNone.eq_int_none (eE I q (by simp))
    |int j=>obtain⟨t',rfl⟩:=d;exact eq_int (eE I q Qw)
    |str j=>obtain⟨t',rfl⟩:=d;exact PySem.EqMixed.eq_int_str (eE I q (by simp))
    |_=>exact absurd (show false=true from hs) dH
  | str i =>
    obtain⟨t,rfl⟩:=rx;cases y with
    |aP=>cases d;exact PySem.EqNone.eq_str_none (eE I q (by simp))
    |bl j=>cases d;exact PySem.EqMixed.eq_str_bool (eE I q (by simp))
    |int j=>obtain⟨t',rfl⟩:=d;exact PySem.EqMixed.eq_str_int (eE I q (by simp))
    |str j=>obtain⟨t',rfl⟩:=d;exact eq_str (eE I q RN)
    |_=>exact absurd (show false=true from hs) dH
  | kj i =>
    obtain⟨t,rfl⟩:=rx;cases y with
    |kj j=>obtain⟨t',rfl⟩:=d;exact PySem.W.eq_bytes (eE I q MD)
    |_=>exact absurd (show false=true from hs) dH
  |_=>cases y<;>exact absurd (show false=true from hs) dH
def iZ:dZ X (dc .NotEq) DO:=by
  intro pins s σ H x y v u Q I rx d h;obtain⟨hs,q⟩:=h;cases x with
  | aP =>
    cases rx;cases y with
    |aP=>cases d;exact PySem.EqNone.ne_none_none (eE I q (by simp))
    |bl j=>cases d;exact PySem.EqNone.ne_none_bool (eE I q (by simp))
    |int j=>obtain⟨t',rfl⟩:=d;exact PySem.EqNone.ne_none_int (eE I q (by simp))
    |str j=>obtain⟨t',rfl⟩:=d;exact PySem.EqNone.ne_none_str (eE I q (by simp))
    |_=>exact absurd (show false=true from hs) dH
  | bl i =>
    cases rx;cases y with
    |aP=>cases d;exact PySem.EqNone.ne_bool_none (eE I q (by simp))
    |bl j=>cases d;exact ne_bool (eE I q (congrArg not Li))
    |str j=>obtain⟨t',rfl⟩:=d;exact PySem.EqMixed.ne_bool_str (eE I q (by simp))
    |_=>exact absurd (show false=true from hs) dH
  | int i =>
    obtain⟨t,rfl⟩:=rx;cases y with
    |aP=>cases d;exact PySem.EqNone.ne_int_none (eE I q (by simp))
    |int j=>obtain⟨t',rfl⟩:=d;exact ne_int (eE I q (congrArg not Qw))
    |str j=>obtain⟨t',rfl⟩:=d;exact PySem.EqMixed.ne_int_str (eE I q (by simp))
    |_=>exact absurd (show false=true from hs) dH
  | str i =>
    obtain⟨t,rfl⟩:=rx;cases y with
    |aP=>cases d;exact PySem.EqNone.ne_str_none (eE I q (by simp))
    |bl j=>cases d;exact PySem.EqMixed.ne_str_bool (eE I q (by simp))
    |int j=>obtain⟨t',rfl⟩:=d;exact PySem.EqMixed.ne_str_int (eE I q (by simp))
    |str j=>obtain⟨t',rfl⟩:=d;exact ne_str (eE I q (congrArg not RN))
    |_=>exact absurd (show false=true from hs) dH
  | kj i =>
    obtain⟨t,rfl⟩:=rx;cases y with
    |kj j=>obtain⟨t',rfl⟩:=d;exact PySem.W.ne_bytes (eE I q (congrArg not MD))
    |_=>exact absurd (show false=true from hs) dH
  |_=>cases y<;>exact absurd (show false=true from hs) dH
def zR:dZ X (dc .Lt) (j5 λi j=> .bl (decide (i<j))):=Ik λ_ _ _ _ _ _ _ q=>lt_int q
def MC:dZ X (dc .LtE) (j5 λi j=> .bl (decide (i<=j))):=Ik λ_ _ _ _ _ _ _ q=>le_int q
def IC:dZ X (dc .Gt) (j5 λi j=> .bl (decide (j<i))):=Ik λ_ _ _ _ _ _ _ q=>gt_int q
def ZX:dZ X (dc .Is) (λx y H Q=>y= .aP/\Q (.bl (decide (x= .aP))) H):=by
 intro pins s σ H x y v u Q I g ry h;obtain⟨rfl,q⟩:=h;cases ry;refine is_none_gen (eE I q ?_)
 cases x<;>first
  |(cases g;rfl)
  |(obtain⟨t,rfl⟩:=g;rfl)
def Vj:dZ X (dc .IsNot) (λx y H Q=>y= .aP/\Q (.bl (!decide (x= .aP))) H):=by
 intro pins s σ H x y v u Q I g ry h;obtain⟨rfl,q⟩:=h;cases ry;refine isnot_none_gen (eE I q ?_)
 cases x<;>first
  |(cases g;rfl)
  |(obtain⟨t,rfl⟩:=g;rfl)
def bu(b:eB){op:CmpOp}(h:op≠ .In:=by decide)(h2:op≠ .NotIn:=by decide):behindInMarks op b=false:=by
 have e1:(op==CmpOp.In)=false:=by cases op<;>first|rfl|exact absurd rfl h
 have e2:(op==CmpOp.NotIn)=false:=by cases op<;>first|rfl|exact absurd rfl h2
 cases b<;>simp[behindInMarks,e1,e2]
def jq{op:CmpOp}{r:R2}(ho:dZ X (dc op) r)(ha:PE X a ta)(hb:PE X b tb)(hm:behindInMarks op b=false):PE X (.Compare a [op] [b] pos) (cQ r ta tb):=by
 intro pins s σ H Q I h;exact wpAny_Compare1 (Gd ha hb I h λv u s2 x y H2 I2 g d q=>ho pins s2 σ H2 x y v u Q I2 g d q) hm
def J9(t:TE):TT:=λσ H Q=>t σ H λx H'=>∃k,x= .bl k/\Q k H'
def bB{op:CmpOp}{r:R2}(ho:dZ X (dc op) r)(ha:PE X a ta)(hb:PE X b tb)(hm:behindInMarks op b=false):PT X (.Compare a [op] [b] pos) (J9 (cQ r ta tb)):=by
 intro pins s σ H Q I h
 refine wpAny_isTrue_Compare1 (aT (ha pins s σ H _ I h) λv s1 ⟨x,H1,I1,M,O⟩=>aT (hb pins s1 σ H1 _ I1 O) λu s2 ⟨y,H2,I2,U,q2⟩=>
  aT (ho pins s2 σ H2 x y v u _ I2 M U q2) λc s3 ⟨z,H3,I3,w,k,e,q3⟩=>?_) hm
 subst e;cases w;exact fm ⟨H3,I3,q3⟩
def JQ(K:PySem.W.Frag)(x:V)(H:Hp)(k:Bool):Prop:=
 match x with
 | .aP=>k=false
 | .bl b=>k=b
 | .int i=>k=(i !=0)
 | .str y=>y.length<=sizeLine/\k=((y.length:Int) !=0)
 | .kj y=>y.size<=sizeLine/\k=((y.size:Int) !=0)
 | .ref p=>(∃xs,aV K H p xs/\k=!xs.isEmpty)\/(∃xs,iP K H p xs/\k=!xs.isEmpty)\/∃kvs,H p=some (.dK kvs)/\k=!kvs.isEmpty
 |_=>False
def UR{κ:Type}{kvs:List (κ×V)}{vs:List (κ×ag)}(r:KV kvs vs):(!vs.isEmpty)=!kvs.isEmpty:=by
 cases r<;>rfl
def SR{xs:List V}(r:Vals xs its):(!its.toArray.isEmpty)=!xs.isEmpty:=by
 cases r<;>simp
def qN:(sizeLine:Nat)<2^63:=by rw[lS];decide
theorem WQ:MH X (λx H Q=>∃k,JQ X.K x H k/\Q k H):=by
  intro pins s σ H x v Q I rx h;obtain⟨k,e,q⟩:=h;have hl:=qN;have hs:sizeLine=16777216:=lS;cases x with
  | aP =>
    cases rx;have e':k=false:=e;subst e';exact truthy_none ⟨H,I,q⟩
  | bl b =>
    cases rx;have e':k=b:=e;subst e';exact fm ⟨H,I,q⟩
  | int i =>
    obtain⟨t,rfl⟩:=rx;have e':k=(i !=0):=e;subst e';exact PySem.P.truthy_int ⟨H,I,q⟩
  | str y =>
    obtain⟨t,rfl⟩:=rx;obtain⟨hy,e'⟩:y.length<=sizeLine/\k=((y.length:Int) !=0):=e;subst e';exact PySem.P.truthy_str ∅ ⟨H,I.tok _,q⟩
  | kj y =>
    obtain⟨t,rfl⟩:=rx;obtain⟨hy,e'⟩:y.size<=sizeLine/\k=((y.size:Int) !=0):=e;subst e';exact PySem.W.truthy_bytes ∅ ⟨H,I.tok _,q⟩
  | ref p =>
    cases rx;have e':(∃xs,aV X.K H p xs/\k=!xs.isEmpty)\/(∃xs,iP X.K H p xs/\k=!xs.isEmpty)\/∃kvs,H p=some (.dK kvs)/\k=!kvs.isEmpty:=e;rcases e' with ⟨xs,hx,e'⟩|⟨xs,hx,e'⟩|⟨kvs,hx,e'⟩
    · subst e'
      obtain⟨its,r,pl,hz⟩:=I.list hx;have hlen:=r.length;exact wpAny_truthy_list pl.isList (by simp only[cY];omega) ⟨H,I.tok _,by rw[SR r];exact q⟩
    · subst e'
      obtain⟨its,r,pl,hz⟩:=I.tuple hx;have hlen:=r.length;exact truthy_tuple pl (by simp only[cY];omega) ⟨H,I.tok _,by rw[SR r];exact q⟩
    · subst e'
      obtain⟨hz,N,vs,r,m⟩:kvs.length<=sizeLine/\(p==eM)=false/\∃vs,KV kvs vs/\s.heap.DictOf (eX X.prog X.w) p vs:=I.hok p _ hx;have hlen:kvs.length=vs.length:=Paired.length r;exact wpAny_truthy_dict N m ∅ ⟨H,I.tok _,by rw[UR r];exact q⟩
  |_=>exact(show False from e).elim
def KE(ha:PE X a ta)(he:∀whole,isTrue a X.env whole=(do let v<-whole;standAt a.pos;holding [v] (truthy v))):
  PT X a (λσ H Q=>ta σ H λx H'=>∃k,JQ X.K x H' k/\Q k H'):=by
 intro pins s σ H Q I h;exact isTrue_plain (aT (ha pins s σ H _ I h) λv s1 ⟨x,H1,I1,M,O⟩=>WQ pins s1 σ H1 x v Q I1 M O) (he _)
def vals1{x:V}(r:Vals [x] us):∃u,us=[u]/\RelV x u:=by
 cases r with
 |cons M U=>cases U;exact⟨_,rfl,M⟩
def vals2{x y:V}(r:Vals [x,y] us):∃u w',us=[u,w']/\RelV x u/\RelV y w':=by
  cases r with
  | cons M U =>
    cases U with
    |cons w j=>cases j;exact⟨_,_,rfl,M,w⟩
def I0:iF X (.builtin "abs") (λxs H Q=>∃i,xs=[.int i]/\Q (.int (if i<0 then-i else i)) H):=by
 intro pins s σ H xs us Q I r h;obtain⟨i,rfl,q⟩:=h;obtain⟨u,rfl,t,rfl⟩:=vals1 r;exact call_abs_int λu tk=>⟨.int (if i<0 then-i else i),H,I.tok _,⟨_,rfl⟩,q⟩
def NW(hc:X.calm=true):iF X (.builtin "min") (λxs H Q=>∃i j,xs=[.int i, .int j]/\Q (.int (if j<i then j else i)) H):=by
 intro pins s σ H xs us Q I r h;obtain⟨i,j,rfl,q⟩:=h;obtain⟨u,w',rfl,⟨t,rfl⟩,⟨t',rfl⟩⟩:=vals2 r;refine min_two_ints (I.ok.hd hc) λh' tk k=>⟨_,H,I.kept k,?_,q⟩;by_cases hj:j<i;·rw[if_pos hj,if_pos hj];exact⟨_,rfl⟩
 .rw[if_neg hj,if_neg hj];exact⟨_,rfl⟩
def T6:iF X (.type "int") (λxs H Q=>(∃i,xs=[.int i]/\Q (.int i) H)\/∃k,xs=[.bl k]/\Q (.int (if k then 1 else 0)) H):=by
 intro pins s σ H xs us Q I r h;rcases h with ⟨i,rfl,q⟩|⟨k,rfl,q⟩
 .obtain⟨u,rfl,t,rfl⟩:=vals1 r;exact call_int_int ⟨.int i,H,I,⟨_,rfl⟩,q⟩
 .obtain⟨u,rfl,M⟩:=vals1 r;cases M;exact call_int_bool ⟨.int (if k then 1 else 0),H,I.tok _,⟨_,rfl⟩,q⟩
end
structure rQ(h:eo)(x dx C:aF)(mA:Str->Option ag):Prop where
 obj:h.get? x=some (PySem.W.instObj C dx)
 ns:h.Ns1 dx mA
 ne:dx≠x
def ZO(n:h.Ns1 dx mA):∃od,h.get? dx=some od/\∀name,PySem.W.lookIn name od=some (mA name):=by
 obtain⟨o,es,ep,ho,hd,hk,_,hm⟩:=n;refine⟨o,ho,λname=>?_⟩;have e:=hm name;unfold nsFind findBy at e;rw[<-Array.find?_toList] at e;unfold PySem.W.lookIn;rw[hd];dsimp only;split
 .rename_i y q
  rw[q] at e;exact congrArg some e
 .rename_i q
  rw[q] at e;have a:es.toList.any (·.refKey)=false:=by
   rw[List.any_eq_false];intro y hy;obtain⟨z,t,b⟩:=hk y (Array.mem_toList_iff.mp hy);simp[y6,b]
  have r:¬es.toList.any (·.refKey)=true:=by rw[a];exact dH
  rw[if_neg r];exact congrArg some e
def rQ.look{x:aF}(I:rQ h x dx C mA):∃od,PySem.W.InstAt h x (PySem.W.instObj C dx) C (some od)/\∀name,PySem.W.lookIn name od=some (mA name):=
 let ⟨od,ho,hl⟩:=ZO I.ns
 ⟨od,⟨I.obj,rfl,rfl,ho⟩,hl⟩
section
variable{prog:bc}{w:cx}{A:c3}{E:ag->aw->Prop}{s:aw}{K:PySem.W.Frag}{x dx C f:aF}{mA:Str->Option ag}{name:Str}{v:ag}
def get_map{a:Bool}(X:K.In s.heap)(I:rQ s.heap x dx C mA)(hg:PySem.W.plainGet K C name=true)(Y:PySem.W.hasDictIn K C=true)
  (ha:PySem.W.findIn K (.ref C) name=some none) (hv:mA name=some v) (c:PySem.W.handedIn v=true) (h:Q v {s with toks:=s.toks+1}):
  wpAny (bj prog w) A (getAttr (.ref x) name a) Q E s:=by
 obtain⟨od,J,hl⟩:=I.look;exact PySem.W.get_value X J (IJ hg).1 (PySem.W.findObj_own Y ha rfl (by rw[hl,hv])) c h
def Xq{pl:Sem Bool}{Q:ag×List ag->aw->Prop}(X:K.In s.heap)(I:rQ s.heap x dx C mA)(hg:PySem.W.plainGet K C name=true)
  (hf:PySem.W.findIn K (.ref C) name=some (some (.ref f))) (ht:PySem.W.isFn K (.ref f)=true) (hv:mA name=none) (h:Q (.ref f,[.ref x]) s):
  wpAny (bj prog w) A (pL (.ref x) name pl) Q E s:=by
 obtain⟨od,J,hl⟩:=I.look;exact PySem.W.method_fn X J (IJ hg).1 (IJ hg).2 hf (beq_iff_eq.mp ht) (by show(PySem.W.lookIn name od).map (·.isSome)=some false;rw[hl,hv];rfl) h
theorem UB{ns:List Str}{Q:Unit->aw->Prop}(X:K.In s.heap)(I:rQ s.heap x dx C mA)
  (hs:PySem.W.findIn K (.ref C) "__setattr__"=some (some (.builtin "object.__setattr__"))) (hp:PySem.W.plainOver K C=true) (ht:PySem.W.takerIn K C name=some none) (Y:PySem.W.hasDictIn K C=true)
  (hw:PySem.Within mA ns) (hsz:ns.length<=sizeLine)
  (h:∀h',rQ h' x dx C (λy=>if y=name then some v else mA y)->da dx s.heap h'->Q () {s with heap:=h',toks:=s.toks+2}):
  wpAny (bj prog w) A (setAttr (.ref x) name v) Q E s:=by
 obtain⟨od,J,hl⟩:=I.look;refine PySem.W.set_plain X J hs (PySem.W.osa_open (s:={s with toks:=s.toks+1}) (r:=none) X J hp ht λb=>?_);obtain⟨t,hc,l⟩:=PySem.W.any_some Y;have hx:s.heap.get? x=some ⟨.ref C,some dx, .plain,#[]⟩:=I.obj;refine ae (ax (ae (ae (wpAny_loadPart hx (ae (PySem.W.Looks.here (s:={s with toks:=s.toks+1}) (PySem.W.looks_clsIn X hc) ?_))))));rw[l];refine ax (a:=some dx) (ae (ax (ae ?_)));refine wpAny_nsSet1 (s:={s with toks:=s.toks+1}) I.ns λh' B m=>?_;obtain⟨oD,g,e,f,c,d⟩:=B.count (PySem.Within.cons name v hw);refine ae (wpAny_lookBehind f (by rw[c];exact pastItsLine_dict (dP d (by rw[eH];omega))) ?_);exact ax (h _ ⟨(m.2 _ (bH I.ne)).trans I.obj,B,I.ne⟩ m)
def WZ{R:sv->aw->Prop}{vs:List ag}{a:List (Str×ag)}(X:K.In s.heap)(hm:PySem.W.makesIn K C=true)
  (hi:PySem.W.findIn K (.ref C) "__init__"=some (some (.ref f))) (hf:PySem.W.typeIn K (.ref f)=some (.type "function"))
  (h : codeAny (model prog w) (A.under (.builtin "type.__call__" ⟨.ref C :: vs, a⟩)) (.call (.ref f) ⟨.ref (s.heap.objs.size + 1) :: vs, a⟩) (PySem.W.InitBack (s.heap.objs.size + 1) R)
   {s with heap:=(s.heap.push PySem.W.emptyDict).push (PySem.W.instObj C s.heap.objs.size)}):
  codeAny (bj prog w) A (.call (.ref C) ⟨vs,a⟩) R s:=by
 obtain⟨Y,g,d,t,os⟩:=s;exact PySem.W.make_core (PySem.W.makes_of X hm) (PySem.W.looks_findIn X hi) (λself=>PySem.W.bind_fn X self hf) (.inl rfl) h
end
noncomputable def iy(f:Str)(v:V):List (Str×V)->List (Str×V)
 |[]=>[(f,v)]
 |(g,x)::r=>if g=f then(g,v)::r else(g,x)::iy f v r
theorem QB(f g:Str)(v:V):∀fs:List (Str×V),(iy f v fs).lookup g=if g=f then some v else fs.lookup g
  | [] => by
    show ed g [(f,v)]=_;by_cases h:g=f
    · have hb:(g==f)=true:=beq_iff_eq.mpr h
      simp only[ed,hb,if_pos h]
    · have hb:(g==f)=false:=beq_eq_false_iff_ne.mpr h
      simp only[ed,hb,if_neg h]
  | (k, x) :: r => by
    have ih:=QB f g v r;rw[show iy f v ((k,x)::r)=(if k=f then(k,v)::r else(k,x)::iy f v r) from rfl];by_cases hk:k=f
    · rw[if_pos hk]
      by_cases h:g=k
      · have hb:(g==k)=true:=beq_iff_eq.mpr h
        simp only[ed,hb,if_pos (h.trans hk)]
      · have hb:(g==k)=false:=beq_eq_false_iff_ne.mpr h
        simp only[ed,hb,if_neg (λe:g=f=>h (e.trans hk.symm))]
    · rw[if_neg hk]
      by_cases h:g=k
      · have hb:(g==k)=true:=beq_iff_eq.mpr h
        simp only[ed,hb,if_neg (λe:g=f=>hk (h.symm.trans e))]
      · have hb:(g==k)=false:=beq_eq_false_iff_ne.mpr h
        simp only[ed,hb];exact ih
theorem HB(f:Str)(v:V):∀fs:List (Str×V),f∈(iy f v fs).map (·.1)/\∀g,g∈fs.map (·.1)->g∈(iy f v fs).map (·.1)
  |[]=>⟨by simp[iy],λg h=>by simp at h⟩
  | (k, x) :: r => by
    obtain⟨B,A⟩:=HB f v r;rw[show iy f v ((k,x)::r)=(if k=f then(k,v)::r else(k,x)::iy f v r) from rfl];by_cases hk:k=f
    · rw[if_pos hk]
      subst hk;exact⟨by simp,λg h=>by simpa using h⟩
    · rw[if_neg hk]
      refine⟨?_,λg h=>?_⟩
      · rw[bG]
        exact cM _ B
      · rw[bG] at h⊢
        rcases aY.mp h with e|e
        · exact aY.mpr (.inl e)
        · exact cM _ (A g e)
theorem M0(f:Str)(v:V):∀fs:List (Str×V),(iy f v fs).length<=fs.length+1
  |[]=>by simp[iy]
  | (k, x) :: r => by
    have ih:=M0 f v r;rw[show iy f v ((k,x)::r)=(if k=f then(k,v)::r else(k,x)::iy f v r) from rfl];by_cases hk:k=f;· rw[if_pos hk,eH,eH];omega
    · rw[if_neg hk,eH,eH];omega
def jd.some_of{v:V}{o:Option ag}(r:jd (some v) o):∃u,o=some u/\RelV v u:=by
 cases o with
 |none=>exact(show False from r).elim
 |some u=>exact⟨u,rfl,r⟩
def jd.none_of{o:Option ag}(r:jd none o):o=none:=by
 cases o with
 |none=>rfl
 |some u=>exact(show False from r).elim
def Ip{v:V}(r:RelV v u):PySem.W.handedIn u=true:=by
 cases v with
 |aP=>cases (show u=ek from r);rfl
 |bl b=>cases (show u=fb b from r);rfl
 |int i=>obtain⟨t,e⟩:=(show∃t,u=hV i t from r);cases e;rfl
 |str x=>obtain⟨t,e⟩:=(show∃t,u=i4 x t from r);cases e;rfl
 |kj b=>obtain⟨t,e⟩:=(show∃t,u=v3 b t from r);cases e;rfl
 |mR b=>obtain⟨t,e⟩:=(show∃t,u=px b t from r);cases e;rfl
 |ref a=>cases (show u=bo a from r);rfl
 |ty n=>cases (show u=dE n from r);rfl
section
variable{P:bc}{w:cx}{H H':Hp}{h h':eo}{a C dx:aF}{fs fs':List (Str×V)}
def zx(hok:ff P w H h)(e:H a=some (.ins C dx fs)):∃mA,rQ h a dx C mA/\(∀f,jd (fs.lookup f) (mA f))/\PySem.Within mA (fs.map (·.1))/\fs.length<=1000/\H dx=some (.own a):=by
 obtain⟨d,z,ne,B,mA,n,r,q⟩:=(show cK P w H h a (.ins C dx fs) from hok a _ e);exact⟨mA,⟨B,n,ne⟩,r,q,z,d⟩
end
structure gM(K:PySem.W.Frag)(C:aF):Prop where
 pg:PySem.W.plainGet K C y8=true
 hd:PySem.W.hasDictIn K C=true
 po:PySem.W.plainOver K C=true
 sa:PySem.W.findIn K (.ref C) "__setattr__"=some (some (.builtin "object.__setattr__"))
def gM.get{K:PySem.W.Frag}(c:gM K C)(f:Str):PySem.W.plainGet K C f=true:=c.pg
def ji(K:PySem.W.Frag)(C:aF)(f:Str):Prop:=PySem.W.findIn K (.ref C) f=some none
def ji.YI{K:PySem.W.Frag}{f:Str}(n:ji K C f):PySem.W.takerIn K C f=some none:=by
 unfold PySem.W.takerIn;rw[show PySem.W.findIn K (.ref C) f=some none from n]
 rfl
structure Meth(K:PySem.W.Frag)(C:aF)(m:Str)(f:aF):Prop where
 at_:PySem.W.findIn K (.ref C) m=some (some (.ref f))
 fn:PySem.W.isFn K (.ref f)=true
 kp:PySem.W.keepIn K (.ref f)=true
section
variable{X:Cx}{pins:List (aF×Obj)}{σ:qr}{H:Hp}{s:aw}{a C dx:aF}{fs:List (Str×V)}{f:Str}{v:V}{A:c3}{E:ag->aw->Prop}
def agf{b:Bool}(I:Inv X pins σ H s)(e:H a=some (.ins C dx fs))(c:gM X.K C)(n:ji X.K C f)(l:fs.lookup f=some v)
  (h:∀u s',Inv X pins σ H s'->RelV v u->Q u s'):wpAny (bj X.prog X.w) A (getAttr (.ref a) f b) Q E s:=by
 obtain⟨mA,O,r,_,_,_⟩:=zx I.hok e;obtain⟨u,hu,G⟩:=jd.some_of (v:=v) (o:=mA f) (by rw[<-l];exact r f);exact get_map I.dX O (c.get f) c.hd n hu (Ip G) (h u _ (I.tok _) G)
def HL{m:Str}{g:aF}{pl:Sem Bool}{Q:ag×List ag->aw->Prop}(I:Inv X pins σ H s)(e:H a=some (.ins C dx fs))(c:gM X.K C)(k:Meth X.K C m g)(l:fs.lookup m=none)
  (h:Q (.ref g,[.ref a]) s):wpAny (bj X.prog X.w) A (pL (.ref a) m pl) Q E s:=by
 obtain⟨mA,O,r,_,_,_⟩:=zx I.hok e;have hn:mA m=none:=jd.none_of (by rw[<-l];exact r m);exact Xq I.dX O (c.get m) k.at_ k.fn hn h
theorem Xr{y:V}{Q:Unit->aw->Prop}(I:Inv X pins σ H s)(e:H a=some (.ins C dx fs))(c:gM X.K C)(n:ji X.K C f)(hl:fs.length<1000)(d:RelV y u)
  (h:∀s',Inv X pins σ (upd H a (.ins C dx (iy f y fs))) s'->Q () s'):wpAny (bj X.prog X.w) A (setAttr (.ref a) f u) Q E s:=by
 obtain⟨mA,O,r,F,_,ho⟩:=zx I.hok e;have hz:(fs.map (·.1)).length<=sizeLine:=by rw[ao,lS];omega
 refine UB I.dX O c.sa c.po n.YI c.hd F hz λh' i sb=>h _ ?_;have hd:∃o,h'.get? dx=some o:=let ⟨o,_,_,e',_⟩:=i.ns;⟨o,e'⟩;refine I.write (x:=a) (e:=dx) (by rw[e];exact ec) (.inr ho) (λb q hb z=>(sb.2 b hb).trans z) hd ?_;refine⟨by rw[aH O.ne];exact ho,?_,O.ne,i.obj,_,i.ns,λg=>?_,λg hg=>?_⟩;·have:=M0 f y fs;omega
 .show jd ((iy f y fs).lookup g) (if g=f then some u else mA g);rw[QB];by_cases q:g=f;·rw[if_pos q,if_pos q];exact d
  .rw[if_neg q,if_neg q];exact r g
 .by_cases q:g=f;·rw[q];exact(HB f y fs).1
  .refine(HB f y fs).2 g (F g λz=>hg ?_);show(if g=f then some u else mA g)=none;rw[if_neg q];exact z
def Inv.made(I:Inv X pins σ H s):Inv X pins σ (upd (upd H s.heap.objs.size (.own (s.heap.objs.size+1))) (s.heap.objs.size+1) (.ins C s.heap.objs.size []))
  {s with heap:=(s.heap.push PySem.W.emptyDict).push (PySem.W.instObj C s.heap.objs.size)}:=by
 have e1:(s.heap.push PySem.W.emptyDict).get? s.heap.objs.size=some PySem.W.emptyDict:=gk s.heap rfl;have e2:((s.heap.push PySem.W.emptyDict).push (PySem.W.instObj C s.heap.objs.size)).get? (s.heap.objs.size+1)=some (PySem.W.instObj C s.heap.objs.size):=by
  have:=gk (s.heap.push PySem.W.emptyDict) (o:=PySem.W.instObj C s.heap.objs.size) rfl;rwa[lH] at this
 have e3:(s.heap.push PySem.W.emptyDict).Ns s.heap.objs.size (λ_=>none):=⟨PySem.W.emptyDict,#[],_,e1,rfl,(λe he=>absurd he (by simp)),λ_=>rfl⟩;have I1:=I.laid (a:=s.heap.objs.size) (o:= .own (s.heap.objs.size+1)) (h':=s.heap.push PySem.W.emptyDict) (t':=s.toks) (λb u q=>cF _ q) (aW _) ⟨_,e1⟩;refine I1.laid (a:=s.heap.objs.size+1) (o:= .ins C s.heap.objs.size []) (t':=s.toks) (λb u q=>cF _ q) (sX (lH _ _)) ?_;have ne:s.heap.objs.size≠s.heap.objs.size+1:=dz (o6 _);refine⟨by rw[aH ne,bx],gE _,ne,e2,λ_=>none,(Heap.Ns1.of_empty e3).at λo q=>cF _ q,λ_=>ec,λy hy=>absurd rfl hy⟩
def V4{prog:bc}{f:Str}{s:aw}(hb:j1 e f env (eval e env)=eval e env)
  (h:wpAny (bj prog w) A (eval e env) (λo s₁=>wpAny (bj prog w) A (getAttr o f true) Q E s₁) E s):wpAny (bj prog w) A (eval (.Attribute e f pos) env) Q E s:=
 Attribute_any_ h (by rw[arm_eval_Attribute,hb])
end
def pK(K:PySem.W.Frag)(ta:TE)(f:Str):TE:=λσ H Q=>ta σ H λx H1=>∃a C dx fs v,x= .ref a/\H1 a=some (.ins C dx fs)/\gM K C/\ji K C f/\fs.lookup f=some v/\Q v H1
def Jd(K:PySem.W.Frag)(ta tv:TE)(f:Str):TS:=λD σ H=>tv σ H λy H1=>ta σ H1 λx H2=>∃a C dx fs,x= .ref a/\H2 a=some (.ins C dx fs)/\gM K C/\ji K C f/\fs.length<1000/\
 D.nx σ (upd H2 a (.ins C dx (iy f y fs)))
section
variable{X:Cx}{o e value:eB}{f:Str}{pos pos' tpos:Pos}{ta tv:TE}
def By(he:PE X e ta)(hb:j1 e f X.env (eval e X.env)=eval e X.env):PE X (.Attribute e f pos) (pK X.K ta f):=by
 intro pins s σ H Q I h;refine V4 hb (aT (he pins s σ H _ I h) λu s1 ⟨x,H1,I1,g,a,C,dx,fs,v,ex,L,c,n,l,q⟩=>?_);subst ex;obtain rfl:u=bo a:=g;exact agf I1 L c n l λD s2 I2 G=>⟨v,H1,I2,G,q⟩
def LN(ha:PE X o ta)(hv:PE X value tv)(hs:pE value (some (.Attribute o f pos')) pos.line X.env=pure false):PS X (.Assign [.Attribute o f pos'] value pos) (Jd X.K ta tv f):=by
 intro pins s σ H D I h;refine plainObj_wpAny_Assign_Attribute (aT (hv pins s σ H _ I h) λu s1 ⟨y,H1,I1,d,q⟩=>aT (ha pins s1 σ H1 _ I1 q) λb s2 ⟨x,H2,I2,g,a,C,dx,fs,ex,L,c,n,l,q2⟩=>?_) hs;subst ex;obtain rfl:b=bo a:=g;exact Xr I2 L c n l d λs3 I3=>⟨σ,_,I3,q2⟩
end
section
variable{X:Cx}{pins:List (aF×Obj)}{σ:qr}{H:Hp}{s:aw}{A:c3}{E:ag->aw->Prop}{Q:ag->aw->Prop}{c:ag}{b:Bool}
inductive jX(K:PySem.W.Frag)(H:Hp):V->ag->Prop where
 |aP:jX K H .aP (.type "NoneType")
 |bl (x:Bool):jX K H (.bl x) (.type "bool")
 |int (i:Int):jX K H (.int i) (.type "int")
 |str (x:Str):jX K H (.str x) (.type "str")
 |mR (x:UInt64):jX K H (.mR x) (.type "float")
 |lst {a:aF} {xs:List V} (e:H a=some (.lst xs)):jX K H (.ref a) (.type "list")
 |cV {a:aF} {o:Obj} {xs:List V} (e:H a=some (.cV o (.lst xs))):jX K H (.ref a) (.type "list")
 |tup {a:aF} {xs:List V} (e:H a=some (.tup xs)):jX K H (.ref a) (.type "tuple")
 |dK {a:aF} {kvs:List (Key×V)} (e:H a=some (.dK kvs)):jX K H (.ref a) (.type "dict")
 |dT {a:aF} {kvs:List (List Key×V)} (e:H a=some (.dT kvs)):jX K H (.ref a) (.type "dict")
 |OF {a:aF} {o:Obj} {kvs:List (Key×V)} (e:H a=some (.cV o (.dK kvs))):jX K H (.ref a) (.type "dict")
 | ins {a C dx : Addr} {fs : List (Str × V)} (e : H a = some (.ins C dx fs)) (cl : gM K C) (ha : PySem.W.findIn K (.ref C) "__class__" = some (some (.builtin "object.__class__")))
   (hn:PySem.W.specialIn K (.builtin "object.__class__") "__get__"=some (some (.builtin "getset_descriptor.__get__"))) (htk:PySem.W.takesIn K (.builtin "object.__class__")=some true)
   (hm:PySem.W.mroIn K C (.type "object")=some true):jX K H (.ref a) (.ref C)
def He{x:V}{t:ag}(I:Inv X pins σ H s)(g:RelV x u)(ty:jX X.K H x t)(e:PySem.W.kitOne X.K t c=some b)(h:∀tk,Q (.bool b) {s with toks:=tk}):
    wpAny (bj X.prog X.w) A (call (.builtin "isinstance") [u,c]) Q E s:=by
  cases ty with
  |aP=>cases (show u=ek from g);exact lJ PySem.W.kitx_none I.dX ec e (λz=>nomatch z) h
  |bl y=>cases (show u=fb y from g);exact lJ PySem.W.kitx_bool I.dX ec e (λz=>nomatch z) h
  |int i=>obtain⟨t,q⟩:=(show∃t,u=hV i t from g);cases q;exact lJ PySem.W.kitx_int I.dX ec e (λz=>nomatch z) h
  |str y=>obtain⟨t,q⟩:=(show∃t,u=i4 y t from g);cases q;exact lJ PySem.W.kitx_str I.dX ec e (λz=>nomatch z) h
  |mR y=>obtain⟨t,q⟩:=(show∃t,u=px y t from g);cases q;exact lJ PySem.W.kitx_float I.dX ec e (λz=>nomatch z) h
  | @lst a xs L =>
    cases (show u=bo a from g);obtain⟨_,_,n,_,h1⟩:=(show cK X.prog X.w H s.heap a (.lst xs) from I.hok a _ L);exact lJ Eo I.dX ⟨_,h1,rfl⟩ e (λz=>nomatch z) h
  | @cV a B xs L =>
    cases (show u=bo a from g);obtain⟨_,_,_,n,_,h1⟩:=(show cK X.prog X.w H s.heap a (.cV B (.lst xs)) from I.hok a _ L);exact lJ Eo I.dX ⟨_,h1,rfl⟩ e (λz=>nomatch z) h
  | @tup a xs L =>
    cases (show u=bo a from g);obtain⟨_,_,_,p⟩:=(show cK X.prog X.w H s.heap a (.tup xs) from I.hok a _ L);obtain⟨o,h1,h2,_⟩:=p;exact lJ PySem.W.kitx_tuple I.dX ⟨o,h1,h2⟩ e (λz=>nomatch z) h
  | @dK a kvs L =>
    cases (show u=bo a from g);obtain⟨_,_,vs,_,p⟩:=(show cK X.prog X.w H s.heap a (.dK kvs) from I.hok a _ L);obtain⟨o,es,ep,h1,h2,_⟩:=p;exact lJ zU I.dX ⟨o,h1,h2.1⟩ e (λz=>nomatch z) h
  | @dT a kvs L =>
    cases (show u=bo a from g);obtain⟨_,_,xs,_,o,es,ep,h1,h2,_⟩:=(show cK X.prog X.w H s.heap a (.dT kvs) from I.hok a _ L);exact lJ zU I.dX ⟨o,h1,h2.1⟩ e (λz=>nomatch z) h
  | @OF a B kvs L =>
    cases (show u=bo a from g);obtain⟨_,_,_,vs,_,o,es,ep,h1,h2,_⟩:=I.hok a _ L;exact lJ zU I.dX ⟨o,h1,h2.1⟩ e (λz=>nomatch z) h
  | @ins a C dx fs L cl ha hn htk hm =>
    cases (show u=bo a from g);obtain⟨mA,O,_⟩:=zx I.hok L;obtain⟨od,J,_⟩:=O.look;exact lJ (PySem.W.kitx_own (cl.get _) cl.hd ha hn htk hm) I.dX J e (λz=>nomatch z) h
end
structure fM(k:Nat)(A:c3):Prop where
 hd:A.handled=none
 dp:A.depth+3*k+5<qJ
 un:A.units+16*k+200<wa
theorem fM.mono{k:Nat}{A:c3}(r:fM k A)(h:j<=k):fM j A:=⟨r.hd,by have:=r.dp;omega,by have:=r.un;omega⟩
theorem fM.deeper{k:Nat}{A:c3}(r:fM (k+1) A)(env:Env):fM k (A.deeper env):=
 ⟨r.hd,by have:=r.dp;show A.depth+1+3*k+5<_;omega,by have:=r.un;show A.units+3+16*k+200<_;omega⟩
def T9{A:c3}{a:List (Str×ag)}:(A.under (.builtin "type.__call__" ⟨.ref C::us,a⟩)).depth=A.depth+1:=by
 first|rfl|simp[oa,Code.weight,Code.isCreation,Code.isGuard,Code.isCaller,wb,oe,guardIds]
def Zu{A:c3}{a:List (Str×ag)}:(A.under (.builtin "type.__call__" ⟨.ref C::us,a⟩)).units=A.units+1:=by
 first|rfl|simp[oa,Code.cUnits,wb,oe]
theorem fM.make{k:Nat}{A:c3}(r:fM (k+1) A)(C:aF)(us:List ag)(a:List (Str×ag)):fM k (A.under (.builtin "type.__call__" ⟨.ref C::us,a⟩)):=
 ⟨r.hd,by have:=r.dp;rw[T9];omega,by have:=r.un;rw[Zu];omega⟩
theorem fM.depth{k:Nat}{A:c3}(r:fM k A):A.depth<qJ:=by have:=r.dp;omega
theorem fM.units{k:Nat}{A:c3}(r:fM k A):A.units+64<wa:=by have:=r.un;omega
def cG:TA:=λ_ H Q=>Q [] H
def bV(ta:TE)(tr:TA):TA:=λσ H Q=>ta σ H λx H1=>tr σ H1 λxs H2=>Q (x::xs) H2
section
variable{X:Cx}{e:eB}{es:List eB}{te:TE}{t:TA}{pos:Pos}
def ak:PA X [] cG:=λ_ _ _ _ H Q I h=>m9 ⟨[],H,I, .nil,h⟩
def aa(ha:PE X e te)(hr:PA X es t)(hs:cc (e::es) X.env=(false,eval e X.env)::cc es X.env:=by rfl):PA X (e::es) (bV te t):=by
 intro pos pins s σ H Q I h;rw[hs];show wpAny _ _ (spliced ((false,eval e X.env)::i5 pos (cc es X.env))) _ _ s;refine mn (aT (ha pins s σ H _ I h) λu s1 ⟨x,H1,I1,M,O⟩=>?_);exact aT (hr pos pins s1 σ H1 _ I1 O) λus s2 ⟨xs,H2,I2,U,q2⟩=>⟨x::xs,H2,I2, .cons M U,q2⟩
def sA(t:TA):TE:=λσ H Q=>t σ H λxs H1=>xs.length<=sizeLine/\∀p,H1 p=none->Q (.ref p) (upd H1 p (.tup xs))
def qt(t:TA):TE:=λσ H Q=>t σ H λxs H1=>xs.length<=sizeLine/\∀p,H1 p=none->Q (.ref p) (upd H1 p (.lst xs))
def iJ{x1}(h:PA X es t):PE X (.Tuple es x1 pos) (sA t):=by
 intro pins s σ H Q I hq;refine wpAny_Tuple_spliced (aT (h pos pins s σ H _ I hq) λus s1 ⟨xs,H1,I1,r,z,q⟩=>⟨by rw[<-r.length];exact z,?_⟩);have hf:H1 s1.heap.objs.size=none:=I1.hok.fresh (aW _);refine⟨.ref s1.heap.objs.size,upd H1 s1.heap.objs.size (.tup xs),I1.laid (t':=s1.toks) (λb u e=>cF _ e) (aW _) ?_,rfl,q _ hf⟩;exact⟨z,us,r,⟨_,gk _ rfl,rfl,_,rfl⟩⟩
def gR(h:PA X es t):PE X (.List es pos) (qt t):=by
 intro pins s σ H Q I hq;refine wpAny_List_spliced (aT (h pos pins s σ H _ I hq) λus s1 ⟨xs,H1,I1,r,z,q⟩=>⟨by rw[<-r.length];exact z,?_⟩);have hf:H1 s1.heap.objs.size=none:=I1.hok.fresh (aW _);refine⟨.ref s1.heap.objs.size,upd H1 s1.heap.objs.size (.lst xs),I1.laid (t':=s1.toks) (λb u e=>cF _ e) (aW _) ?_,rfl,q _ hf⟩;exact⟨z,us,0,r,gk _ rfl⟩
end
abbrev Sp:=List V->Hp->VK->XK->Prop
abbrev nh:=List Env->Hp->aw->XK->ag->aw->Prop
structure qw(P:bc)(w:cx)(K:PySem.W.Frag)(mg:Str->Option ag)(base:eo)(A:c3)(outer:List Env)(s:aw)(H:Hp):Prop where
 frames:A.frames=some outer
 mod:Mod K mg base
 bs:∀b o,base.get? b=some o->s.heap.get? b=some o/\H b=none
 qg:base.objs.size<=s.heap.objs.size
 k8:s.heap.FunFrames base outer
 rX:∀b∈frs outer,H b=none
 hok:ff P w H s.heap
 bare:kL s.gens
def CE(outer:List Env)(P:bc)(w:cx)(H:Hp)(s:aw)(Q:VK)(u:ag)(s':aw):Prop:=
 ∃v H',s'.os=s.os/\kL s'.gens/\Un (frs outer) [] H H' s.heap s'.heap/\ff P w H' s'.heap/\RelV v u/\Q v H'
def CR(CX:nh)(outer:List Env)(P:bc)(w:cx)(H:Hp)(s:aw)(Q:VK)(E:XK)(r:sv)(s':aw):Prop:=
 match r with
 | .ok (.ret u)=>CE outer P w H s Q u s'
 | .ok _=>False
 | .error e=>CX outer H s E e s'
structure bD(P:bc)(w:cx)(K:PySem.W.Frag)(mg:Str->Option ag)(base:eo)(CX:nh)(k:Nat)(f:aF)(fd:ft)(ps:List Str)(sp:Sp):Prop where
 len:∀vs H Q E,sp vs H Q E->vs.length=ps.length
 run:∀(A:c3) (outer:List Env) (s:aw) (H:Hp) (args:Args) (us:List ag) (vs:List V) (Q:VK) (E:XK),fM k A->qw P w K mg base A outer s H->pP s fd args (ps.zip us)->Vals vs us->sp vs H Q E->
  codeAny (bj P w) A (.call (.ref f) args) (CR CX outer P w H s Q E) s
def qw.make{P:bc}{K:PySem.W.Frag}{A:c3}{H:Hp}(e:qw P w K mg base A outer s H)(C:aF)(us:List ag)(a:List (Str×ag)):
  qw P w K mg base (A.under (.builtin "type.__call__" ⟨.ref C::us,a⟩)) outer s H:=⟨by first|exact e.frames|(simpa[oa,Code.envs,oe,pushEnvs] using e.frames),e.mod,e.bs,e.qg,e.k8,e.rX,e.hok,e.bare⟩
section
variable{X:Cx}{pins:List (aF×Obj)}{σ:qr}{H:Hp}{s s':aw}
def Inv.Mn(I:Inv X pins σ H s):qw X.prog X.w X.K X.mg X.base X.A X.stack s H:=
 ⟨I.ok.frames,I.ok.mod,I.bs,dP I.ok.qg I.sz,I.stack,I.Rj,I.hok,I.bare⟩
def Inv.after{Q:VK}(I:Inv X pins σ H s)(h:CE X.stack X.prog X.w H s Q u s'):EP X pins σ Q u s':=by
 obtain⟨v,H',os,bare,un,hok,r,q⟩:=h;obtain⟨Y,g,d,t,a⟩:=s';obtain rfl:a=s.os:=os;exact⟨v,H',I.call (h':=Y) (g':=g) (d':=d) (t':=t) (ch:=[]) un hok bare (λb z=>absurd z (by simp)),r,q⟩
end
def iS(sp:Sp)(g8:List V)(E:XK)(t:TA):TE:=λσ H Q=>t σ H λvs H1=>sp (vs++g8) H1 Q E
def vQ(C:aF)(m:Str)(sp:Sp)(g8:List V)(E:XK)(ta:TE)(t:TA):TE:=λσ H Q=>ta σ H λx H1=>∃a dx fs,x= .ref a/\H1 a=some (.ins C dx fs)/\fs.lookup m=none/\
 t σ H1 λvs H2=>sp (x::(vs++g8)) H2 Q E
def HS(C:aF)(sp:Sp)(g8:List V)(E:XK)(t:TA):TE:=λσ H Q=>t σ H λvs H1=>∀x dx,H1 x=none->H1 dx=none->dx≠x->
 sp (.ref x::(vs++g8)) (upd (upd H1 dx (.own x)) x (.ins C dx [])) (λv H2=>v= .aP/\Q (.ref x) H2) E
def Binds(K:PySem.W.Frag)(fd:ft)(ps:List Str)(ds:List ag):Prop:=
 ∀(s:aw) (us:List ag),K.In s.heap->(us++ds).length=ps.length->pP s fd ⟨us,[]⟩ (ps.zip (us++ds))
def Binds.all{K:PySem.W.Frag}{ps:List Str}(h:∀us:List ag,us.length=ps.length->bindArgs fd ⟨us,[]⟩=pure (ps.zip us)):Binds K fd ps []:=λs us _ hl=>by
 rw[jg] at hl⊢;exact .of_eq (h us hl)
def Passes(CX:nh)(X:Cx)(E:XK):Prop:=∀(pins:List (aF×Obj)) (σ:qr) (H:Hp) (s:aw) (e:ag) (s':aw),Inv X pins σ H s->CX X.stack H s E e s'->X.xe e s'
section
variable{X:Cx}{CX:nh}{k:Nat}{f C:aF}{fd:ft}{ps:List Str}{sp:Sp}{g8:List V}{ds:List ag}{E:XK}{x m:Str}{p pos apos:Pos}{e o:eB}{es:List eB}{ta:TE}{t:TA}
def EB{σ:qr}{H:Hp}{Q:VK}{vs:List V}(F:bD X.prog X.w X.K X.mg X.base CX k f fd ps sp)(hr:fM k X.A)(hb:Binds X.K fd ps ds)(hd:Vals g8 ds)(hx:Passes CX X E)
    (I:Inv X pins σ H s) (r:Vals vs us) (h:sp (vs++g8) H Q E):wpAny (bj X.prog X.w) X.A (call (.ref f) us) (EP X pins σ Q) X.xe s:=by
  have U:Vals (vs++g8) (us++ds):=r.append hd;have hl:(us++ds).length=ps.length:=by rw[<-U.length];exact F.len _ _ _ _ h
  refine sJ (hU (F.run X.A X.stack s H ⟨us,[]⟩ (us++ds) (vs++g8) Q E hr I.Mn (hb s us I.dX hl) U h) λr s' hq=>?_);cases r with
  |error e=>exact hx pins σ H s e s' I hq
  | ok fl =>
    cases fl with
    |ret u=>exact I.after hq
    |next=>exact el hq
    |brk=>exact el hq
    |cont=>exact el hq
def NQ(F:bD X.prog X.w X.K X.mg X.base CX k f fd ps sp)(hr:fM k X.A)(hg:Gl X x)(hm:X.mg x=some (.ref f))(hk:PySem.W.keepIn X.K (.ref f)=true)(hb:Binds X.K fd ps ds)(hd:Vals g8 ds)(hx:Passes CX X E)
  (ha:PA X (e::es) t) (a:(x==("__debug__":Str))=false:=by decide) (he:cc (e::es) X.env=(false,eval e X.env)::cc es X.env:=by rfl) (hpl:(i5 pos (cc es X.env)).any (·.1)=false:=by rfl):
  PE X (.Call (.Name x p) (e::es) [] pos) (iS sp g8 E t):=by
 intro pins s σ H Q I h;refine fN (So I hg hm ?_ a);refine Gy (h₀:=X.base) I.ok.mod.uU hk (aT (ha pos pins s σ H _ I h) λus s1 ⟨vs,H1,I1,r,q⟩=>⟨I1.dX,?_⟩) he hpl;exact EB F hr hb hd hx I1 r q
def Zr{pl:Sem Bool}(he:PE X o ta)(c:gM X.K C)(hm:Meth X.K C m f)(F:bD X.prog X.w X.K X.mg X.base CX k f fd ps sp)(hr:fM k X.A)(hb:Binds X.K fd ps ds)(hd:Vals g8 ds)(hx:Passes CX X E)
  (ht : eval (.Call (.Attribute o m apos) [] [] pos) X.env = (do
   let ov<-eval o X.env
   standAt apos.atName
   let (f,first)<-holding [ov] (pL ov m pl)
   callWith pos f first (i5 pos (cc [] X.env)) (x7 pos (pQ [] X.env))):=by rfl):
  PE X (.Call (.Attribute o m apos) [] [] pos) (vQ C m sp g8 E ta cG):=by
 intro pins s σ H Q I h;refine DK (pl:=pl) (aT (he pins s σ H _ I h) λu s1 ⟨x,H1,I1,g,a,dx,fs,ex,L,l,q⟩=>?_) ht;subst ex;obtain rfl:u=bo a:=g;refine HL I1 L c hm l ?_;exact PySem.W.callWith_K0 (first:=[.ref a]) I1.dX hm.kp (EB (us:=[.ref a]) (vs:=[.ref a]) F hr hb hd hx I1 (.cons rfl .nil) q)
structure Mk(K:PySem.W.Frag)(C f:aF):Prop where
 makes:PySem.W.makesIn K C=true
 init:PySem.W.findIn K (.ref C) "__init__"=some (some (.ref f))
 fn:PySem.W.isFn K (.ref f)=true
 kp:PySem.W.keepIn K (.ref C)=true
def YR{σ:qr}{H:Hp}{Q:VK}{vs:List V}(M:Mk X.K C f)(F:bD X.prog X.w X.K X.mg X.base CX k f fd ps sp)(hr:fM (k+1) X.A)(hb:Binds X.K fd ps ds)(hd:Vals g8 ds)
    (hx:Passes CX X E) (I:Inv X pins σ H s) (r:Vals vs us)
    (h:∀x dx,H x=none->H dx=none->dx≠x->sp (.ref x::(vs++g8)) (upd (upd H dx (.own x)) x (.ins C dx [])) (λv H2=>v= .aP/\Q (.ref x) H2) E):
    wpAny (bj X.prog X.w) X.A (call (.ref C) us) (EP X pins σ Q) X.xe s:=by
  have hq:=h (s.heap.objs.size+1) s.heap.objs.size (I.hok.fresh (qQ _)) (I.hok.fresh (aW _)) (dz (o6 _));have I2:=Inv.made (C:=C) I;have U:Vals (V.ref (s.heap.objs.size+1)::(vs++g8)) (bo (s.heap.objs.size+1)::(us++ds)):= .cons rfl (r.append hd);have hl:(bo (s.heap.objs.size+1)::us++ds).length=ps.length:=by
    have e:=U.length;rw[F.len _ _ _ _ hq] at e;exact e.symm
  refine sJ (WZ (f:=f) I.dX M.makes M.init (beq_iff_eq.mp M.fn) (hU (F.run _ X.stack _ _ ⟨bo (s.heap.objs.size+1)::us,[]⟩ (bo (s.heap.objs.size+1)::(us++ds)) _ _ E (hr.make C us [])
    (I2.Mn.make C us []) (hb _ (bo (s.heap.objs.size+1)::us) I2.dX hl) U hq) λr s' g=>?_))
  cases r with
  |error e=>exact hx pins σ _ _ e s' I2 g
  | ok fl =>
    cases fl with
    | ret u =>
      obtain⟨v,H',I3,rv,ev,q3⟩:=I2.after g;subst ev;exact⟨rv,⟨V.ref (s.heap.objs.size+1),H',I3,rfl,q3⟩⟩
    |next=>exact el g
    |brk=>exact el g
    |cont=>exact el g
def OK(M:Mk X.K C f)(F:bD X.prog X.w X.K X.mg X.base CX k f fd ps sp)(hr:fM (k+1) X.A)(hg:Gl X x)(hm:X.mg x=some (.ref C))(hb:Binds X.K fd ps ds)(hd:Vals g8 ds)(hx:Passes CX X E)
  (ha:PA X (e::es) t) (a:(x==("__debug__":Str))=false:=by decide) (he:cc (e::es) X.env=(false,eval e X.env)::cc es X.env:=by rfl) (hpl:(i5 pos (cc es X.env)).any (·.1)=false:=by rfl):
  PE X (.Call (.Name x p) (e::es) [] pos) (HS C sp g8 E t):=by
 intro pins s σ H Q I h;refine fN (So I hg hm ?_ a);refine Gy (h₀:=X.base) I.ok.mod.uU M.kp (aT (ha pos pins s σ H _ I h) λus s1 ⟨vs,H1,I1,r,q⟩=>⟨I1.dX,?_⟩) he hpl;exact YR M F hr hb hd hx I1 r q
end
structure cg(N P:List Str)(sc:hX):Prop where
 kind:sc.kind= .function
 co:sc.isCoroutine=false
 gen:sc.isGenerator=false
 nd:N.Nodup
 pre:N.take P.length=P
 par:∀x∈P,sc.names.lookup x=some .local\/sc.names.lookup x=some .cell
 Xu:∀y∈sc.names,y.2≠ .free
theorem RC{kindOf:Str->Option eS}{x:Str}:∀{binds:List (Str×ag)} {m:Str->Option ag},(∀v,(x,v)∉binds)->wi kindOf binds m x=m x
  |[],_,_=>rfl
  | (n, v) :: r, m, h => by
    unfold wi;rw[RC λw hw=>h w (cM _ hw)];split
    · have:x≠n:=by rintro rfl;exact h v cN
      simp[this]
    · rfl
theorem OJ{kindOf:Str->Option eS}{x:Str}:∀{binds:List (Str×ag)} {m:Str->Option ag},(∀v,(x,v)∉binds)->wq kindOf binds m x=m x
  |[],_,_=>rfl
  | (n, v) :: r, m, h => by
    unfold wq;rw[OJ λw hw=>h w (cM _ hw)];split;· rfl
    · have:x≠n:=by rintro rfl;exact h v cN
      simp[this]
theorem LI{kindOf:Str->Option eS}{x:Str}{v:ag}:∀{P:List Str} {vs:List ag} {i:Nat} {m:Str->Option ag},P.Nodup->P[i]?=some x->vs[i]?=some v->kindOf x=some .local->
    wi kindOf (P.zip vs) m x=some v
  |[],_,_,_,_,h,_,_=>by simp at h
  |_::_,[],_,_,_,_,h,_=>by simp at h
  | p :: P, w :: vs, 0, m, nd, h1, h2, hk => by
    simp at h1 h2;subst h1;subst h2;show wi kindOf ((p,w)::P.zip vs) m p=_;unfold wi;rw[RC λv hv=>(jn.mp nd).1 (FE hv).1,if_pos hk];simp
  | p :: P, w :: vs, i + 1, m, nd, h1, h2, hk => by
    show wi kindOf ((p,w)::P.zip vs) m x=_;unfold wi;exact LI (i:=i) (jn.mp nd).2 (by simpa using h1) (by simpa using h2) hk
theorem OE{kindOf:Str->Option eS}{x:Str}{v:ag}:∀{P:List Str} {vs:List ag} {i:Nat} {m:Str->Option ag},P.Nodup->P[i]?=some x->vs[i]?=some v->kindOf x≠some .local->
    wq kindOf (P.zip vs) m x=some v
  |[],_,_,_,_,h,_,_=>by simp at h
  |_::_,[],_,_,_,_,h,_=>by simp at h
  | p :: P, w :: vs, 0, m, nd, h1, h2, hk => by
    simp at h1 h2;subst h1;subst h2;show wq kindOf ((p,w)::P.zip vs) m p=_;unfold wq;rw[OJ λv hv=>(jn.mp nd).1 (FE hv).1,if_neg hk];simp
  | p :: P, w :: vs, i + 1, m, nd, h1, h2, hk => by
    show wq kindOf ((p,w)::P.zip vs) m x=_;unfold wq;exact OE (i:=i) (jn.mp nd).2 (by simpa using h1) (by simpa using h2) hk
noncomputable def start(N:List Str)(vs:List V):qr:=vs.map some++ar (N.length-vs.length) none
noncomputable def tN(CX:nh)(P:bc)(w:cx)(K:PySem.W.Frag)(mg:Str->Option ag)(base:eo)(N:List Str)(qual:Str)(scope:hX)(f:aF)(t:ag)(A:c3)(outer:List Env)(s:aw)(H:Hp)(E:XK):Cx where
 prog:=P
 w:=w
 K:=K
 mg:=mg
 base:=base
 A:=A.deeper (og qual scope s.heap.objs.size f t)
 N:=N
 s₀:=s
 H₀:=H
 env:=og qual scope s.heap.objs.size f t
 outer:=outer
 stack:=og qual scope s.heap.objs.size f t::outer
 ex:=[]
 calm:=true
 fn:=λ_=>true
 pn:=[]
 xe:=λe s'=>wpAny (bj P w) (A.deeper (og qual scope s.heap.objs.size f t)) (leaving (og qual scope s.heap.objs.size f t) e) (λ_ a=>CX outer H s E e a) (λe' a=>CX outer H s E e' a) s'
def Oz{sc:hX}{x:Str}(h:sc.names.lookup x=some .cell):∃c,(u0 n sc.names []).lookup x=some c:=by
 have q:=RT sc.names n [] (.inl h);exact CI.mp q
theorem Ts{CX:nh}{P:bc}{K:PySem.W.Frag}{ps:List Str}{f:aF}{t:ag}{A:c3}{s1:aw}{H:Hp}{E:XK}{vs:List V}
  (S:cg N ps scope) (hd:A.handled=none) (e0:qw P w K mg base A outer s H) (hl:vs.length=ps.length) (r:Vals vs us)
  (x:InCallC s s.heap.objs.size (wi (og qual scope s.heap.objs.size f t).kindOf (ps.zip us) λ_=>none) (u0 (s.heap.objs.size+1) scope.names []) (wq (og qual scope s.heap.objs.size f t).kindOf (ps.zip us) λ_=>none) s1):
  Inv (tN CX P w K mg base N qual scope f t A outer s H E) [] (start N vs) H s1:=by
 have hpl:ps.length<=N.length:=by have:=congrArg l3 S.pre;rw[iG] at this;omega
 obtain⟨h1,tk,rfl,hk⟩:=x.done;have g:∀b:aF,b∉(tN CX P w K mg base N qual scope f t A outer s H E).ex:=λb z=>absurd (show b∈([]:List aF) from z) (by simp)
 refine⟨⟨e0.mod,S.kind,rfl,rfl,aW _,λy z c h1 h2=>?_,λy hy=>?_,λy c _ h=>?_,λ_=>hd,Around.frames_deeper e0.frames, .inr ⟨rfl,rfl⟩,λb z=>absurd z (g b),e0.bs,e0.qg,λb _ _=>g b,λb z=>absurd z (g b),e0.k8,e0.rX⟩,
  rfl,e0.bare,Un.kept hk,⟨_,x.toInCall.ns,λi y v h1 h2 h3=>?_⟩,λy c h=>⟨_,x.cell y c h⟩,e0.hok.fresh (aW _),λy c h=>?_,λp hp=>absurd (show p∈([]:List (aF×Obj)) from hp) (by simp),e0.hok.kept hk,?_⟩
 .exact name_of_addr x.apart (q9 h1) (q9 h2)
 .have hy:scope.names.lookup y=some .cell\/scope.names.lookup y=some .free:=hy;rcases hy with hy|hy
  .exact Oz hy
  .exact absurd rfl (S.Xu _ (q9 hy))
 .exact lE (x.above y c (q9 h))
 .have hi:i<vs.length:=by
   unfold start at h2;by_cases hi:i<vs.length;·exact hi
   .rw[jr (by simpa using hi)] at h2;rw[gf] at h2;split at h2<;>cases h2
  have ha:vs[i]?=some v:=by
   unfold start at h2;rw[jj (by simpa using hi),bw] at h2;cases e:vs[i]? with
   |none=>rw[e] at h2;cases h2
   |some a=>rw[e] at h2;cases h2;rfl
  obtain⟨u,hu,rv⟩:=r.get ha;have hp:ps[i]?=some y:=by
   rw[<-S.pre,yL ∅];exact h1
  have d:ps.Nodup:=by rw[<-S.pre];exact S.nd.sublist (List.take_sublist _ _)
  refine⟨u,rv,?_⟩;rcases S.par y (bC hp) with k|k
  .exact .inl ⟨k,LI d hp hu k⟩
  .obtain⟨c,e⟩:=Oz (n:=s.heap.objs.size+1) k;refine .inr ⟨.inl k,c,e,?_⟩;have q:=x.cell y c e;rw[OE d hp hu (by show scope.names.lookup y≠_;rw[k];decide)] at q;exact q
 .exact e0.hok.fresh (lE (x.above y c (q9 h)))
 .unfold start;show _=N.length;rw[fk,ao,lN];omega
def E2{CX:nh}{P:bc}{K:PySem.W.Frag}{k:Nat}{f:aF}{name:Str}{d:Arguments}{a:List eQ}{i kV doc pm cdv ct:ag}{an od:Option aF} {ps:List Str} {sp:Sp} (lk:K.lookup f=some ⟨oc,od, .func (PySem.W.fnOf name qual d a scope i kV doc pm an cdv ct),osl⟩) (j:PySem.W.codeIn K cdv qual=true) (S:cg N ps scope)
    (len:∀vs H Q E,sp vs H Q E->vs.length=ps.length)
    (c:∀(A:c3) (outer:List Env) (s:aw) (H:Hp) (vs:List V) (Q:VK) (E:XK),fM k (A.deeper (og qual scope s.heap.objs.size f cdv))->sp vs H Q E->
      ∃t,kU (tN CX P w K mg base N qual scope f cdv A outer s H E) a t/\t {nx:=λ_ H'=>Q .aP H',rt:=Q} (start N vs) H):
    bD P w K mg base CX (k+1) f (PySem.W.fnOf name qual d a scope i kV doc pm an cdv ct) ps sp:=by
  refine⟨len,λA outer s H args us vs Q E hr e0 hb r C=>?_⟩;have hl:=len _ _ _ _ C;have KX:K.In s.heap:=e0.mod.uU.keeps λb o e=>(e0.bs b o e).1;have h:s.heap.NoLimit:=e0.mod.nolimit.keeps λb o e=>(e0.bs b o e).1;have g:∀y∈ps.zip us,scope.names.lookup y.1=some .local\/(scope.names.lookup y.1=some .cell/\((u0 (s.heap.objs.size+1) scope.names []).lookup y.1).isSome=true):=λ⟨n,v⟩ hy=>by
    rcases S.par n (FE hy).1 with q|q
    · exact .inl q
    · exact .inr ⟨q,RT _ _ _ (.inl q)⟩
  refine codeAny_call_function hr.depth (KX _ _ lk) rfl S.co S.gen rfl (PySem.W.codeRec_of KX j) (hb _ _ _ _ ?_);refine wpAny_newFunctionEnv_cells S.kind g λenv he s1 x=>?_;subst he;refine⟨h.keeps x.toInCall.keep,codeAny_func ?_⟩;obtain⟨t,ht,hq⟩:=c A outer s H vs Q E (hr.deeper _) C;have I:Inv (tN CX P w K mg base N qual scope f cdv A outer s H E) [] (start N vs) H s1:=Ts S hr.hd e0 hl r x;refine fg (ht [] s1 (start N vs) H _ I hq) (λfl s' hs=>?_) λe s' hs=>hs
  have fin:∀{M:qr} {H':Hp} {v:V} {u:ag},Inv (tN CX P w K mg base N qual scope f cdv A outer s H E) [] M H' s'->RelV v u->Q v H'->CE outer P w H s Q u s':=
    λ{M H' v u} J rv q=>⟨v,H',J.os,J.bare,J.base,J.hok,rv,q⟩
  cases fl with
  | ret u =>
    obtain⟨v,M,H',J,rv,q⟩:=hs;exact fin J rv q
  | next =>
    obtain⟨M,H',J,q⟩:=hs;exact fin (v:=V.aP) (u:=ek) J rfl q
  | brk =>
    obtain⟨_,_,_,q⟩:=hs;exact el q
  | cont =>
    obtain⟨_,_,_,q⟩:=hs;exact el q
section
variable{X:Cx}{x:Str}{p pos:Pos}{e:eB}{es:List eB}{t:TA}{id T:String}{r:List V->Hp->VK->Prop}
def ir(r:List V->Hp->VK->Prop)(t:TA):TE:=λσ H Q=>t σ H λvs H1=>r vs H1 Q
def cB(hc:iF X (.builtin id) r)(hg:Gl X x)(hm:X.mg x=none)(hv:hH x=some (.builtin id))(ha:PA X (e::es) t)(hn:x≠"__name__":=by decide)(a:(x==("__debug__":Str))=false:=by decide)
  (he:cc (e::es) X.env=(false,eval e X.env)::cc es X.env:=by rfl) (hpl:(i5 pos (cc es X.env)).any (·.1)=false:=by rfl):PE X (.Call (.Name x p) (e::es) [] pos) (ir r t):=by
 intro pins s σ H Q I h;refine fN (nU I hg hm hv ?_ hn a);exact oh (aT (ha pos pins s σ H _ I h) λus s1 ⟨vs,H1,I1,M,O⟩=>hc pins s1 σ H1 vs us Q I1 M O) he hpl
def j6(hc:iF X (.type T) r)(hg:Gl X x)(hm:X.mg x=none)(hv:hH x=some (.type T))(ha:PA X (e::es) t)(hn:x≠"__name__":=by decide)(a:(x==("__debug__":Str))=false:=by decide)
  (he:cc (e::es) X.env=(false,eval e X.env)::cc es X.env:=by rfl) (hpl:(i5 pos (cc es X.env)).any (·.1)=false:=by rfl):PE X (.Call (.Name x p) (e::es) [] pos) (ir r t):=by
 intro pins s σ H Q I h;refine fN (nU I hg hm hv ?_ hn a);exact qR (aT (ha pos pins s σ H _ I h) λus s1 ⟨vs,H1,I1,M,O⟩=>hc pins s1 σ H1 vs us Q I1 M O) he hpl
end
end L2
variable{H H1 H':L2.Hp}{xs vs:List L2.V}{σ:L2.qr}{X:L2.Cx}{ps kvs:List (L2.Key×L2.V)}{q:L2.qr->L2.Hp->Prop}{te tl t0:L2.TE}{tc:L2.TT}{t:L2.TA}{D:L2.Ends}{sp:L2.Sp}{gt:L2.TG}
namespace HT
open PySem PyProof.Rows
section
open PySem.SeqAt
open PySem.AutoSeq1 (wpAny_loadPart')
open PySem.MeetsSeq PySem.MeetsSeq2 PySem.MeetsSeq3
end
section
variable{prog:bc}{w:cx}{A:c3}{E:ag->aw->Prop}{s:aw}
noncomputable def gb(n d:Nat):Option Int->Nat
 |none=>d
 |some v=>if v<0 then(v+(n:Int)).toNat else min v.toNat n
end
end HT
namespace L2
abbrev TO:=qr->Hp->(Option Int->Hp->Prop)->Prop
def PO(X:Cx)(e:Option eB)(t:TO):Prop:=
 ∀(pins:List (aF×Obj)) (s:aw) (σ:qr) (H:Hp) (Q:Option Int->Hp->Prop),Inv X pins σ H s->t σ H Q->
  wpAny (bj X.prog X.w) X.A (evalPart e X.env) (λu s'=>∃o H',Inv X pins σ H' s'/\IsPart u o/\Q o H') X.xe s
def Df:TO:=λ_ H Q=>Q none H
def JE(t:TE):TO:=λσ H Q=>t σ H λx H1=>∃i,x= .int i/\Q (some i) H1
section
variable{X:Cx}{e:eB}{te:TE}{lo hi:Option eB}{tl th:TO}{pos p2:Pos}
def sq:PO X none Df:=by
 intro pins s σ H Q I h;rw[tI];exact ax ⟨none,H,I, .none,h⟩
def rG(h:PE X e te):PO X (some e) (JE te):=by
 intro pins s σ H Q I hw;rw[evalPart_some];refine aT (h pins s σ H _ I hw) λu s1 ⟨x,H1,I1,M,O⟩=>?_;obtain⟨i,rfl,q⟩:=O;obtain⟨t,rfl⟩:=M;exact⟨some i,H1,I1, .int i t,q⟩
def Mw(X:Cx)(r:V->Option Int->Option Int->Hp->VK->Prop):Prop:=
 ∀(pins:List (aF×Obj)) (s:aw) (σ:qr) (H:Hp) (x:V) (v k a:ag) (lo hi:Option Int) (sl:aF) (Q:VK),Inv X pins σ H s->RelV x v->s.heap.IsSliceOf sl k a .none->IsPart k lo->IsPart a hi->r x lo hi H Q->
  ∃T id,ls (.type T) "__getitem__"=pure (some (.builtin id))/\s.TypeIs v T/\wpAny (bj X.prog X.w) X.A (v5 v (.ref sl)) (EP X pins σ Q) X.xe s
def vR(r:V->Option Int->Option Int->Hp->VK->Prop)(te:TE)(tl th:TO):TE:=λσ H Q=>te σ H λx H1=>tl σ H1 λl H2=>th σ H2 λu H3=>r x l u H3 Q
def rq{r:V->Option Int->Option Int->Hp->VK->Prop}(hr:Mw X r)(he:PE X e te)(hl:PO X lo tl)(hu:PO X hi th):PE X (.Subscript e (.Slice lo hi none p2) pos) (vR r te tl th):=by
 intro pins s σ H Q I h;refine Subscript_ (aT (he pins s σ H _ I h) λv s1 ⟨x,H1,I1,M,O⟩=>?_);refine wpAny_Slice (aT (hl pins s1 σ H1 _ I1 O) λk s2 ⟨l,H2,I2,pl,q2⟩=>aT (hu pins s2 σ H2 _ I2 q2) λa s3 ⟨u,H3,I3,c,q3⟩=>?_);rw[tI];refine ax ?_;have p:Inv X pins σ H3 {s3 with heap:=s3.heap.push {cls:= .type "slice",data:= .fields #[k,a, .none]}}:=I3.kept (t':=s3.toks) λb B q=>cF _ q;obtain⟨T,id,hT,ht,hg⟩:=hr pins {s3 with heap:=s3.heap.push {cls:= .type "slice",data:= .fields #[k,a, .none]}} σ H3 x v k a l u s3.heap.objs.size Q p M (x8 ..) pl c q3;show wpAny (bj X.prog X.w) X.A (mr e (.Slice lo hi none p2) v (.ref s3.heap.objs.size)) (EP X pins σ Q) X.xe {s3 with heap:=s3.heap.push {cls:= .type "slice",data:= .fields #[k,a, .none]}};exact tail_any (ops:=[.ref s3.heap.objs.size,v]) ht hT hg (by with_unfolding_all rfl)
noncomputable def nk(xs:List V)(lo hi:Option Int):List V:=(xs.drop (HT.gb xs.length 0 lo)).take (HT.gb xs.length xs.length hi-HT.gb xs.length 0 lo)
theorem U0(xs:List V)(lo hi:Option Int):(nk xs lo hi).length<=xs.length:=by
 unfold nk;rw[iG,sW];omega
end
noncomputable def dS(n:Nat)(i:Int):Option Nat:=if 0<=i then(if i<n then some i.toNat else none) else if-(n:Int)<=i then some (i+n).toNat else none
noncomputable def bE(xs:List α)(i:Int):Option α:=(dS xs.length i).bind λj=>xs[j]?
theorem IQ{i:Int}(h:dS n i=some j):pY i n=some j/\j<n/\ -(n:Int)<=i/\i<n:=by
 unfold dS at h;by_cases h0:0<=i
 .rw[if_pos h0] at h;by_cases h1:i<n
  .rw[if_pos h1] at h;have e:i.toNat=j:=fP h;exact⟨by rw[l4 h0 h1,e],∅,∅,h1⟩
  .rw[if_neg h1] at h;cases h
 .rw[if_neg h0] at h;by_cases h1: -(n:Int)<=i
  .rw[if_pos h1] at h;have e:(i+n).toNat=j:=fP h;exact⟨by rw[seqIndex_neg ∅ h1,e],∅,h1,∅⟩
  .rw[if_neg h1] at h;cases h
def Ag{α:Type}{xs:List α}{i:Int}{v:α}(h:bE xs i=some v):∃j,pY i xs.length=some j/\xs[j]?=some v/\j<xs.length/\ -(xs.length:Int)<=i/\i<xs.length:=by
  unfold bE at h;cases e:dS xs.length i with
  |none=>rw[e] at h;cases h
  | some j =>
    rw[e] at h;obtain⟨h1,h2,h3,h4⟩:=IQ e;exact⟨j,h1,h,h2,h3,h4⟩
theorem ad7{α:Type}{xs:List α}{v:α}(h:xs[j]?=some v):bE xs (j:Int)=some v:=by
 have hj:j<xs.length:=(aO.mp h).1;have e:dS xs.length (j:Int)=some j:=by
  unfold dS;rw[if_pos ∅,if_pos ∅];simp
 unfold bE;rw[e];exact h
def acS(b:eB):Prop:=∀o i,p0 b false o i=operate [o,i] (v5 o i)
def mZ(X:Cx)(r:R2):Prop:=
 ∀(value a:eB) (pins:List (aF×Obj)) (s:aw) (σ:qr) (H:Hp) (x y:V) (v u:ag) (Q:VK),Inv X pins σ H s->RelV x v->RelV y u->r x y H Q->
  p0 a false v u=operate [v,u] (v5 v u)->wpAny (bj X.prog X.w) X.A (mr value a v u) (EP X pins σ Q) X.xe s
def uP(X:Cx)(id:String)(r:V->List V->Hp->VK->Prop):Prop:=
 ∀(pins:List (aF×Obj)) (s:aw) (σ:qr) (H:Hp) (x:V) (xs:List V) (v:ag) (us:List ag) (Q:VK),Inv X pins σ H s->RelV x v->Vals xs us->r x xs H Q->
  wpAny (bj X.prog X.w) X.A (call (.builtin id) (v::us)) (EP X pins σ Q) X.xe s
section
variable{X:Cx}{a b:eB}{ta tb:TE}{pos:Pos}
def mZ.or{r r':R2}(h:mZ X r)(h':mZ X r'):mZ X (λx y H Q=>r x y H Q\/r' x y H Q):=by
 intro value slice pins s σ H x y v u Q I rx ry q hs;rcases q with q|q
 .exact h value slice pins s σ H x y v u Q I rx ry q hs
 .exact h' value slice pins s σ H x y v u Q I rx ry q hs
def aD{r:R2}(hr:mZ X r)(ha:PE X a ta)(hb:PE X b tb)(hs:acS b):PE X (.Subscript a b pos) (cQ r ta tb):=by
 intro pins s σ H Q I h;exact Subscript_ (Gd ha hb I h λv u s2 x y H2 I2 g d q=>hr a b pins s2 σ H2 x y v u Q I2 g d q (hs _ _))
def bO(K:PySem.W.Frag):R2:=λx y H Q=>∃p xs i v,x= .ref p/\y= .int i/\aV K H p xs/\bE xs i=some v/\Q v H
def bJ(K:PySem.W.Frag):R2:=λx y H Q=>∃p xs i v,x= .ref p/\y= .int i/\iP K H p xs/\bE xs i=some v/\Q v H
def MB:R2:=λx y H Q=>∃z i c,x= .str z/\y= .int i/\z.length<=sizeLine/\bE z.cps.toList i=some c/\Q (.str ⟨#[c]⟩) H
theorem bA:mZ X (bO X.K):=by
 intro value slice pins s σ H x y v u Q I rx ry h hs;obtain⟨p,xs,i,z,rfl,rfl,hq,he,q⟩:=h;cases rx;obtain⟨t,rfl⟩:=ry;obtain⟨its,r,pl,hz⟩:=I.list hq;obtain⟨j,h1,h2,h3,h4,h5⟩:=Ag he;obtain⟨w,ew,b⟩:=r.get h2;have hl:=r.length;have hn:=qN;have fin:EP X pins σ Q w s:=⟨z,H,I,b,q⟩;by_cases h0:0<=i
 .have hj:i.toNat=j:=by
   rw[l4 h0 h5] at h1;exact fP h1
  exact item_listR pl.isList h0 ∅ (by rw[hj];simpa using ew) fin hs
 .have hj:(i+(its.toArray.size:Int)).toNat=j:=by
   rw[seqIndex_neg ∅ h4] at h1;rw[cY,<-hl];exact fP h1
  exact km (x:=w) pl.isList.typeIs ng.lookup
   (wpAny_getItem_list_neg (Q:=λr s'=>r=w/\EP X pins σ Q r s') pl.isList ∅ (by rw[cY]<;>omega) ∅ (by rw[hj];simpa using ew) ⟨rfl,fin⟩) hs
theorem bU:mZ X (bJ X.K):=by
 intro value slice pins s σ H x y v u Q I rx ry h hs;obtain⟨p,xs,i,z,rfl,rfl,hq,he,q⟩:=h;cases rx;obtain⟨t,rfl⟩:=ry;obtain⟨its,r,pl,hz⟩:=I.tuple hq;obtain⟨j,h1,h2,h3,h4,h5⟩:=Ag he;obtain⟨w,ew,b⟩:=r.get h2;have hl:=r.length;have hn:=qN;have fin:EP X pins σ Q w s:=⟨z,H,I,b,q⟩
 exact km (x:=w) pl.typeIs slot_tuple_getitem.lookup
  (getItem_tuple (j:=j) (Q:=λr s'=>r=w/\EP X pins σ Q r s') pl ∅ ∅ (by rw[cY,<-hl];exact h1) (by simpa using ew) ⟨rfl,fin⟩) hs
theorem GV:mZ X MB:=by
 intro value slice pins s σ H x y v u Q I rx ry h hs;obtain⟨z,i,c,rfl,rfl,hz,he,q⟩:=h;obtain⟨t,rfl⟩:=rx;obtain⟨t',rfl⟩:=ry;obtain⟨j,h1,h2,h3,h4,h5⟩:=Ag he;have hl:z.cps.toList.length=z.length:=by simp[Str.length]
 rw[hl] at h1 h4 h5;have hn:=qN
 exact tail_any (typeIs_str s z t) slot_str_getitem.lookup (getItem_str (c:=c) (by
  have e1:decide (i< -(2^63:Int))=false:=decide_eq_false ∅;have e2:decide (i≥2^63)=false:=decide_eq_false ∅;rw[e1,e2,p7]) (by rw[h1];simpa using h2) ⟨.str ⟨#[c]⟩,H,I.tok _,⟨_,rfl⟩,q⟩) hs
def BL(K:PySem.W.Frag):R2:=λx y H Q=>bO K x y H Q\/bJ K x y H Q\/MB x y H Q
def KR:mZ X (BL X.K):=bA.or (bU.or GV)
def Vf(its:List ag)(n j:Nat)(u:ag):cq (·.setIfInBounds j u) {cls:= .type "list",data:= .seq its.toArray n}={cls:= .type "list",data:= .seq (its.set j u).toArray n}:=by
 simp[cq]
theorem Inv.lst{pins:List (aF×Obj)}{σ:qr}{H:Hp}{s:aw}{p:aF}{xs:List V}(I:Inv X pins σ H s)(h:H p=some (.lst xs)):
  ∃(its:List ag) (n:Nat),Vals xs its/\s.heap.get? p=some {cls:= .type "list",data:= .seq its.toArray n}/\xs.length<=sizeLine:=by
 obtain⟨z,its,n,r,e⟩:=I.hok p _ h;exact⟨its,n,r,e,z⟩
def Inv.Ey{p:aF}{ys:List V}{its':List ag}{c:Nat}{f:Obj->Obj}(I:Inv X pins σ H s)(h:H p=some (.lst xs))
  (ho:s.heap.get? p=some {cls:= .type "list",data:= .seq its.toArray n}) (hf:f {cls:= .type "list",data:= .seq its.toArray n}={cls:= .type "list",data:= .seq its'.toArray c}) (r:Vals ys its') (hz:ys.length<=sizeLine) (t:Nat):
  Inv X pins σ (upd H p (.lst ys)) {s with heap:=s.heap.update p f,toks:=t}:=by
 have e:(s.heap.update p f).get? p=some {cls:= .type "list",data:= .seq its'.toArray c}:=by
  rw[o9 f ho (by rw[hf]<;>rfl),hf]
 refine I.write (x:=p) (e:=p) (by rw[h];trivial) (.inl rfl) (λb u hb q=>(kr _ _ (bH hb)).trans q) ⟨_,e⟩ ?_;exact⟨hz,its',c,r,e⟩
def qd:V->V->V->Hp->(Hp->Prop)->Prop:=λo i v H Q=>∃p xs k j,o= .ref p/\i= .int k/\H p=some (.lst xs)/\dS xs.length k=some j/\Q (upd H p (.lst (xs.set j v)))
theorem set_list:AZ X qd:=by
 intro pins s σ H o i v ov iv u Q I ro ri rv h;obtain⟨p,xs,k,j,rfl,rfl,hp,hj,q⟩:=h;cases ro;obtain⟨t,rfl⟩:=ri;obtain⟨its,n,r,ho,hz⟩:=I.lst hp;obtain⟨h1,h2,h3,h4⟩:=IQ hj;have hl:=r.length;have hn:=qN
 have b:Inv X pins σ (upd H p (.lst (xs.set j v))) {s with heap:=s.heap.update p (cq (·.setIfInBounds j u))}:=
  I.Ey hp ho (Vf its n j u) (r.set rv j) (by rw[fR];exact hz) s.toks
 by_cases h0:0<=k
 .have hk:k.toNat=j:=by
   rw[l4 h0 h4] at h1;exact fP h1
  exact PySem.W.ki_setAt ho h0 ∅ (by rw[cY,<-hl];exact h4) (by rw[hk];exact⟨_,b,q⟩)
 .have hk:(k+(its.toArray.size:Int)).toNat=j:=by
   rw[seqIndex_neg ∅ h3] at h1;rw[cY,<-hl];exact fP h1
  exact PySem.W.ki_setBack ho ∅ (by rw[cY,<-hl];exact h3) ∅ (by rw[hk];exact⟨_,b,q⟩)
theorem TK(lo hi:Option Int)(n:Nat):(gO lo hi none n).1=((HT.gb n 0 lo:Nat):Int)/\(gO lo hi none n).2.1=((HT.gb n n hi:Nat):Int)/\(gO lo hi none n).2.2=1:=by
  refine⟨?_,?_,rfl⟩
  · cases lo with
    |none=>simp[gO,HT.gb]
    | some i =>
      simp only[gO,HT.gb,oC,show(1:Int)>0 by decide,if_true];by_cases h:i<0;· simp only[h,if_true]<;>omega
      · simp only[h,if_false]<;>omega
  · cases hi with
    |none=>simp[gO,HT.gb]
    | some i =>
      simp only[gO,HT.gb,oC,show(1:Int)>0 by decide,if_true];by_cases h:i<0;· simp only[h,if_true]<;>omega
      · simp only[h,if_false]<;>omega
def RO(its:List ag)(lo hi:Option Int):slicePick its.toArray lo hi none=((its.drop (HT.gb its.length 0 lo)).take (HT.gb its.length its.length hi-HT.gb its.length 0 lo)).toArray:=by
 obtain⟨h1,h2,h3⟩:=TK lo hi its.toArray.size;unfold slicePick;rw[h1,h2,h3];simp only[sliceRange_one,pick_run,cY]<;>rfl
def mC(K:PySem.W.Frag):V->Option Int->Option Int->Hp->VK->Prop:=λx lo hi H Q=>∃a xs,x= .ref a/\aV K H a xs/\∀p,H p=none->Q (.ref p) (upd H p (.lst (nk xs lo hi)))
theorem qH:Mw X (mC X.K):=by
 intro pins s σ H x v vl vu lo hi sl Q I rx hs pl pu h;obtain⟨a,xs,rfl,hx,q⟩:=h;cases rx;obtain⟨its,r,ht,hz⟩:=I.list hx;have hlen:=r.length;refine⟨"list",_,ng.lookup,ht.isList.typeIs,?_⟩;refine wpAny_getItem_list_slice ht.isList hs pl pu .none (by simp) ?_ (by rw[cY]<;>omega);rw[RO,<-hlen];refine⟨.ref s.heap.objs.size,_,I.laid (t':=s.toks) (o:= .lst (nk xs lo hi)) (λb B q=>cF _ q) (aW _) ?_,rfl,q _ (I.hok.fresh (aW _))⟩;exact⟨dP (U0 xs lo hi) hz,_,0,(r.drop (HT.gb xs.length 0 lo)).take (HT.gb xs.length xs.length hi-HT.gb xs.length 0 lo),gk _ rfl⟩
noncomputable def pT:V->Bool
 | .aP=>true
 | .bl _=>true
 | .int _=>true
 | .str _=>true
 |_=>false
noncomputable def qm:V->V->Bool
 | .aP, .aP=>true
 | .bl a, .bl b=>a==b
 | .bl a, .int b=>(if a then 1 else 0)==b
 | .int a, .bl b=>a==(if b then 1 else 0)
 | .int a, .int b=>a==b
 | .str a, .str b=>a==b
 |_,_=>false
def T5{A:c3}{y x:V}{v:ag}(d:RelV y u)(g:RelV x v)(e:pT y=true)(c:pT x=true):yX A s u v (qm y x):=by
  cases y with
  | aP =>
    cases d;cases x with
    |aP=>cases g;exact zi _
    |bl b=>cases g;exact vJ b
    |int b=>obtain⟨t,rfl⟩:=g;exact wt b t
    |str b=>obtain⟨t,rfl⟩:=g;exact wx b t
    |_=>exact absurd (show false=true from c) dH
  | bl a =>
    cases d;cases x with
    |aP=>cases g;exact vT a
    |bl b=>cases g;exact vV a b
    |int b=>obtain⟨t,rfl⟩:=g;exact wy a b t
    |str b=>obtain⟨t,rfl⟩:=g;exact w7 a b t
    |_=>exact absurd (show false=true from c) dH
  | int a =>
    obtain⟨t',rfl⟩:=d;cases x with
    |aP=>cases g;exact xa a t'
    |bl b=>cases g;exact xb a t' b
    |int b=>obtain⟨t,rfl⟩:=g;exact x9 a t' b t
    |str b=>obtain⟨t,rfl⟩:=g;exact md a t' b t
    |_=>exact absurd (show false=true from c) dH
  | str a =>
    obtain⟨t',rfl⟩:=d;cases x with
    |aP=>cases g;exact xc a t'
    |bl b=>cases g;exact xf a t' b
    |int b=>obtain⟨t,rfl⟩:=g;exact me a t' b t
    |str b=>obtain⟨t,rfl⟩:=g;exact yn a t' b t
    |_=>exact absurd (show false=true from c) dH
  |_=>exact absurd (show false=true from e) dH
noncomputable def jQ(x:V)(u:ag):Bool:=match u with
 | .none=>qm .aP x
 | .bool b=>qm (.bl b) x
 | .int i _=>qm (.int i) x
 | .str z _=>qm (.str z) x
 |_=>false
def QT{x y:V}(r:RelV y u)(f:pT y=true):jQ x u=qm y x:=by
 cases y with
 |aP=>cases r;rfl
 |bl b=>cases r;rfl
 |int i=>obtain⟨t,rfl⟩:=r;rfl
 |str z=>obtain⟨t,rfl⟩:=r;rfl
 |_=>exact absurd (show false=true from f) dH
theorem vo{x:V}:∀{xs:List V} {us:List ag},Vals xs us->xs.all pT=true->us.any (jQ x)=xs.any λy=>qm y x
  |_,_, .nil,_=>rfl
  | y :: xs, u :: us, .cons r t, f => by
    rw[pA,fQ] at f;rw[oq,oq,QT r f.1,vo t f.2]
theorem wY{A:c3}{s:aw}{x:V}{v:ag}(g:RelV x v)(c:pT x=true):∀{xs:List V} {us:List ag},Vals xs us->xs.all pT=true->∀u∈us,yX A s u v (jQ x u)
  |_,_, .nil,_=>λu hu=>by cases hu
  | y :: xs, u :: us, .cons r t, f => λD hu => by
    rw[pA,fQ] at f;rcases aY.mp hu with rfl|hu
    · rw[QT r f.1];exact T5 r g f.1 c
    · exact wY g c t f.2 D hu
noncomputable def t7(x:V)(xs:List V):Bool:=xs.any λy=>qm y x
def wB(K:PySem.W.Frag)(a:Bool):R2:=λx y H Q=>∃p xs,y= .ref p/\(aV K H p xs\/iP K H p xs)/\pT x=true/\xs.all pT=true/\Q (.bl (if a then !t7 x xs else t7 x xs)) H
def UQ:dZ X (dc .In) (wB X.K false):=by
 intro pins s σ H x y v u Q I rx ry h;obtain⟨p,xs,rfl,hq,c,fs,q⟩:=h;cases ry;rcases hq with hq|hq
 .obtain⟨its,r,pl,hz⟩:=I.list hq;refine SeqAt.in_listAt (jQ x) pl.isList (λw hw=>wY rx c r fs w (by simpa using hw)) ⟨.bl _,H,I,rfl,?_⟩;rw[show its.toArray.any (jQ x)=its.any (jQ x) by simp,vo r fs];exact q
 .obtain⟨its,r,pl,hz⟩:=I.tuple hq;refine SeqAt.in_tupleAt (jQ x) pl (λw hw=>wY rx c r fs w (by simpa using hw)) ⟨.bl _,H,I,rfl,?_⟩;rw[show its.toArray.any (jQ x)=its.any (jQ x) by simp,vo r fs];exact q
def IM:dZ X (dc .NotIn) (wB X.K true):=by
 intro pins s σ H x y v u Q I rx ry h;obtain⟨p,xs,rfl,hq,c,fs,q⟩:=h;cases ry;rcases hq with hq|hq
 .obtain⟨its,r,pl,hz⟩:=I.list hq;refine SeqAt.notIn_listAt (jQ x) pl.isList (λw hw=>wY rx c r fs w (by simpa using hw)) ⟨.bl _,H,I,rfl,?_⟩;rw[show its.toArray.any (jQ x)=its.any (jQ x) by simp,vo r fs];exact q
 .obtain⟨its,r,pl,hz⟩:=I.tuple hq;refine SeqAt.notIn_tupleAt (jQ x) pl (λw hw=>wY rx c r fs w (by simpa using hw)) ⟨.bl _,H,I,rfl,?_⟩;rw[show its.toArray.any (jQ x)=its.any (jQ x) by simp,vo r fs];exact q
theorem QM:iF X (.builtin "len") (λxs H Q=>∃p ys,xs=[.ref p]/\(aV X.K H p ys\/iP X.K H p ys)/\Q (.int ys.length) H):=by
 intro pins s σ H xs us Q I r h;obtain⟨p,ys,rfl,hq,q⟩:=h;obtain⟨u,rfl,g⟩:=vals1 r;cases g;have hn:=qN;rcases hq with hq|hq
 .obtain⟨its,r',pl,hz⟩:=I.list hq;have hlen:=r'.length;exact Calls.call_len_list pl.isList (by simp only[cY]<;>omega) ⟨.int ys.length,H,I.tok _,⟨s.toks+1,by rw[cY,hlen]⟩,q⟩
 .obtain⟨its,r',pl,hz⟩:=I.tuple hq;have hlen:=r'.length;exact len_tuple pl (by simp only[cY]<;>omega) ⟨.int ys.length,H,I.tok _,⟨s.toks+1,by rw[cY,hlen]⟩,q⟩
theorem CZ:iF X (.type "list") (λxs H Q=>∃p ys,xs=[.ref p]/\(aV X.K H p ys\/iP X.K H p ys)/\∀l,H l=none->Q (.ref l) (upd H l (.lst ys))):=by
 intro pins s σ H xs us Q I r h;obtain⟨p,ys,rfl,hq,q⟩:=h;obtain⟨u,rfl,g⟩:=vals1 r;cases g
 have fin:∀(its:List ag),Vals ys its->ys.length<=sizeLine->∀(h':eo) (c':Nat),(∀b o',s.heap.get? b=some o'->h'.get? b=some o')->
   h'.get? s.heap.objs.size=some {cls:= .type "list",dict:=none,data:= .seq its.toArray c',slots:= #[]}->EP X pins σ Q (.ref s.heap.objs.size) {s with heap:=h'}:=λits r' hz h' c' kp e=>
  ⟨.ref s.heap.objs.size,_,I.laid (t':=s.toks) kp (aW _) (show cK X.prog X.w _ h' _ (.lst ys) from⟨hz,its,c',r',e⟩),rfl,q _ (I.hok.fresh (aW _))⟩
 rcases hq with hq|hq
 .obtain⟨its,r',pl,hz⟩:=I.list hq;have hlen:=r'.length;obtain⟨o,ho,hc,n,hd⟩:=pl.isList;exact tJ p (.inl rfl) ho hc hd (λh' c' kp e=>fin its r' hz h' c' kp e) (by simp only[cY]<;>omega)
 .obtain⟨its,r',pl,hz⟩:=I.tuple hq;have hlen:=r'.length;obtain⟨o,ho,hc,n,hd⟩:=pl;exact tJ p (.inr rfl) ho hc hd (λh' c' kp e=>fin its r' hz h' c' kp e) (by simp only[cY]<;>omega)
def sF(K:PySem.W.Frag)(T:String)(x:V)(H:Hp):Prop:=match x with
 | .str _=>T="str"
 | .int _=>T="int"
 | .ref p => (T = "list" /\ ∃ xs, aV K H p xs) \/ (T = "tuple" /\ ∃ o, K.lookup p = some o /\ o.cls = .type "tuple" /\ o.dict = none) \/
   (T="dict" /\((∃kvs,H p=some (.dK kvs))\/(∃kvs,H p=some (.dT kvs))\/∃o kvs,H p=some (.cV o (.dK kvs))))\/(T="set" /\∃S n,H p=some (.set S n))
 |_=>False
def P7{T:String}{x:V}{v:ag}(I:Inv X pins σ H s)(r:RelV x v)(ty:sF X.K T x H):
    s.TypeIs v T/\∀a,v= .ref a->∃ob,s.heap.get? a=some ob/\ob.dict=none:=by
  cases x with
  | str z =>
    obtain⟨t,rfl⟩:=r;cases (show T="str" from ty);exact⟨typeIs_str s z t,λ_ e=>nomatch e⟩
  | int i =>
    obtain⟨t,rfl⟩:=r;cases (show T="int" from ty);exact⟨sT s i t,λ_ e=>nomatch e⟩
  | ref p =>
    cases r;rcases ty with ⟨rfl,xs,hq⟩|⟨rfl,o,hk,hc,hd⟩|⟨rfl,hk⟩|⟨rfl,S,n,hk⟩
    · obtain⟨its,_,pl,_⟩:=I.list hq
      refine⟨pl.isList.typeIs,λa e=>?_⟩;cases e;obtain⟨o,n,e,c,hd,_⟩:=pl;exact⟨o,e,hd⟩
    · refine⟨⟨o,I.dX p o hk,hc⟩,λa e=>?_⟩
      cases e;exact⟨o,I.dX _ o hk,hd⟩
    · have z:∃o,s.heap.get? p=some o/\o.ExactDict:=by
        rcases hk with ⟨kvs,hk⟩|⟨kvs,hk⟩|⟨ob,kvs,hk⟩
        · obtain⟨_,_,_,_,o,_,_,e,ex,_⟩:=I.hok p _ hk
          exact⟨o,e,ex⟩
        · obtain⟨_,_,_,_,o,_,_,e,ex,_⟩:=I.hok p _ hk
          exact⟨o,e,ex⟩
        · obtain⟨_,_,_,_,_,o,_,_,e,ex,_⟩:=I.hok p _ hk
          exact⟨o,e,ex⟩
      obtain⟨o,e,ex⟩:=z;refine⟨⟨o,e,ex.1⟩,λa e2=>?_⟩;cases e2;exact⟨o,e,ex.2.1⟩
    · obtain⟨o,_,_,_,e,ex,_⟩:=I.hok p _ hk
      refine⟨⟨o,e,ex.1⟩,λa e2=>?_⟩;cases e2;exact⟨o,e,ex.2.1⟩
  |_=>exact el ty
def Oq(K:PySem.W.Frag)(T:String)(r:V->List V->Hp->VK->Prop)(to:TE):TE:=λσ H Q=>to σ H λx H1=>sF K T x H1/\r x [] H1 Q
def mT(K:PySem.W.Frag)(T:String)(r:V->List V->Hp->VK->Prop)(to:TE)(t:TA):TE:=λσ H Q=>to σ H λx H1=>sF K T x H1/\t σ H1 λxs H2=>r x xs H2 Q
variable{o e:eB}{es:List eB}{to:TE}{t:TA}{name:Str}{apos cpos:Pos}{T id:String}{r:V->List V->Hp->VK->Prop}
def J0(f:PlainAttrs T)(slot:Slot T name id)(d:typeOf (.builtin id)=pure (.type "method_descriptor"))(hm:uP X id r)(ho:PE X o to)
  (b:j1 o name X.env (eval o X.env)=eval o X.env:=by rfl) (a:(apos.endLine==cpos.line)=true:=by rfl):PE X (.Call (.Attribute o name apos) [] [] cpos) (Oq X.K T r to):=by
 intro pins s σ H Q I h;refine wpAny_Call_method0_late b a (aT (ho pins s σ H _ I h) λv s1 ⟨x,H1,I1,M,ty,O⟩=>?_);obtain⟨h1,h2⟩:=P7 I1 M ty;exact⟨T,id,f,slot,d,h1,h2,ku rfl (PySem.evalArgs_none (hm pins s1 σ H1 x [] v [] Q I1 M .nil O))⟩
def qi(f:PlainAttrs T)(slot:Slot T name id)(d:typeOf (.builtin id)=pure (.type "method_descriptor"))(hm:uP X id r)(ho:PE X o to)(ha:PA X (e::es) t)
  (b:j1 o name X.env (eval o X.env)=eval o X.env:=by rfl)
  (hfew : ((backTo cpos (starEach (e :: es) X.env)).all (λx => !x.1) && (backToKw cpos (keywordEach [] X.env)).all (λx => x.1.isSome)
   && decide ((e::es).length+([]:List Keyword).length+(if([]:List Keyword).isEmpty then 0 else 1)<30))=true:=by rfl)
  (a:(apos.endLine==cpos.line)=true:=by rfl) (hs:cc (e::es) X.env=(false,eval e X.env)::cc es X.env:=by rfl) (c:(i5 cpos (cc es X.env)).any (·.1)=false:=by rfl):
  PE X (.Call (.Attribute o name apos) (e::es) [] cpos) (mT X.K T r to t):=by
 intro pins s σ H Q I h;refine wpAny_Call_method_late b hfew a rfl (aT (ho pins s σ H _ I h) λv s1 ⟨x,H1,I1,M,ty,O⟩=>?_);obtain⟨h1,h2⟩:=P7 I1 M ty;refine⟨T,id,f,slot,d,h1,h2,?_⟩;have hA:=ha cpos pins s1 σ H1 _ I1 O;rw[hs] at hA⊢;refine ku (by show(false||(i5 cpos (cc es X.env)).any (·.1))=false;rw[c]<;>rfl) (Calls.evalArgs_plain ?_);exact aT hA λus s2 ⟨vs,H2,I2,U,q2⟩=>hm pins s2 σ H2 x vs v us Q I2 M U q2
/-xs.append(e),list.index on a module's tuple .. are uP facts of 06m-/
end
def t9(X:Cx)(id:String)(r:V->List V->Hp->VK->Prop):Prop:=
 ∀(pins:List (aF×Obj)) (s:aw) (σ:qr) (H:Hp) (x:V) (xs:List V) (v:ag) (us:List ag) (Q:VK),Inv X pins σ H s->RelV x v->Vals xs us->r x xs H Q->
  wpAny (bj X.prog X.w) X.A (call (.builtin id) (v::us)) (EP X pins σ Q) X.xe s
def Vals.one{x:V}(h:Vals [x] us):∃u,us=[u]/\RelV x u:=by
 cases h with
 |cons r t=>cases t;exact⟨_,rfl,r⟩
def Vals.two{x y:V}(h:Vals [x,y] us):∃u v,us=[u,v]/\RelV x u/\RelV y v:=by
  cases h with
  | cons r t =>
    obtain⟨v,e,q⟩:=Vals.one t;exact⟨_,v,by rw[e],r,q⟩
def Vals.zero:∀{us:List ag},Vals [] us->us=[]
 |_, .nil=>rfl
theorem Vals.dropLast{xs:List V}{us:List ag}(h:Vals xs us):Vals xs.dropLast us.dropLast:=by
  induction h with
  |nil=>exact .nil
  | cons r t ih =>
    cases t with
    |nil=>exact .nil
    |cons q t'=>exact .cons r ih
theorem Vals.eraseIdx:∀{xs:List V} {us:List ag} (i:Nat),Vals xs us->Vals (xs.eraseIdx i) (us.eraseIdx i)
 |_,_,_, .nil=> .nil
 |_,_,0, .cons _ t=>t
 |_,_,i+1, .cons r t=> .cons r (Vals.eraseIdx i t)
theorem Vals.rep{xs:List V}{us:List ag}(h:Vals xs us):∀k:Nat,Vals (ar k xs).flatten (ar k us).flatten
  |0=> .nil
  | k + 1 => by
    rw[rF,rF,wA,wA];exact Vals.append h (Vals.rep h k)
theorem YY(l:List α):l.eraseIdx (l.length-1)=l.dropLast:=by
  induction l with
  |nil=>rfl
  | cons a r ih =>
    cases r with
    |nil=>rfl
    | cons b r =>
      have e:(a::b::r).length-1=((b::r).length-1)+1:=by
        have h1:(a::b::r).length=r.length+2:=rfl;have h2:(b::r).length=r.length+1:=rfl;omega
      rw[e,QO,ih];all_goals rfl
theorem Lf{α:Type}:∀(l:List α) (i:Nat),(l.eraseIdx i).length<=l.length
 |[],_=>aW _
 |_::_,0=>qQ _
 |_::r,i+1=>Nat.succ_le_succ (Lf r i)
theorem foldl_rep(its:List ag):∀(k:Nat) (acc:List ag),
    td (λW B=>W++B) acc.toArray (ar k its.toArray)=(acc++(ar k its).flatten).toArray
  |0,acc=>by simp
  | k + 1, acc => by
    have e:acc.toArray++its.toArray=(acc++its).toArray:=by simp
    have e2:(acc++its)++(ar k its).flatten=acc++(ar (k+1) its).flatten:=by
      rw[rF,wA,sO]
    rw[<-e2,<-foldl_rep its k (acc++its),<-e,rF,Iz]
section
variable{X:Cx}{pins:List (aF×Obj)}{σ:qr}{H:Hp}{s:aw}{l b:aF}{xs ys zs:List V}
def Inv.we{its':List ag}{f:Array ag->Array ag}(I:Inv X pins σ H s)(C:H l=some (.lst xs))
  (e:s.heap.get? l=some {cls:= .type "list",data:= .seq its.toArray n}) (hf:f its.toArray=its'.toArray) (hv:Vals ys its') (hz:ys.length<=sizeLine):
  Inv X pins σ (upd H l (.lst ys)) {s with heap:=s.heap.update l (cq f),toks:=t'}:=by
 have q:=PySem.IsL.update e f;rw[hf] at q;refine I.write (x:=l) (e:=l) (by rw[C];exact trivial) (.inl rfl) (λk u hb hu=>(kr s.heap (cq f) (bH hb)).trans hu) ⟨_,q⟩ ?_;exact⟨hz,its',_,hv,q⟩
def Inv.Ih(I:Inv X pins σ H s)(hv:Vals ys its)(hz:ys.length<=sizeLine):
  Inv X pins σ (upd H s.heap.objs.size (.lst ys)) {s with heap:=s.heap.push {cls:= .type "list",data:= .seq its.toArray},toks:=t'}:=
 I.laid (λ_ _ q=>cF _ q) (aW _) ⟨hz,its,0,hv,gk _ rfl⟩
theorem Inv.fresh(I:Inv X pins σ H s):H s.heap.objs.size=none:=I.hok.fresh (aW _)
def Inv.nJ(I:Inv X pins σ H s)(C:H l=some (.lst xs)):xs.length<=sizeLine/\∃(its:List ag) (n:Nat),Vals xs its/\xs.length=its.length/\s.heap.get? l=some {cls:= .type "list",data:= .seq its.toArray n}:=by
 obtain⟨z,its,n,r,e⟩:=I.hok l _ C;exact⟨z,its,n,r,r.length,e⟩
theorem RS(h:n<=sizeLine):fH n=false:=by
 unfold fH;exact decide_eq_false ∅
end
section
variable{X:Cx}
def C3:V->List V->Hp->VK->Prop:=λx vs H Q=>∃l xs y,x= .ref l/\vs=[y]/\H l=some (.lst xs)/\xs.length<sizeLine/\Q .aP (upd H l (.lst (xs++[y])))
theorem vU:t9 X "list.append" C3:=by
 intro pins s σ H x vs v us Q I rx rv h;obtain⟨l,xs,y,rfl,rfl,C,hz,q⟩:=h;cases rx;obtain⟨u,rfl,G⟩:=rv.one;obtain⟨z,its,n,r,hl,e⟩:=I.nJ C;refine jf xK ⟨_,e,rfl⟩ F.entry_list_append (F.args_list_append_2 _ _) (PySem.list_append l its.toArray n u (by rw[cY];omega)) ⟨e,?_⟩;refine⟨.aP,_,I.we (its':=its++[u]) C e (by simp) (r.append (.cons G .nil)) ?_,rfl,q⟩;rw[fk,i9];omega
def P4:V->List V->Hp->VK->Prop:=λx vs H Q=>∃l xs y,x= .ref l/\vs=[]/\H l=some (.lst xs)/\xs[xs.length-1]?=some y/\Q y (upd H l (.lst xs.dropLast))
theorem E5:t9 X "list.pop" P4:=by
 intro pins s σ H x vs v us Q I rx rv h;obtain⟨l,xs,y,rfl,rfl,C,hy,q⟩:=h;cases rx;have Fz:=rv.zero;subst Fz;obtain⟨z,its,n,r,hl,e⟩:=I.nJ C;obtain⟨u,hu,G⟩:=r.get hy;have j:its.toArray[its.toArray.size-1]?=some u:=by
  show its.toArray[its.length-1]?=some u;rw[<-lU,<-hl];exact hu
 refine jf QZ ⟨_,e,rfl⟩ oI (F.args_list_pop_1 _) (MeetsSeq.list_pop_last l its.toArray n u j (by rw[cY];omega)) ⟨e,?_⟩;refine⟨y,_,I.we (its':=its.dropLast) C e ?_ r.dropLast ?_,G,q⟩
 .show its.toArray.eraseIdxIfInBounds (its.toArray.size-1)=its.dropLast.toArray;rw[cY,Rk,YY]
 .rw[Qz];omega
def Qq:V->List V->Hp->VK->Prop:=λx vs H Q=>∃l xs i k y,x= .ref l/\vs=[.int i]/\H l=some (.lst xs)/\ -(2^63)<=i/\i<2^63/\pY i xs.length=some k/\xs[k]?=some y/\Q y (upd H l (.lst (xs.eraseIdx k)))
theorem UE:t9 X "list.pop" Qq:=by
 intro pins s σ H x vs v us Q I rx rv h;obtain⟨l,xs,i,k,y,rfl,rfl,C,h1,h2,hk,hy,q⟩:=h;cases rx;obtain⟨u,rfl,G⟩:=rv.one;obtain⟨t,rfl⟩:=G;obtain⟨z,its,n,r,hl,e⟩:=I.nJ C;obtain⟨w,hw,b⟩:=r.get hy
 refine jf QZ ⟨_,e,rfl⟩ oI (F.args_list_pop_2 _ _)
  (MeetsSeq.list_pop_at l its.toArray n i t k w (lK h1 h2) (by rw[cY,<-hl];exact hk) (by rw[<-lU];exact hw) (by rw[cY];omega)) ⟨e,?_⟩
 refine⟨y,_,I.we (its':=its.eraseIdx k) C e ?_ (r.eraseIdx k) ?_,b,q⟩
 .show its.toArray.eraseIdxIfInBounds k=(its.eraseIdx k).toArray;rw[Rk]
 .have:=Lf xs k;omega
def Hq:R2:=λx y H Q=>∃l b xs zs,x= .ref l/\y= .ref b/\H l=some (.lst xs)/\H b=some (.lst zs)/\xs.length+zs.length<=sizeLine/\∀p,H p=none->Q (.ref p) (upd H p (.lst (xs++zs)))
theorem ya:dZ X (iq .Add) Hq:=by
 intro pins s σ H x y v u Q I rx ry h;obtain⟨l,b,xs,zs,rfl,rfl,C,T,hz,q⟩:=h;cases rx;cases ry;obtain⟨z,its,n,r,hl,e⟩:=I.nJ C;obtain⟨z2,d,Z,U,hl2,e2⟩:=I.nJ T;refine PySem.P.add_list e e2 ?_ (by rw[cY,cY];omega);have L:its.toArray++d.toArray=(its++d).toArray:=by simp
 rw[L];exact⟨.ref _,_,I.Ih (t':=s.toks) (r.append U) (by rw[fk];omega),rfl,q _ I.fresh⟩
def sE:R2:=λx y H Q=>∃l k xs,x= .ref l/\y= .int k/\H l=some (.lst xs)/\ -(2^63)<=k/\k<2^63/\xs.length*k.toNat<=sizeLine/\
 ∀p,H p=none->Q (.ref p) (upd H p (.lst (ar k.toNat xs).flatten))
def len_rep(xs:List α)(k:Nat):(ar k xs).flatten.length=k*xs.length:=by
 induction k with
 |zero=>simp
 |succ k ih=>rw[rF,wA,fk,ih,u3,Nat.add_comm]
theorem Cw:dZ X (iq .Mult) sE:=by
 intro pins s σ H x y v u Q I rx ry h;obtain⟨l,k,xs,rfl,rfl,C,h1,h2,hz,q⟩:=h;cases rx;obtain⟨t,rfl⟩:=ry;obtain⟨z,its,n,r,hl,e⟩:=I.nJ C;have hlen:its.toArray.size*k.toNat<=sizeLine:=by rw[cY,<-hl];exact hz
 have d:¬its.toArray.size*k.toNat>(2^63-1)/8:=by
  have:(sizeLine:Nat)<=(2^63-1)/8:=⋯
  omega
 have b:¬(!Builtin.List.listFitsIndex k)=true:=by
  rw[lK h1 h2];exact dH
 have f:¬fH (its.toArray.size*k.toNat)=true:=by
  rw[RS hlen];exact dH
 have c:td (λW B=>W++B) #[] (ar (if its.toArray.isEmpty=true then 0 else k.toNat) its.toArray)=(ar k.toNat its).flatten.toArray:=by
  have M:∀m:Nat,td (λW B=>W++B) #[] (ar m its.toArray)=(ar m its).flatten.toArray:=λm=>by
   have:=foldl_rep its m [];rw[List.nil_append] at this;exact this
  rw[M];cases its with
  |nil=>simp
  |cons a r'=>rw[if_neg (by simp)]
 refine wpAny_binaryOp_repeat_ref (T:="list") (U:="int") ⋯ ⟨_,e,rfl⟩ (λs'=>sT s' k t) noFill_list_mul F.fills_int_mul p1 repeat_list F.slot_int_index.lookup
  (call_meets F.slot_int_rmul (typeIs_int s k t) F.entry_int_rmul (F.args_int_rmul_2 _ _) (int___rmul___int_list k t l its.toArray n)
   ⟨e,rfl,⟨_,e,rfl⟩,jf F.slot_list_mul ⟨_,e,rfl⟩ F.entry_list_mul (F.args_list_mul_2 _ _) (mu l its.toArray n k t b d f) ⟨e,?_⟩⟩)
 rw[c];exact⟨.ref _,_,I.Ih (t':=s.toks) (r.rep k.toNat) (by rw[len_rep,uN];exact hz),rfl,q _ I.fresh⟩
end
end L2
namespace Att
open PySem PySem.W PySem.Calls PyProof.Rows
def Yc{P:Params}:∀(ns:List Int) (vs:List ag),WellAll P h vs (ns.map zr)->gT vs ns:=by
  intro ns;induction ns with
  | nil =>
    intro vs w;rw[nR] at w;cases w;exact .nil
  | cons n ns ih =>
    intro vs w;rw[bG] at w;cases w with
    | cons a b =>
      cases a;exact .cons _ _ (ih _ b)
theorem UP{l:OpenLaw}(hn:l.most=some n){P:Params}{h:eo}{args:List WData}{vals:List ag}
    (b:l.row.toRowW.claim.pre args=true) (hwl:WellAll P h vals args):
    ∃a vs ns,vals=[bo a]/\args=[WData.list (ns.map zr)]/\h.get? a=some {cls:= .type "list",data:= .seq vs.toArray}/\gT vs ns/\ns.length<=n:=by
  have f:WShape.hasAll [] args [.list .int]=true:=(pre_splitW b).1;have hc:l.pre.holds [] {args:=args}=true:=(pre_splitW b).2;obtain⟨d,r,rfl,h1,h2⟩:=hasAllW_cons f;obtain rfl:=hasAllW_nil h2;obtain⟨xs,rfl,h3⟩:=hasW_list h1;obtain⟨ns,rfl⟩:=items_int h3;have hlen:ns.length<=n:=by
    unfold OpenLaw.pre at hc;have h4:(WTm.not (.lt (.lit (.int (n:Int))) (.len (.arg 0)))).holds [] {args:=[.list (ns.map .int)]}=true:=by
      have h4:=(holds_andW hc).1;rw[hn] at h4;exact h4
    have h5:=condW_of h4 (w_not (w_lt w_lit (w_len_list (w_arg rfl))));rw[ao] at h5;refine FH λq=>?_;have L:(n:Int)<((ns.length:Nat):Int):=∅
    first
      |(rw[decide_eq_true L] at h5;exact absurd h5 ⋯)
      |(simp at h5;omega)
  cases hwl with
  | cons w1 w2 =>
    cases w2;cases w1 with
    |list ho o=>exact⟨_,_,ns,rfl,rfl,ho,Yc ns _ o,hlen⟩
def aaJ(l:OpenLaw)(args:List WData):l.row.toRowW.claim.post args (.bool true) args=true:=
 postW_of (r:=l.row.toRowW) (X:=(true==true))
  (show y0 [] (.bool true) .bool=true by first|rfl|decide|simp[y0,WShape.arms,WShape.armsAll])
  (show(WTm.eq .res (.lit (.bool true))).value [] {args:=args,res:=some (.bool true),after:=args}=some (.bool (true==true)) from w_eq_bool (w_res rfl) w_lit) rfl
def YK{l:OpenLaw}{q:bc}{c:List Str}{d:DefRec}
  (hn:l.most=some n) (p:d.params.defaults=[])
  (call : ∀ (w : World) (s₀ s₁ : Shared) (mg mb : Str -> Option Value) (fa : Addr) (o : Obj) (pm t doc : Value) (a : Addr) (vs : List Value) (ns : List Int),
   Ground q c [] A w s₀ mg mb s₁.heap->y w s₁.heap->
   s₁.heap.get? fa=some o->o.data= .func (docDef d.name d.params d.body d.scope pm t doc)->s₁.heap.CodeRec t d.name->mg d.name=some (.ref fa)->
   s₁.heap.get? a=some {cls:= .type "list",data:= .seq vs.toArray}->gT vs ns->ns.length<=n->s₁.gens= #[]->
   codeAny (bj l.prog w) nj (.call (.ref fa) ⟨[.ref a],[]⟩) (λr s'=>r= .ok (.ret (.bool true))/\OldK s₁.heap s'.heap/\s'.os=s₁.os/\kL s'.gens) s₁):
  WalkO q c A y l.row.toRowW d [] (λf vs=>PySem.call f vs):=by
 intro w s₀ s₁ mg mb G Y fa o pm t doc dV kV ho hd hcd hD hmg hg args vals as hpre hlay hrd hwl hlo;obtain rfl:dV= .none:=Dflts.none hD p;obtain rfl:kV= .none:=Dflts.noKw hD;obtain⟨a,vs,ns,rfl,rfl,m,i,hlen⟩:=UP hn hpre hwl;refine enter_call (hU (call w s₀ s₁ mg mb fa o pm t doc a vs ns G Y ho (fd_plain hd) hcd hmg m i hlen hg) λr s' hq=>?_);obtain⟨rfl,h2,h3,h4⟩:=hq;exact⟨.inl ⟨.bool true, .bool true,[],rfl,λ_=>rfl, .bool true,aaJ l _,λ_=>⟨y1,λ_ hm=>(nomatch hm)⟩⟩,h2,h3,h4⟩
section
variable{prog:bc}{w:cx}{A:c3}{E:ag->aw->Prop}{s:aw}{K:Frag}
end
end Att
namespace L2
theorem S9:∀{vs:List ag} {ns:List Int},gT vs ns->Vals (ns.map V.int) vs
 |_,_, .nil=> .nil
 |_,_, .cons n t h=> .cons ⟨t,rfl⟩ (S9 h)
def Jo(H:Hp):Prop:=∀b,H b=none\/∃o xs,H b=some (.cV o (.lst xs))
def XH{P:bc}{K:PySem.W.Frag}{mb:Str->Option ag}{CX:nh}{k:Nat}{fa:aF}{x:Str}{s₁:aw}{vs:List ag}
    (KX:K.In s₁.heap) (i:s₁.heap.Ns ba mg) (hb:s₁.heap.Ns sk mb) (B:∀x:Str,x≠"__name__" ->mb x=hH x) (f:s₁.heap.NoLimit) (hg:s₁.gens= #[])
    (ha:s₁.heap.get? a=some {cls:= .type "list",data:= .seq vs.toArray}) (hi:gT vs ns) (hl:ns.length<=sizeLine) (hr:fM k nj)
    (F:∀base:eo,K.In base->base.Ns ba mg->bD P w K mg base CX k fa fd [x] sp) (c:∀(s:aw) (u:ag),pP s fd ⟨[u],[]⟩ [(x,u)])
    (C:∀H:Hp,Jo H->aV K H a (ns.map V.int)->sp [.ref a] H (λv _=>v= .bl true) λ_ _ _=>False)
    (D:∀H e s',CX [] H s₁ (λ_ _ _=>False) e s'->False):
    codeAny (bj P w) nj (.call (.ref fa) ⟨[.ref a],[]⟩) (λr s'=>r= .ok (.ret (.bool true))/\OldK s₁.heap s'.heap/\s'.os=s₁.os/\kL s'.gens) s₁:=by
  have rv:=S9 hi;have aau:=hi.length
  have core:∀H:Hp,Jo H->aV K H a (ns.map V.int)->ff P w H s₁.heap->(∀b,H b≠none->b=a)->(H a≠none->K.lookup a=none)->
      codeAny (bj P w) nj (.call (.ref fa) ⟨[.ref a],[]⟩) (λr s'=>r= .ok (.ret (.bool true))/\OldK s₁.heap s'.heap/\s'.os=s₁.os/\kL s'.gens) s₁:=by
    intro H hO hS hok hA hK;have t:∀{b:aF} {o:Obj},s₁.heap.get? b=some o->H b=none->(nW s₁.heap H).get? b=some o:=λe n=>Nf e n;have g:∀{b:aF} {o:Obj} {es:Array DictEntry} {ep:Nat},s₁.heap.get? b=some o->o.data= .dict es ep->H b=none:=λ{b o es ep} e d=>by
      cases q:H b with
      |none=>rfl
      | some u =>
        have e':b=a:=hA b (by rw[q];simp);subst e';rw[ha] at e;cases e
        have d':yy vs.toArray _=Data.dict es ep:=d;cases d'
    have j:∀{b:aF} {m:Str->Option ag},s₁.heap.Ns b m->(nW s₁.heap H).Ns b m:=λ{b m} ⟨o,es,ep,e,d,r⟩=>⟨o,es,ep,t e (g e d),d,r⟩
    have p:K.In (nW s₁.heap H):=λb o e=>t (KX b o e) (by
      cases q:H b with
      |none=>rfl
      | some u =>
        have e':b=a:=hA b (by rw[q];simp);subst e';rw[hK (by rw[q];simp)] at e;cases e)
    have A:Mod K mg (nW s₁.heap H):=⟨p,j i,⟨mb,j hb,B⟩,let ⟨y,h1,h2⟩:=f;⟨y,j h1,h2⟩⟩;have e0:qw P w K mg (nW s₁.heap H) nj [] s₁ H:=⟨rfl,A,λb o e=>Hk e,sX (Ue _ _),trivial,λb hb=>absurd (show b∈([]:List aF) from hb) (by simp),hok, .of_eq hg⟩;refine hU ((F _ p (j i)).run nj [] s₁ H ⟨[.ref a],[]⟩ [.ref a] [.ref a] _ _ hr e0 (c s₁ (.ref a)) (.cons rfl .nil) (C H hO hS)) λr s' h=>?_;cases r with
    |error e=>exact(D H e s' h).elim
    | ok fl =>
      cases fl with
      |next=>exact el h
      |brk=>exact el h
      |cont=>exact el h
      | ret u =>
        obtain⟨v,H',os,bare,un,l,r',q⟩:=h;have L:v= .bl true:=q;subst L;obtain rfl:u=fb true:=r';refine⟨rfl,OldK.of_keep λb o e=>?_,os,bare⟩;cases q:H b with
        |none=>exact un.keep b o e q (by intro z;exact absurd (show b∈([]:List aF) from z) (by simp)) (by simp)
        | some u =>
          rcases hO b with z|⟨ob,xs,z⟩
          · rw[q] at z;cases z
          · have z2:=un.lY b ob _ z
            obtain⟨e1,_⟩:=hok b _ z;obtain⟨e2,_⟩:=l b _ z2;rw[e] at e1;cases e1
            exact e2
  cases hk:K.lookup a with
  | some o =>
    have e:=KX a o hk;rw[ha] at e;cases e;refine core (λ_=>none) (λ_=> .inl rfl) (.inr ⟨_,vs.toArray,_,hk,rfl,rfl,rfl,by rw[cY,aau];exact hl,by simpa using rv⟩) (λb u z=>by have z':(none:Option HO)=some u:=z;cases z') (λb z=>absurd rfl z) λz=>absurd rfl z
  | none =>
    refine core (λb=>if b=a then some (.cV {cls:= .type "list",data:= .seq vs.toArray} (.lst (ns.map V.int))) else none) (λb=>?_) (.inl (.inr ⟨{cls:= .type "list",data:= .seq vs.toArray},if_pos rfl⟩)) (λb u z=>?_) (λb z=>?_) λ_=>hk
    · by_cases hb:b=a
      · exact .inr ⟨_,_,if_pos hb⟩
      · exact .inl (if_neg hb)
    · by_cases hb:b=a
      · have z':=(if_pos hb).symm.trans z
        cases z';subst hb;exact⟨ha,by rw[ao];exact hl,vs,_,rv,ha⟩
      · have z':=(if_neg hb).symm.trans z
        cases z'
    · by_cases hb:b=a
      · exact hb
      · exact absurd (if_neg hb) z
def Z8{k:Nat}{q:bc}{c:List Str}{d:DefRec}{K:Params->PySem.W.Frag}{CX:cx->nh}{sp:cx->Sp}{x:Str}
  (hn:l.most=some n) (B:n<=sizeLine) (p:d.params.defaults=[]) (hr:fM k nj)
  (Z:∀(w:cx) (h:eo),y w h->(K w.params).In h)
  (F : ∀ (w : World) (mg : Str -> Option Value) (fa : Addr) (h : Heap), (K w.params).In h -> h.Ns mainGlobals mg -> mg d.name = some (.ref fa) ->
   ∃fd:ft,(∀(s:aw) (u:ag),pP s fd ⟨[u],[]⟩ [(x,u)])/\
    ∀base:eo,(K w.params).In base->base.Ns ba mg->bD l.prog w (K w.params) mg base (CX w) k fa fd [x] (sp w))
  (C:∀(w:cx) (H:Hp) (a:aF) (ns:List Int),ns.length<=n->Jo H->aV (K w.params) H a (ns.map V.int)->sp w [.ref a] H (λv _=>v= .bl true) λ_ _ _=>False)
  (D:∀(w:cx) (H:Hp) (s:aw) (e:ag) (s':aw),CX w [] H s (λ_ _ _=>False) e s'->False):
  PySem.W.WalkO q c A y l.row.toRowW d [] (λf vs=>PySem.call f vs):=by
 refine Att.YK hn p λw s₀ s₁ mg mb fa o pm t doc a vs ns G Y ho hd j r m i hlen hg=>?_;have KX:=Z w _ Y;obtain⟨fd,hb,X⟩:=F w mg fa _ KX G.T.g r;exact XH KX G.T.g G.T.b G.T.builtins G.T.nolimit hg m i (dP hlen B) hr X hb (λH z N=>C w H a ns hlen z N) λH e s'=>D w H s₁ e s'
end L2
/-THE LAST THEOREM (shape;LID,My.*are yours):
   My.Adr:a structure of the addresses that your layer names (classes,functions);My.Txt K t:a structure (Prop) of the equations over K;
   My.txt_mk:{K} {implicit addresses ..} (e1:nsIn K ba "law"=some (some (.ref f))) (e2:K.lookup f=some ⟨oc,od, .func (fnOf "law" "law" params body scope dV kV doc pm an cdv ct),sl⟩) (e3:codeIn K cdv "law"=true) .. :∃t,My.Txt K t
(the tactic k_is has no namespace:write k_is)-/
namespace L2
noncomputable def inClass(s:eQ)(j:Nat):eQ:=match s with
 | .ClassDef _ _ _ a _ _ _ _ _ _ _=>a.getD j (.Pass ⟨0,0,0,0⟩)
 |_=> .Pass ⟨0,0,0,0⟩
noncomputable def lT(s:eQ):Arguments:=match s with
 | .FunctionDef _ a _ _ _ _ _ _ _ _=>a
 |_=>{posonlyargs:=[],args:=[],vararg:=none,kwonlyargs:=[],kw_defaults:=[],kwarg:=none,defaults:=[]}
noncomputable def lF(s:eQ):List eQ:=match s with
 | .FunctionDef _ _ b _ _ _ _ _ _ _=>b
 |_=>[]
noncomputable def aJ(s:eQ):hX:=match s with
 | .FunctionDef _ _ _ _ _ _ sc _ _ _=>sc
 |_=>{kind:= .function,names:=[],isGenerator:=false,isCoroutine:=false}
abbrev bM:nh:=λ_ _ _ _ _ _=>False
abbrev E0:XK:=λ_ _ _=>False
def xD:Passes bM X E0:=λ_ _ _ _ _ _ _ h=>h.elim
structure bQ(K:PySem.W.Frag)(x qual:Str)(st:eQ)(f:aF)(fd:ft):Prop where
 ex:∃(oc:ag) (od:Option aF) (kV doc pm:ag) (an:Option aF) (cdv ct:ag) (osl:Array (Option ag)),
  fd=PySem.W.fnOf x qual (lT st) (lF st) (aJ st) .none kV doc pm an cdv ct/\K.lookup f=some ⟨oc,od, .func fd,osl⟩/\PySem.W.codeIn K cdv qual=true
 kp:PySem.W.keepIn K (.ref f)=true
section
variable{P:bc}{w:cx}{K:PySem.W.Frag}{mg:Str->Option ag}{base:eo}
def bQ.ok{x:Str}{st:eQ}{f:aF}{ps:List Str}{k:Nat}(F:bQ K x qual st f fd)(S:cg N ps (aJ st))(len:∀vs H Q E,sp vs H Q E->vs.length=ps.length)
  (c : ∀ (cdv : Value) (A : Around) (outer : List Env) (s : Shared) (H : Hp) (vs : List V) (Q : VK) (E : XK), fM k (A.deeper (envOfC qual (aJ st) s.heap.objs.size f cdv)) -> sp vs H Q E ->
   ∃t,kU (tN bM P w K mg base N qual (aJ st) f cdv A outer s H E).Cg (lF st) t/\t {nx:=λ_ H'=>Q .aP H',rt:=Q} (start N vs) H):bD P w K mg base bM (k+1) f fd ps sp:=by
 obtain⟨oc,od,kV,doc,pm,an,cdv,ct,osl,rfl,lk,j⟩:=F.ex;refine E2 lk j S len λA outer s H vs Q E hr C=>?_;obtain⟨t,h,q⟩:=c cdv A outer s H vs Q E hr C;exact⟨t,h.Cg,q⟩
def bQ.binds{x:Str}{st:eQ}{f:aF}{ps:List Str}(F:bQ K x qual st f fd)
  (h:∀(kV doc pm:ag) (an:Option aF) (cdv ct:ag) (us:List ag),us.length=ps.length->bindArgs (PySem.W.fnOf x qual (lT st) (lF st) (aJ st) .none kV doc pm an cdv ct) ⟨us,[]⟩=pure (ps.zip us)):Binds K fd ps []:=by
 obtain⟨oc,od,kV,doc,pm,an,cdv,ct,osl,rfl,lk,j⟩:=F.ex;exact .all (h kV doc pm an cdv ct)
def uw{x:Str}{st:eQ}{f:aF}{od an:Option aF}{kV doc pm cdv ct:ag}(l:K.lookup f=some ⟨oc,od, .func (PySem.W.fnOf x qual (lT st) (lF st) (aJ st) .none kV doc pm an cdv ct),osl⟩)
  (c:PySem.W.codeIn K cdv qual=true) (k:PySem.W.keepIn K (.ref f)=true):bQ K x qual st f (PySem.W.fnOf x qual (lT st) (lF st) (aJ st) .none kV doc pm an cdv ct):=⟨⟨oc,od,kV,doc,pm,an,cdv,ct,osl,rfl,l,c⟩,k⟩
end
def RW(h:n<=1000):n<sizeLine:=BI h ⋯
section
variable{X:Cx}
def pv(i:Nat){x:Str}{pos:Pos}(hN:X.N[i]?=some x:=by rfl)(hv:Il X.env.scope x:=by first|exact be rfl|exact ee (be rfl)|exact ee (ee rfl))(hd:(x==("__debug__":Str))=false:=by decide)
  (j:(x==("__classdict__":Str))=false:=by decide):PE X (.Name x pos) (bZ i):=SU hN hv hd j
end
def O6{A B:Prop}(h:B):if false=true then A else B:=by
 rw[if_neg dH];exact h
def CM{A B:Prop}(h:A):if true=true then A else B:=by
 rw[if_pos rfl];exact h
def tZ{c A B:Prop}[Decidable c](h1:c->A)(h2:¬c->B):if c then A else B:=by
 by_cases h:c
 .rw[if_pos h];exact h1 h
 .rw[if_neg h];exact h2 h
def dG(H H':Hp):Prop:=∀b o,H b=some o->H' b=some o
def dG.refl(H:Hp):dG H H:=λ_ _ h=>h
def dG.trans{H2:Hp}(a:dG H H1)(b:dG H1 H2):dG H H2:=λc o h=>b c o (a c o h)
def dG.free(e:dG H H'){l:aF}(h:H' l=xi):H l=xi:=by
  cases q:H l with
  |none=>rfl
  | some o =>
    rw[e l o q] at h;cases h
def dG.seq{K:PySem.W.Frag}(e:dG H H')(h:aV K H a xs):aV K H' a xs:=by
 rcases h with (h|⟨o,h⟩)|h
 .exact .inl (.inl (e _ _ h))
 .exact .inl (.inr ⟨o,e _ _ h⟩)
 .exact .inr h
noncomputable def kH(cells:List (Str×aF)):List (Str×eS)->List (Str×aF)->List (Str×aF)
 |[],acc=>acc
 |(n,k)::r,acc=>kH cells r (if k==cm then(match cells.lookup n with|some a=>(n,a)::acc|none=>acc) else acc)
theorem J1{env:Env}{f:Str×eS->List (Str×aF)->Sem (ForInStep (List (Str×aF)))}
    (hf:∀x acc,f x acc=if(x.2==cm)=true then(do let a<-cellOf env x.1;pure (eT ((x.1,a)::acc))) else pure (eT acc)):
    ∀(l:List (Str×eS)) (acc:List (Str×aF)),(∀x∈l,x.2= .free->∃a,env.cells.lookup x.1=some a)->(forIn l acc f:Sem (List (Str×aF)))=pure (kH env.cells l acc)
  |[],acc,_=>by rw[List.forIn_nil];rfl
  | (n, k) :: r, acc, h => by
    have hr:=λx hx=>h x (cM _ hx);rw[List.forIn_cons,hf];by_cases hk:(k==cm)=true
    · have hk':k=cm:=by simpa using hk
      obtain⟨a,ha⟩:=h (n,k) cN hk';have hc:cellOf env n=pure a:=by unfold cellOf;rw[ha]
      rw[if_pos hk,hc];show(forIn r ((n,a)::acc) f:Sem (List (Str×aF)))=pure (kH env.cells r _);rw[J1 hf r _ hr,if_pos hk,ha]
    · rw[if_neg hk]
      show(forIn r acc f:Sem (List (Str×aF)))=pure (kH env.cells r _);rw[J1 hf r _ hr,if_neg hk]
def WB(h:∀x∈scope.names,x.2= .free->∃a,env.cells.lookup x.1=some a):closureFor scope env=pure (kH env.cells scope.names []):=by
 simp only[closureFor];rw[J1 (env:=env) (λ⟨n,k⟩ acc=>by dsimp only) scope.names [] h]
 rfl
theorem C2{cells:List (Str×aF)}:∀{l:List (Str×eS)} {acc:List (Str×aF)} {x:Str} {c:aF},(∀y d,acc.lookup y=some d->cells.lookup y=some d)->(kH cells l acc).lookup x=some c->cells.lookup x=some c
  |[],_,_,_,ha,h=>ha _ _ h
  | (n, k) :: r, acc, x, c, ha, h => by
    refine C2 (l:=r) ?_ h;intro y d hd;by_cases hk:(k==cm)=true
    · rw[if_pos hk] at hd
      cases q:cells.lookup n with
      |none=>rw[q] at hd;exact ha _ _ hd
      | some a =>
        rw[q] at hd;by_cases hy:(y==n)=true
        · have j:y=n:=by simpa using hy
          subst j;simp[fY] at hd;rw[q,hd]
        · have j:(y==n)=false:=by simpa using hy
          simp only[fY,j] at hd;exact ha _ _ hd
    · rw[if_neg hk] at hd;exact ha _ _ hd
theorem OX{cells:List (Str×aF)}:∀{l:List (Str×eS)} {acc:List (Str×aF)} {x:Str},(acc.lookup x).isSome=true->((kH cells l acc).lookup x).isSome=true
  |[],_,_,h=>h
  | (n, k) :: r, acc, x, h => by
    refine OX (l:=r) ?_;by_cases hk:(k==cm)=true
    · rw[if_pos hk]
      cases q:cells.lookup n with
      |none=>exact h
      | some a =>
        by_cases hy:(x==n)=true;· simp[fY,hy]
        · have j:(x==n)=false:=by simpa using hy
          simp only[fY,j];exact h
    · rw[if_neg hk];exact h
theorem LM{cells:List (Str×aF)}:∀{l:List (Str×eS)} {acc:List (Str×aF)} {x:Str} {a:aF},(x,cm)∈l->cells.lookup x=some a->((kH cells l acc).lookup x).isSome=true
  |[],_,_,_,h,_=>nomatch h
  | (n, k) :: r, acc, x, a, h, hc => by
    rcases aY.mp h with e|h
    · obtain⟨rfl,rfl⟩:=Prod.mk.inj e
      refine OX (l:=r) ?_;rw[if_pos ⋯,hc];simp[fY]
    · exact LM (l:=r) h hc
def Tg{l:List (Str×eS)}{x:Str}(h:(x,cm)∈l)(hc:cells.lookup x=some a):(kH cells l []).lookup x=some a:=by
 obtain⟨c,e⟩:=CI.mp (LM (acc:=[]) h hc);have:=C2 (λy d (q:([]:List (Str×aF)).lookup y=some d)=>by simp at q) e;rw[hc] at this;cases this
 exact e
theorem Gs{env:Env}:∀{l:List (Str×eS)} {x:Str} {k:eS},(∀y∈l,y.2≠ .cell)->
    (l.map λ(n,k)=>if(k==cm && env.scope.kind== .function && env.kindOf n==some .cell) then(n,fv) else(n,k)).lookup x=some k->k= .cell\/k= .free->l.lookup x=some .free
  |[],_,_,_,h,_=>by simp at h
  | (n, q) :: r, x, k, hc, h, hk => by
    have hr:=λy hy=>hc y (cM _ hy);have ih:=Gs (env:=env) (l:=r) (x:=x) (k:=k) hr;rw[bG] at h;dsimp only at h;by_cases hx:(x==n)=true
    · simp only[fY,hx]
      by_cases hq:(q==cm && env.scope.kind== .function && env.kindOf n==some .cell)=true
      · have:q= .free:=by
          simp only[fQ] at hq;simpa using hq.1.1
        rw[this]
      · rw[if_neg hq] at h
        simp only[fY,hx] at h;have a:q=k:=fP h;rcases hk with e|e
        · exact absurd (a.trans e) (hc (n,q) cN)
        · rw[a,e]
    · have L:(x==n)=false:=by simpa using hx
      simp only[fY,L];refine ih ?_ hk;by_cases hq:(q==cm && env.scope.kind== .function && env.kindOf n==some .cell)=true
      · rw[if_pos hq] at h
        simp only[fY,L] at h;exact h
      · rw[if_neg hq] at h
        simp only[fY,L] at h;exact h
theorem Tq{env:Env}:∀{l:List (Str×eS)} {x:Str},l.lookup x=some .free->
    (l.map λ(n,k)=>if(k==cm && env.scope.kind== .function && env.kindOf n==some .cell) then(n,fv) else(n,k)).lookup x=some .cell\/
    (l.map λ(n,k)=>if(k==cm && env.scope.kind== .function && env.kindOf n==some .cell) then(n,fv) else(n,k)).lookup x=some .free
  |[],_,h=>by simp at h
  | (n, q) :: r, x, h => by
    have ih:=Tq (env:=env) (l:=r) (x:=x);rw[bG];dsimp only;by_cases hx:(x==n)=true
    · simp only[fY,hx] at h
      by_cases hq:(q==cm && env.scope.kind== .function && env.kindOf n==some .cell)=true
      · rw[if_pos hq]
        left
        simp only[fY,hx]
      · rw[if_neg hq]
        right
        simp only[fY,hx];exact h
    · have L:(x==n)=false:=by simpa using hx
      simp only[fY,L] at h;have:=ih h;by_cases hq:(q==cm && env.scope.kind== .function && env.kindOf n==some .cell)=true
      · rw[if_pos hq]
        simp only[fY,L];exact this
      · rw[if_neg hq]
        simp only[fY,L];exact this
noncomputable def cO(sx:hX)(NX:List Str)(scope:hX)(N:List Str)(mp:List (Option Nat)):Bool:=
 (scope.kind== .function) && scope.names.all (λy=>y.2 != .cell) && scope.names.all (λy=>y.2 != .local||scope.names.lookup y.1==some .local) &&
 scope.names.all (λy=>y.2 != .free||sx.names.lookup y.1==some .cell||sx.names.lookup y.1==some .free) &&(mp.length==N.length) &&
 ((N.zip mp).all λp=>match p.2 with|none=>true|some j=>NX[j]?==some p.1 && scope.names.lookup p.1==some .free)
structure cz(sx:hX)(NX:List Str)(scope:hX)(N:List Str)(mp:List (Option Nat)):Prop where
 kind:scope.kind= .function
 cell:∀y∈scope.names,y.2≠ .cell
 names:∀y∈scope.names,y.2= .local->scope.names.lookup y.1=some .local
 free:∀y∈scope.names,y.2= .free->sx.names.lookup y.1=some .cell\/sx.names.lookup y.1=some .free
 len:mp.length=N.length
 look:∀(i j:Nat) (x:Str),mp[i]?=some (some j)->N[i]?=some x->NX[j]?=some x/\scope.names.lookup x=some .free
def cz.of{sx:hX}(h:cO sx NX scope N mp=true):cz sx NX scope N mp:=by
 unfold cO at h;simp only[fQ,g6] at h;obtain⟨⟨⟨⟨⟨h1,h2⟩,h3⟩,h4⟩,h5⟩,h6⟩:=h;refine⟨by simpa using h1,λy hy=>by simpa using h2 y hy,λy hy e=>?_,λy hy e=>?_,by simpa using h5,λi j x e1 e2=>?_⟩
 .have:=h3 y hy;simpa[e] using this
 .have:=h4 y hy;simpa[e] using this
 .have hm:(x,some j)∈N.zip mp:=by
   have:(N.zip mp)[i]?=some (x,some j):=by
    rw[List.getElem?_zip_eq_some];exact⟨e2,e1⟩
   exact bC this
  have:=h6 _ hm;simpa using this
noncomputable def iA(mp:List (Option Nat))(σ:qr):qr:=mp.map λo=>match o with|none=>none|some j=>match σ[j]? with|some v=>v|none=>none
noncomputable def gD(X:Cx)(scope:hX)(C:aF)(N:List Str)(s₀:aw)(H₀:Hp)(fp:List aF):Cx:=
 {X with N:=N,s₀:=s₀,H₀:=H₀,env:=yB scope (kH X.env.cells scope.names []) C X.env,outer:=X.stack,ex:=fp,fn:=λ_=>false,pn:=[],xe:=λ_ _=>False}
def sM(X:Cx)(E:List eB)(t:TT):Prop:=
 ∀(pins:List (aF×Obj)) (s:aw) (σ:qr) (H:Hp) (Q:Bool->Hp->Prop),Inv X pins σ H s->t σ H Q->
  wpAny (bj X.prog X.w) X.A (forIn E true λc r=>if r=true then do let ok<-isTrue c X.env (eval c X.env);pure (eT ok) else pure (eT r)) (TP X pins σ Q) X.xe s
def sV:TT:=λ_ H Q=>Q true H
def gJ:sM X [] sV:=λpins s σ H Q I h=>wpAny_tests_nil ⟨H,I,h⟩
def iX{c:eB}{t:TT}(h:PT X c t):sM X [c] t:=λpins s σ H Q I q=>wpAny_tests_one (h pins s σ H Q I q)
def qD(J:It)(g:TG)(tc:TT)(te:TE)(acc:aF)(d:Hp->Prop)(σ:qr)(H:Hp):Prop:=∃W:Nat->Nat->qr->Hp->Prop,(∃m,W 0 m σ H)/\∀i m σ H,W i m σ H->
 (J.stop i H /\ d H) \/ (J.go i H /\ ∃ a : qr -> Hp -> Prop, (∀ M H', a M H' -> ∃ O, O < m /\ W (i + 1) O M H') /\ ∀ x H', J.nN i H x H' -> g x σ H' λc H2 => tc c H2 λb H3 =>
  if b=true then te c H3 λv H4=>∃ys,H4 acc=some (.lst ys)/\ys.length<sizeLine/\a c (upd H4 acc (.lst (ys++[v]))) else a c H3)
def mF(F:TI)(g:TG)(tc:TT)(te:TE)(mp:List (Option Nat)):TE:=λσ H Q=>F σ H λJ H1=>∀acc,H1 acc=none->qD J g tc te acc (λH'=>Q (.ref acc) H') (iA mp σ) (upd H1 acc (.lst []))
section
variable{prog:bc}{w:cx}{A:c3}{R:sv->aw->Prop}{s:aw}
def YN{t a l:eB}{E:List eB}{it acc:ag}(I:Nat->aw->Prop)
    (M:∀n s,I n s->wpAny (bj prog w) A (gw it) (λr s₁=>match r with
      |none=>R (.ok .next) s₁
      |some v=>wpAny (bj prog w) A (hZ a it v) (λ_ s₀=>wpAny (bj prog w) A (so a env v) (λ_ d=>
          wpAny (bj prog w) A (forIn E true λc r=>if r=true then do let ok<-isTrue c env (eval c env);pure (eT ok) else pure (eT r)) (λok e=>
            if ok=true then wpAny (bj prog w) A (eval t env) (λx b=>
              wpAny (bj prog w) A (call (.builtin "list.append") [acc,x]) (λ_ g=>∃m,m<n/\I m g) (λ_ _=>False) b) (λ_ _=>False) e
            else∃m,m<n/\I m e) (λ_ _=>False) d) (λ_ _=>False) s₀) (λ_ _=>False) s₁) (λ_ _=>False) s)
    (n:Nat) (h:I n s):
    codeAny (bj prog w) A (.compLoop (.ListComp t [⟨a,l,E,0⟩] scope pos) 0 it acc env) R s:=by
  refine codeAny_loop rfl I (λn s hI=>?_) n h;show wpAny _ A ((compTurn (.ListComp t [⟨a,l,E,0⟩] scope pos) 0 it acc env).onRaise (λx=>do noteFrame x env;theTreesLotGoes x)) _ _ s;refine wpAny_noted ?_;rw[compTurn_list];refine ae (mi (ae (fg (M n s hI) (λr s₁ h₁=>?_) λ_ _ h'=>h'.elim)));cases r with
  |none=>exact ax h₁
  | some v =>
    refine ae (fg h₁ (λ_ s₀ h₀=>?_) λ_ _ h'=>h'.elim);refine ae (fg h₀ (λ_ d i=>ae (fg i (λok e f=>?_) λ_ _ h'=>h'.elim)) λ_ _ h'=>h'.elim);cases ok with
    |false=>exact ax ⟨rfl,f⟩
    | true =>
      exact ae (ae (fg f (λx b k=>ae (fg k (λ_ g j=>ax (ax ⟨rfl,j⟩)) λ_ _ h'=>h'.elim)) λ_ _ h'=>h'.elim))
end
section
variable{X:Cx}
def NJ{t l:eB}{E:List eB}{pos':Pos}{F:TI}{g:TG} {Q:VK} {QQ:ag->aw->Prop}
    (ok:cz X.env.scope X.N scope N mp) (hc:X.calm=true) (hi:PI X tg l F)
    (hb:∀C s₀ H₀ fp,PG (gD X scope C N s₀ H₀ fp) tg g/\sM (gD X scope C N s₀ H₀ fp) E tc/\PE (gD X scope C N s₀ H₀ fp) t te)
    (hs:∀x,fq l X.env x=pure x) (I:Inv X pins σ H s) (h:mF F g tc te mp σ H Q)
    (fin:∀acc C H' s' m,Inv X pins σ H' s'->jC X pins H' C->s'.heap.Ns C m->Q (.ref acc) H'->yH (bj X.prog X.w) X.A X.xe use QQ (.ref acc) C (.ok .next) s'):
    wpAny (bj X.prog X.w) X.A (comprehension (.ListComp t [⟨tg,l,E,0⟩] scope pos) scope X.env pos' (xk []) false (eval l X.env) use) QQ X.xe s:=by
  have f:∀x∈scope.names,x.2= .free->∃a,X.env.cells.lookup x.1=some a:=λx hx e=>I.ok.has x.1 (ok.free x hx e);refine wpAny_comprehension_free (use:=use) rfl hs (WB f) ok.kind ok.names (aT (hi pins s σ H _ I h) λv s1 h1=>aT h1 λitv s2 h2=>?_);obtain⟨it,fp,tn,J,H2,e,I2,T,P,f2,hW⟩:=h2;subst e;refine ea (wpAny_newFunctionEnv ok.cell (by intro y hy;simp at hy) (λh₁ J8 Kg=>?_) ok.kind);dsimp only at J8 Kg⊢;have I3:=I2.Ih (its:=[]) (ys:=[]) (t':=s2.toks) .nil (gE _);have hW:=hW s2.heap.objs.size I2.fresh;obtain⟨W,⟨m0,w0⟩,M⟩:=hW;generalize EZ:s2.heap.push {cls:= .type "list",dict:=none,data:= .seq ([]:List ag).toArray}=D at J8 Kg⊢;have I3:Inv X pins σ (upd H2 s2.heap.objs.size (.lst [])) {s2 with heap:=D}:=by rw[<-EZ];exact I3
  generalize hH3:upd H2 s2.heap.objs.size (.lst [])=H3 at I3 w0;have hC:D.objs.size=s2.heap.objs.size+1:=by rw[<-EZ,lH]
  have old:∀b o,D.get? b=some o->h₁.get? b=some o:=λb o e=>Kg.extBut b o (dz (bN e)) (cF _ e);have mR:∀b∈fp,b<s2.heap.objs.size:=λb hb=>by
    obtain⟨o,e,_⟩:=T.obj 0 _ P b hb;exact bN e
  have fH3:∀b∈fp,H3 b=none:=λb hb=>by
    rw[<-hH3,aH (dz (mR b hb))];exact(f2 b hb).1
  have u9:∀{x:Str} {c:aF},(kH X.env.cells scope.names []).lookup x=some c->X.env.cells.lookup x=some c:=λ{x c} e=>C2 (λy d q=>by simp at q) e;have BD:(gD X scope D.objs.size N {s2 with heap:=D} H3 fp).Ok:=by
    refine⟨I2.ok.mod,ok.kind,I2.ok.glob,I2.ok.blt,aW _,λx y c e1 e2=>I2.ok.inj x y c (u9 e1) (u9 e2),λx hx=>?_,(λx c e=>absurd (show false=true from e) ⋯),I2.ok.hd,I2.ok.frames, .inl rfl,λb hb=>?_,I3.bs,dP I3.ok.qg I3.sz,λb o e hb=>?_,λb hb hz=>?_,I3.stack,I3.Rj⟩
    · have L:scope.names.lookup x=some .free:=by
        rcases hx with hx|hx
        · exact Gs ok.cell hx (.inl rfl)
        · exact Gs ok.cell hx (.inr rfl)
      have hm:=q9 L;obtain⟨a,ha⟩:=f _ hm rfl;exact⟨a,Tg hm ha⟩
    · refine⟨λz=>?_,λx c e=>(f2 b hb).2.2.2.2.1 x c (u9 e)⟩
      have z':b=D.objs.size:=z;have q:=mR b hb;rw[z',hC] at q;exact absurd q (y3.mpr (qQ _))
    · rcases(f2 b hb).2.2.2.1 with z|z
      · exact I2.ok.vD b o e z
      · exact absurd (eK (bN (I2.ok.bs b o e).1) z) (i7 _)
    · rcases aY.mp (I2.Im b hz) with z|z
      · exact(f2 b hb).2.1 z
      · exact(f2 b hb).2.2.1 z
  have IY:Inv (gD X scope D.objs.size N {s2 with heap:=D} H3 fp) [] (iA mp σ) H3 {s2 with heap:=h₁,toks:=s2.toks+([]:List (Str×ag)).length}:=by
    refine⟨BD,rfl,I2.bare,Un.kept old,⟨_,J8,λi x v e1 e2 e3=>?_⟩,λx c e=>?_,I3.hok.fresh (aW _),λx c e=>I3.kJ x c (u9 e),λp hp=>absurd (show p∈([]:List (aF×Obj)) from hp) (by simp),I3.hok.kept old,?_⟩
    · have hj:∃j,mp[i]?=some (some j)/\σ[j]?=some (some v):=by
        unfold iA at e2;rw[bw] at e2;cases q:mp[i]? with
        |none=>rw[q] at e2;cases e2
        | some o =>
          rw[q] at e2;cases o with
          |none=>cases e2
          | some j =>
            refine⟨j,rfl,?_⟩;have e2:(match σ[j]? with|some v=>v|none=>none)=some v:=fP e2;cases r:σ[j]? with
            |none=>rw[r] at e2;cases e2
            | some u =>
              rw[r] at e2;have e2:u=some v:=e2;rw[e2]
      obtain⟨j,hj1,hj2⟩:=hj;obtain⟨l1,l2⟩:=ok.look i j x hj1 e1;have hm:=q9 l2;have kx:=ok.free _ hm rfl;obtain⟨mm,_,hl⟩:=I3.loc;obtain⟨u,G,lk⟩:=hl j x v l1 hj2 (kx.elim (λz=> .inr (.inl z)) λz=> .inr (.inr z));refine⟨u,G, .inr ⟨Tq l2,?_⟩⟩;rcases lk with ⟨k,_⟩|⟨_,c,e,z⟩
      · exfalso
        have k':X.env.scope.names.lookup x=some .local:=k;rcases kx with kx|kx
        · rw[k'] at kx;cases kx
        · rw[k'] at kx;cases kx
      · refine⟨c,Tg hm e,?_⟩
        obtain⟨o,ho,hd⟩:=z;exact⟨o,old c o ho,hd⟩
    · obtain⟨v,o,ho,hd⟩:=I3.cell x c (u9 e)
      exact⟨v,o,old c o ho,hd⟩
    · show(iA mp σ).length=N.length
      unfold iA;rw[ao,ok.len]
  have pO:∀{H':Hp},(∀b∈fp,H' b=none)->∀b∈fp,jC (gD X scope D.objs.size N {s2 with heap:=D} H3 fp) [] H' b:=λ{H'} hn b hb=>
    ⟨hn b hb,(BD.AG b hb).1,BD.uS b hb, .inl hb,(BD.AG b hb).2,λp hp=>absurd (show p∈([]:List (aF×Obj)) from hp) (by simp)⟩
  have Rt:tn 0 h₁:=T.keep 0 _ _ P λb hb o e=>old b o (by rw[<-EZ];exact cF _ e)
  have loop:codeAny (bj X.prog X.w) X.A (.compLoop (.ListComp t [⟨tg,l,E,0⟩] scope pos) 0 (.ref it) (.ref s2.heap.objs.size) (yB scope (kH X.env.cells scope.names []) D.objs.size X.env))
      (yH (bj X.prog X.w) X.A X.xe use QQ (.ref s2.heap.objs.size) D.objs.size) {s2 with heap:=h₁,toks:=s2.toks+([]:List (Str×ag)).length}:=by
    obtain⟨hg,ht,he⟩:=hb D.objs.size {s2 with heap:=D} H3 fp;generalize Z:gD X scope D.objs.size N {s2 with heap:=D} H3 fp=Y at hg ht he IY pO;have yp:Y.prog=X.prog:=by rw[<-Z];rfl
    have yw:Y.w=X.w:=by rw[<-Z];rfl
    have yK:Y.K=X.K:=by rw[<-Z];rfl
    have yA:Y.A=X.A:=by rw[<-Z];rfl
    have yc:Y.calm=true:=by rw[<-Z];exact hc
    have yx:Y.xe=λ_ _=>False:=by rw[<-Z];rfl
    have Sf:Y.env=yB scope (kH X.env.cells scope.names []) D.objs.size X.env:=by rw[<-Z];rfl
    rw[<-Sf];refine YN (λn s'=>∃i σ' H',Inv Y [] σ' H' s'/\tn i s'.heap/\(∀b∈fp,H' b=none)/\W i n σ' H') ?_ m0 ⟨0,_,H3,IY,Rt,fH3,w0⟩;rintro n s3 ⟨i,σ3,H4,I4,st3,fr3,w3⟩;rcases M i n σ3 H4 w3 with ⟨stop,qn⟩|⟨go,Nx,hN,step⟩
    · have q0:=T.done Y yp yw yK yc i [] s3 σ3 H4 (λ_ _=>False) I4 (pO fr3) st3 stop
      rw[yA] at q0;refine aT q0 λr s4 ⟨hr,I5⟩=>?_;subst hr;show yH (bj X.prog X.w) X.A X.xe use QQ (.ref s2.heap.objs.size) D.objs.size (.ok .next) s4;obtain⟨m,hm,_⟩:=id I5.loc;have yl:Y.env.locals=D.objs.size:=by rw[Sf];rfl
      rw[yl] at hm;have fC:H4 D.objs.size=none:=by have:=I5.free;rw[yl] at this;exact this
      have ub:=I5.base;have ub':Un (frs X.stack) fp H3 H4 D s4.heap:=by rw[<-Z] at ub;exact ub
      have B:s4.os=s2.os:=by have:=I5.os;rw[<-Z] at this;exact this
      have Zh:ff X.prog X.w H4 s4.heap:=by have:=I5.hok;rw[yp,yw] at this;exact this
      have IX:Inv X pins σ H4 s4:=I3.Vu (ch:=fp) B ub' Zh I5.bare λb hb=>⟨(f2 b hb).2.2.2.1,(f2 b hb).2.1,(f2 b hb).2.2.2.2.1,(f2 b hb).2.2.2.2.2⟩;exact fin _ _ H4 s4 m IX (I3.qU (aW _) fC) hm qn
    · have q0:=T.item Y yp yw yK yc i [] s3 σ3 H4 (λ_ _=>False) I4 (pO fr3) st3 go
      rw[yA] at q0;refine aT q0 λr s4 ⟨u,hr,h4⟩=>?_;subst hr;refine aT h4 λ_ s5 ⟨x,H5,I5,r5,y5,rK,Ht⟩=>?_;have EJ:=I5.pinned (pO Ht) (T.obj _ _ rK);rw[<-yx,<-yp,<-yw,<-yA];refine aT (hg _ s5 σ3 H5 x u _ EJ r5 (step x H5 y5)) λ_ s6 ⟨wF,H6,I6,q6⟩=>?_;refine aT (ht _ s6 wF H6 _ I6 q6) λb s7 ⟨U,R,S⟩=>?_;have again:∀{w9:qr} {V:Hp} {s8:aw},Inv Y ([]++wJ fp s5.heap) w9 V s8->Nx w9 V->∃m,m<n/\∃i σ' H',Inv Y [] σ' H' s8/\tn i s8.heap/\(∀b∈fp,H' b=none)/\W i m σ' H':=λ{w9 V s8} I8 n8=>by
        obtain⟨O,hm,w8⟩:=hN w9 V n8;refine⟨O,hm,i+1,w9,V,I8.yf,T.keep _ _ _ rK λb hb o e=>(I8.pin (b,o) (jI _ (jI _ (Bu hb e)))).1,λb hb=>?_,w8⟩;obtain⟨o,e,d⟩:=T.obj _ _ rK b hb;exact(I8.pin (b,o) (jI _ (jI _ (Bu hb e)))).2.1
      cases b with
      | false =>
        rw[if_neg dH];rw[if_neg dH] at S;exact again R S
      | true =>
        rw[if_pos rfl];rw[if_pos rfl] at S;refine aT (he _ s7 wF U _ R S) λv s8 ⟨y,V,I8,r8,ys,e8,z8,n8⟩=>?_;refine aT (vU _ s8 wF V (.ref s2.heap.objs.size) [y] (.ref s2.heap.objs.size) [v] (λ_ H9=>H9=upd V s2.heap.objs.size (.lst (ys++[y]))) I8 rfl (.cons r8 .nil) ⟨_,ys,y,rfl,rfl,e8,z8,rfl⟩) λv9 s9 ⟨y9,H9,I9,r9,e9⟩=>?_;subst e9;exact again I9 n8
  refine codeAny_compStart_list loop (T.self _ _ _ _ _ Rt loop)
theorem jC.turned{pins:List (aF×Obj)}{s:aw}{σ:qr}{H:Hp}{C:aF}{h':eo}(I:Inv X pins σ H s)(f:jC X pins H C)(hs:da C s.heap h'):Inv X pins σ H {s with heap:=h'}:=
 I.turned (t':=s.toks) (λb o hb e=>(hs.2 b hb).trans e) f.1 f.2.1 f.2.2.2.1 f.2.2.2.2.1 f.2.2.2.2.2
def dY{t l:eB}{E:List eB}{F:TI}{g:TG}
  (ok:cz X.env.scope X.N scope N mp) (hi:PI X tg l F)
  (hb:∀C s₀ H₀ fp,PG (gD X scope C N s₀ H₀ fp) tg g/\sM (gD X scope C N s₀ H₀ fp) E tc/\PE (gD X scope C N s₀ H₀ fp) t te) (hc:X.calm=true:=by rfl)
  (hs:∀x,fq l X.env x=pure x:=by intro _;rfl):PE X (.ListComp t [⟨tg,l,E,0⟩] scope pos) (mF F g tc te mp):=by
 intro pins s σ H Q I h;rw[eval_ListComp];refine NJ (use:=none) ok hc hi hb hs I h λacc C H' s' m b f hn q=>?_;exact⟨m,hn,λh' d=>⟨.ref acc,H',f.turned b d,rfl,q⟩⟩
def ve(i:Nat)(t:TE):TS:=λD σ H=>t σ H λv H'=>D.nx (σ.set i (some v)) H'
def nu{t l:eB}{E:List eB}{c j:Pos}{F:TI}{g:TG}{y:Str}
  (hN:X.N.Nodup) (hy:X.N[i]?=some y) (hk:X.env.kindOf y=some .local)
  (ok:cz X.env.scope X.N scope N mp) (hi:PI X tg l F)
  (hb:∀C s₀ H₀ fp,PG (gD X scope C N s₀ H₀ fp) tg g/\sM (gD X scope C N s₀ H₀ fp) E tc/\PE (gD X scope C N s₀ H₀ fp) t te) (hc:X.calm=true:=by rfl)
  (k:pE (.ListComp t [⟨tg,l,E,0⟩] scope pos) (some (.Name y j)) c.line X.env=pure true:=by rfl)
  (hs:∀x,fq l X.env x=pure x:=by intro _;rfl):PS X (.Assign [.Name y j] (.ListComp t [⟨tg,l,E,0⟩] scope pos) c) (ve i (mF F g tc te mp)):=by
 intro pins s σ H D I h;rw[exec_Assign_Name_used _ _ _ _ k];refine ae (mi (ae ?_));show wpAny _ X.A (do let _<-comprehension (.ListComp t [⟨tg,l,E,0⟩] scope pos) scope X.env _ (xk []) false (eval l X.env) (some (so (.Name y j) X.env))) _ _ s;refine ae (fg (NJ (use:=some (so (.Name y j) X.env)) (QQ:=λ_ s'=>SP X pins D .next s') ok hc hi hb hs I h λacc C H' s' m b f hn q=>?_) (λ_ s' hq=>ax (ax hq)) λ_ _ e=>e);refine mS (Q8 (v:= .ref acc) b hN hy (.inl hk) rfl (λs2 I2 ⟨a,sb,ha⟩=>?_) (.inr hk));have J:C≠a:=by
  rcases ha with z|z
  .rw[z];exact f.2.1
  .exact λe=>f.2.2.2.2.1 y a z e.symm
 exact⟨m,hn.sameBut sb J,λh' d=>⟨_,H',f.turned I2 d,q⟩⟩
end
def Sm(i:Int):Prop:= -(2^300)<i/\i<2^300
theorem DY{i:Int}(h:Sm i):ib i<=2^20:=by
 obtain⟨h1,h2⟩:=h;unfold ib;split;·exact gE _
 .rename_i h0
  have hn:i.natAbs≠0:=by
   intro e;apply h0;simp;omega
  have h3:i.natAbs<2^300:=∅
  have h4:i.natAbs.log2<300:=(xl hn).mpr h3;have:(2:Nat)^20=1048576:=⋯
  omega
theorem UJ{y:Int}(h:Sm y):Builtin.divisionGoesByPylong x y=false:=by
 refine PyProof.noPylong_of_log2 ?_;obtain⟨h1,h2⟩:=h;by_cases h0:y.natAbs=0;·rw[h0];decide+kernel
 .have h3:y.natAbs<2^300:=∅
  have h4:y.natAbs.log2<300:=(xl h0).mpr h3;omega
section
variable{X:Cx}
theorem vA:dZ X (iq .FloorDiv) (rI (λ_ j=>0<j/\Sm j) λi j=> .int (i/j)):=zW λi j _ _ _ _ _ hc q=>
 floordiv_int ∅ (by rw[Int.fdiv_eq_ediv_of_nonneg _ ∅];exact q) (.inl (UJ hc.2))
def Uq:uP X "int.bit_length" (λx xs H Q=>∃i,x= .int i/\xs=[]/\Q (.int (ib i)) H):=by
 intro pins s σ H x xs v us Q I rx rv h;obtain⟨i,rfl,rfl,q⟩:=h;obtain⟨t,rfl⟩:=rx;cases rv;exact call_int_bit_length ⟨.int _,H,I.tok _,⟨_,rfl⟩,q⟩
def jF(K:PySem.W.Frag):List V->Hp->VK->Prop:=λxs H Q=>∃x T t b,xs=[x, .ty T]/\jX K H x t/\PySem.W.kitOne K t (.type T)=some b/\Q (.bl b) H
def k9:iF X (.builtin "isinstance") (jF X.K):=by
 intro pins s σ H xs us Q I rv h;obtain⟨x,T,t,b,rfl,ty,e,q⟩:=h;obtain⟨u,v,rfl,G,rv⟩:=rv.two;cases (show v=dE T from rv);exact He I G ty e λtk=>⟨.bl b,H,I.tok tk,rfl,q⟩
def vZ:PyData->Key->Prop
 | .int i,k=>k= .inl i
 | .str x,k=>k= .inr x
 |_,_=>False
mutual
def ai(nb:aF->Prop)(H:Hp):PyData->V->Prop
 | .none,v=>v= .aP
 | .bool b,v=>v= .bl b
 | .int i,v=>v= .int i
 | .str x,v=>v= .str x
 | .list ds,v=>∃a xs,v= .ref a/\¬nb a/\H a=some (.lst xs)/\af nb H ds xs
 | .tuple ds,v=>∃a xs,v= .ref a/\¬nb a/\H a=some (.tup xs)/\af nb H ds xs
 | .dict kvs,v=>∃a ps,v= .ref a/\¬nb a/\Rd H a (.dK ps)/\ay nb H kvs ps
termination_by structural d=>d
def af(nb:aF->Prop)(H:Hp):List PyData->List V->Prop
 |[],xs=>xs=[]
 |d::ds,xs=>∃y ys,xs=y::ys/\ai nb H d y/\af nb H ds ys
termination_by structural d=>d
def ay(nb:aF->Prop)(H:Hp):List (PyData×PyData)->List (Key×V)->Prop
 |[],xs=>xs=[]
 |d::ds,xs=>∃p ys,xs=p::ys/\cJ nb H d p/\ay nb H ds ys
termination_by structural d=>d
def cJ(nb:aF->Prop)(H:Hp):PyData×PyData->Key×V->Prop
 |(k,d),p=>vZ k p.1/\ai nb H d p.2
termination_by structural d=>d
end
def bP(nb:aF->Prop)(H H':Hp):Prop:=∀a o,¬nb a->H a=some o->H' a=some o
def Nb(b:aF):aF->Prop:=λa=>a=b
section
variable{nb bq:aF->Prop}{H H1 H2 H':Hp}{a b c p:aF}{o:HO}{xs:List V}
def bP.refl(nb:aF->Prop)(H:Hp):bP nb H H:=λ_ _ _ h=>h
def bP.trans(x:bP nb H H1)(y:bP nb H1 H2):bP nb H H2:=λa o n h=>y a o n (x a o n h)
def bP.of(x:dG H H'):bP nb H H':=λa o _ h=>x a o h
def bP.set(h:nb p):bP nb H (upd H p o):=λa u n q=>by rw[aH (λe=>n (by rw[e];exact h))];exact q
def bP.rd{u:HO}(x:bP nb H H')(n:¬nb a)(h:Rd H a u):Rd H' a u:=by
 rcases h with h|⟨o,h⟩
 .exact .inl (x _ _ n h)
 .exact .inr ⟨o,x _ _ n h⟩
end
mutual
theorem ai.keep{nb:aF->Prop}{H H':Hp}(x:bP nb H H'):∀{d:PyData} {v:V},ai nb H d v->ai nb H' d v
 | .none,_,h=>by unfold ai at h⊢;exact h
 | .bool _,_,h=>by unfold ai at h⊢;exact h
 | .int _,_,h=>by unfold ai at h⊢;exact h
 | .str _,_,h=>by unfold ai at h⊢;exact h
 | .list ds,_,h=>by unfold ai at h⊢;obtain⟨a,xs,e,n,s,r⟩:=h;exact⟨a,xs,e,n,x _ _ n s,af.keep x r⟩
 | .tuple ds,_,h=>by unfold ai at h⊢;obtain⟨a,xs,e,n,s,r⟩:=h;exact⟨a,xs,e,n,x _ _ n s,af.keep x r⟩
 | .dict kvs,_,h=>by unfold ai at h⊢;obtain⟨a,xs,e,n,s,r⟩:=h;exact⟨a,xs,e,n,x.rd n s,ay.keep x r⟩
theorem af.keep{nb:aF->Prop}{H H':Hp}(x:bP nb H H'):∀{ds:List PyData} {vs:List V},af nb H ds vs->af nb H' ds vs
 |[],_,h=>by unfold af at h⊢;exact h
 |d::ds,_,h=>by unfold af at h⊢;obtain⟨y,ys,e,h1,h2⟩:=h;exact⟨y,ys,e,ai.keep x h1,af.keep x h2⟩
theorem ay.keep{nb:aF->Prop}{H H':Hp}(x:bP nb H H'):∀{ds:List (PyData×PyData)} {vs:List (Key×V)},ay nb H ds vs->ay nb H' ds vs
 |[],_,h=>by unfold ay at h⊢;exact h
 |d::ds,_,h=>by unfold ay at h⊢;obtain⟨y,ys,e,h1,h2⟩:=h;exact⟨y,ys,e,cJ.keep x h1,ay.keep x h2⟩
theorem cJ.keep{nb:aF->Prop}{H H':Hp}(x:bP nb H H'):∀{d:PyData×PyData} {v:Key×V},cJ nb H d v->cJ nb H' d v
 |(k,d),_,h=>by unfold cJ at h⊢;exact⟨h.1,ai.keep x h.2⟩
end
mutual
theorem ai.av{nb bq:aF->Prop}{H:Hp}(x:∀a,bq a->nb a):∀{d:PyData} {v:V},ai nb H d v->ai bq H d v
 | .none,_,h=>by unfold ai at h⊢;exact h
 | .bool _,_,h=>by unfold ai at h⊢;exact h
 | .int _,_,h=>by unfold ai at h⊢;exact h
 | .str _,_,h=>by unfold ai at h⊢;exact h
 | .list ds,_,h=>by unfold ai at h⊢;obtain⟨a,xs,e,n,s,r⟩:=h;exact⟨a,xs,e,λz=>n (x a z),s,af.av x r⟩
 | .tuple ds,_,h=>by unfold ai at h⊢;obtain⟨a,xs,e,n,s,r⟩:=h;exact⟨a,xs,e,λz=>n (x a z),s,af.av x r⟩
 | .dict kvs,_,h=>by unfold ai at h⊢;obtain⟨a,xs,e,n,s,r⟩:=h;exact⟨a,xs,e,λz=>n (x a z),s,ay.av x r⟩
theorem af.av{nb bq:aF->Prop}{H:Hp}(x:∀a,bq a->nb a):∀{ds:List PyData} {vs:List V},af nb H ds vs->af bq H ds vs
 |[],_,h=>by unfold af at h⊢;exact h
 |d::ds,_,h=>by unfold af at h⊢;obtain⟨y,ys,e,h1,h2⟩:=h;exact⟨y,ys,e,ai.av x h1,af.av x h2⟩
theorem ay.av{nb bq:aF->Prop}{H:Hp}(x:∀a,bq a->nb a):∀{ds:List (PyData×PyData)} {vs:List (Key×V)},ay nb H ds vs->ay bq H ds vs
 |[],_,h=>by unfold ay at h⊢;exact h
 |d::ds,_,h=>by unfold ay at h⊢;obtain⟨y,ys,e,h1,h2⟩:=h;exact⟨y,ys,e,cJ.av x h1,ay.av x h2⟩
theorem cJ.av{nb bq:aF->Prop}{H:Hp}(x:∀a,bq a->nb a):∀{d:PyData×PyData} {v:Key×V},cJ nb H d v->cJ bq H d v
 |(k,d),_,h=>by unfold cJ at h⊢;exact⟨h.1,ai.av x h.2⟩
end
mutual
theorem ai.fresh{nb:aF->Prop}{H:Hp}{p:aF}(hp:H p=none):∀{d:PyData} {v:V},ai nb H d v->ai (λa=>nb a\/a=p) H d v
 | .none,_,h=>by unfold ai at h⊢;exact h
 | .bool _,_,h=>by unfold ai at h⊢;exact h
 | .int _,_,h=>by unfold ai at h⊢;exact h
 | .str _,_,h=>by unfold ai at h⊢;exact h
 | .list ds,_,h=>by unfold ai at h⊢;obtain⟨a,xs,e,n,s,r⟩:=h;exact⟨a,xs,e,λz=>z.elim n (jJ s hp),s,af.fresh hp r⟩
 | .tuple ds,_,h=>by unfold ai at h⊢;obtain⟨a,xs,e,n,s,r⟩:=h;exact⟨a,xs,e,λz=>z.elim n (jJ s hp),s,af.fresh hp r⟩
 | .dict kvs,_,h=>by unfold ai at h⊢;obtain⟨a,xs,e,n,s,r⟩:=h;exact⟨a,xs,e,λz=>z.elim n (s.elim (λs=>jJ s hp) λ⟨_,s⟩=>jJ s hp),s,ay.fresh hp r⟩
theorem af.fresh{nb:aF->Prop}{H:Hp}{p:aF}(hp:H p=none):∀{ds:List PyData} {vs:List V},af nb H ds vs->af (λa=>nb a\/a=p) H ds vs
 |[],_,h=>by unfold af at h⊢;exact h
 |d::ds,_,h=>by unfold af at h⊢;obtain⟨y,ys,e,h1,h2⟩:=h;exact⟨y,ys,e,ai.fresh hp h1,af.fresh hp h2⟩
theorem ay.fresh{nb:aF->Prop}{H:Hp}{p:aF}(hp:H p=none):∀{ds:List (PyData×PyData)} {vs:List (Key×V)},ay nb H ds vs->ay (λa=>nb a\/a=p) H ds vs
 |[],_,h=>by unfold ay at h⊢;exact h
 |d::ds,_,h=>by unfold ay at h⊢;obtain⟨y,ys,e,h1,h2⟩:=h;exact⟨y,ys,e,cJ.fresh hp h1,ay.fresh hp h2⟩
theorem cJ.fresh{nb:aF->Prop}{H:Hp}{p:aF}(hp:H p=none):∀{d:PyData×PyData} {v:Key×V},cJ nb H d v->cJ (λa=>nb a\/a=p) H d v
 |(k,d),_,h=>by unfold cJ at h⊢;exact⟨h.1,ai.fresh hp h.2⟩
end
mutual
theorem ai.reads{pins:List (aF×Obj)}{σ:qr}{H:Hp}{s:aw}{nb:aF->Prop}(I:Inv X pins σ H s):∀{d:PyData} {v:V} {u:ag},ai nb H d v->RelV v u->d.canLay0=true->∃as,Reads s.heap u d as
  | .none,_,_,h,r,_=>by unfold ai at h;subst h;cases r;exact⟨_, .none⟩
  | .bool _,_,_,h,r,_=>by unfold ai at h;subst h;cases r;exact⟨_, .bool _⟩
  | .int _,_,_,h,r,_=>by unfold ai at h;subst h;obtain⟨t,rfl⟩:=r;exact⟨_, .int _ _⟩
  | .str _,_,_,h,r,_=>by unfold ai at h;subst h;obtain⟨t,rfl⟩:=r;exact⟨_, .str _ _⟩
  | .list ds, _, _, h, r, hc0 => by
    unfold ai at h;obtain⟨a,xs,rfl,n,s,q⟩:=h;cases r;obtain⟨its,rv,p,hz⟩:=I.list (aV.of s);obtain⟨as,b⟩:=af.reads I q rv (by simpa only[dk] using hc0);obtain⟨o,ho,hc,m,hd⟩:=p.isList;exact⟨_, .list ho hc hd (by simpa using b)⟩
  | .tuple ds, _, _, h, r, hc0 => by
    unfold ai at h;obtain⟨a,xs,rfl,n,s,q⟩:=h;cases r;obtain⟨its,rv,p,hz⟩:=I.tuple (iP.of s);obtain⟨as,b⟩:=af.reads I q rv (by simpa only[dk] using hc0);obtain⟨o,ho,hc,m,hd⟩:=p;exact⟨_, .tuple ho hc hd (by simpa using b)⟩
  | .dict _,_,_,h,r,hc0=>by simp[dk] at hc0
theorem af.reads{pins:List (aF×Obj)}{σ:qr}{H:Hp}{s:aw}{nb:aF->Prop}(I:Inv X pins σ H s):∀{ds:List PyData} {vs:List V} {us:List ag},af nb H ds vs->Vals vs us->bg ds=true->∃as,ReadsAll s.heap us ds as
  |[],_,_,h,r,_=>by unfold af at h;subst h;cases r;exact⟨_, .nil⟩
  | d :: ds, _, _, h, r, hc0 => by
    rw[bg,fQ] at hc0;unfold af at h;obtain⟨y,ys,rfl,h1,h2⟩:=h;cases r with
    | cons M U =>
      obtain⟨as,O⟩:=ai.reads I h1 M hc0.1;obtain⟨bs,q2⟩:=af.reads I h2 U hc0.2;exact⟨_, .cons O q2⟩
end
def Gb(a:Bool):R2:=λx y H Q=>∃nb d e,ai nb H d x/\ai nb H e y/\cH d=true/\cH e=true/\Q (.bl (du d e !=a)) H
def Qc(hu:X.A.units+64<wa):dZ X (dc .Eq) (Gb false):=by
 intro pins s σ H x y v u Q I rx ry h;obtain⟨nb,d,e,h1,h2,h3,h4,q⟩:=h;obtain⟨as,M⟩:=h1.reads I rx (Ax h3);obtain⟨bs,U⟩:=h2.reads I ry (Ax h4);exact eq_dataH M U h3 h4 hu ⟨.bl _,H,I,rfl,by simpa using q⟩
def w6(hu:X.A.units+64<wa):dZ X (dc .NotEq) (Gb true):=by
 intro pins s σ H x y v u Q I rx ry h;obtain⟨nb,d,e,h1,h2,h3,h4,q⟩:=h;obtain⟨as,M⟩:=h1.reads I rx (Ax h3);obtain⟨bs,U⟩:=h2.reads I ry (Ax h4);exact ne_dataH M U h3 h4 hu ⟨.bl _,H,I,rfl,by simpa using q⟩
end
structure Callee(P:bc)(w:cx)(K:PySem.W.Frag)(mg:Str->Option ag)(base:eo)(x:Str)(k:Nat)(ps:List Str)(sp:Sp):Prop where
 ex:∃f fd,bD P w K mg base bM k f fd ps sp/\Binds K fd ps []/\PySem.W.keepIn K (.ref f)=true/\mg x=some (.ref f)
def aS{x:Str}{k:Nat}{ps:List Str}{p:Pos}{es:List eB}(c:Callee X.prog X.w X.K X.mg X.base x k ps sp)(hr:fM k X.A)(ha:PA X (e::es) t)(hg:Gl X x:=by rfl)
  (a:(x==("__debug__":Str))=false:=by decide) (he:cc (e::es) X.env=(false,eval e X.env)::cc es X.env:=by rfl) (hpl:(i5 pos (cc es X.env)).any (·.1)=false:=by rfl):
  PE X (.Call (.Name x p) (e::es) [] pos) (iS sp [] E0 t):=by
 obtain⟨f,fd,F,b,kp,m⟩:=c.ex;exact NQ F hr hg m kp b .nil xD ha a he hpl
def Callee.mk'{P:bc}{K:PySem.W.Frag}{x:Str}{st:eQ}{k:Nat}{ps:List Str}{f:aF}(F:bQ K x x st f fd)(ok:bD P w K mg base bM k f fd ps sp)(b:Binds K fd ps [])
  (m:mg x=some (.ref f)):Callee P w K mg base x k ps sp:=⟨f,fd,ok,b,F.kp,m⟩
def aN(K:PySem.W.Frag)(x q:Str)(st:eQ)(f:aF):Prop:=PySem.W.nsIn K ba x=some (some (.ref f))/\∃fd,bQ K x q st f fd
def aN.mk{K:PySem.W.Frag}{x q:Str}{st:eQ}{f:aF}{od an:Option aF}{kV doc pm cdv ct:ag}(a:PySem.W.nsIn K ba x=some (some (.ref f)))(l:K.lookup f=some ⟨oc,od, .func (PySem.W.fnOf x q (lT st) (lF st) (aJ st) .none kV doc pm an cdv ct),osl⟩)
  (c:PySem.W.codeIn K cdv q=true) (k:PySem.W.keepIn K (.ref f)=true):aN K x q st f:=⟨a,_,uw l c k⟩
section
variable{X:Cx}
def iD:dZ X (iq .Mult) (rI (λi j=>Cz i j\/(Sm i/\Sm j)) λi j=> .int (i*j)):=zW λ_ _ _ _ _ _ _ hc q=>mul_int q (by
 rcases hc with hc|hc
 .exact hc.ok
 .exact IntMulOk.of_bits (DY hc.1) (DY hc.2))
end
def fh(H:Hp)(b l:aF):Prop:=∃(ns:List Int) (i c st n:Int),H b=some (.lst [.ref l, .int i, .int c, .int st, .int n])/\H l=some (.lst (ns.map V.int))/\
 (∀x∈ns,0<=x/\x<10^60)/\ns.length<=63/\0<=i/\0<=c/\c<10^60/\0<=st/\st<2147483647
def Rz{l:aF}{i c st n:V}(h:H b=some (.lst [.ref l,i,c,st,n]))(h':H l=some (.lst (ns.map V.int))):l≠b:=by
 intro e;subst e;rw[h] at h';have e:=HO.lst.inj (fP h');cases ns with
 |nil=>cases e
 |cons x r=>rw[bG] at e;cases (vI e).1
def fh.put{l:aF}{i c st n:Int}(hl:l≠b)(h':H l=some (.lst (ns.map V.int)))(h1:∀x∈ns,0<=x/\x<10^60)(h2:ns.length<=63)
  (h3:0<=i) (h4:0<=c) (h5:c<10^60) (h6:0<=st) (h7:st<2147483647):fh (upd H b (.lst [.ref l, .int i, .int c, .int st, .int n])) b l:=
 ⟨ns,i,c,st,n,bx,by rw[aH hl];exact h',h1,h2,h3,h4,h5,h6,h7⟩
def fh.put2{l p:aF}{o:HO}(h:fh H b l)(hp:p≠b/\p≠l):fh (upd H p o) b l:=by
 obtain⟨ns,i,c,st,n,h1,h2,r⟩:=h;exact⟨ns,i,c,st,n,by rw[aH (bH hp.1)];exact h1,by rw[aH (bH hp.2)];exact h2,r⟩
def fh.same{l:aF}(h:fh H b l)(s:dG H H'):fh H' b l:=by
 obtain⟨ns,i,c,st,n,h1,h2,r⟩:=h;exact⟨ns,i,c,st,n,s _ _ h1,s _ _ h2,r⟩
def lZ:Sp:=λvs H Q _=>∃(b l:aF) (many:Int),vs=[.ref b, .int many]/\fh H b l/\0<many/\Sm many/\∀(r:Int) (H':Hp),0<=r->r<many->bP (Nb b) H H'->fh H' b l->Q (.int r) H'
def Nu(K:PySem.W.Frag):Sp:=λvs H Q _=>∃(a:aF) (ns:List Int),vs=[.ref a]/\aV K H a (ns.map V.int)/\ns.length<=63/\∀(b l:aF) (H':Hp),dG H H'->H b=none->fh H' b l->Q (.ref b) H'
theorem eu{α:Type}{xs:List α}{i:Int}{v:α}(h0:0<=i)(h:xs[i.toNat]?=some v):bE xs i=some v:=by
 have e:i=((i.toNat:Nat):Int):=∅
 rw[e];exact ad7 h
def dB{p:aF}{o:HO}(h:H p=none):dG H (upd H p o):=λb u q=>by rw[aH (jJ q h)];exact q
section
variable{nb:aF->Prop}{H H':Hp}
theorem af.length:∀{ds:List PyData} {xs:List V},af nb H ds xs->xs.length=ds.length
 |[],_,h=>by unfold af at h;subst h;rfl
 |d::ds,_,h=>by unfold af at h;obtain⟨y,ys,rfl,_,h2⟩:=h;simp[af.length h2]
theorem af.get:∀{ds:List PyData} {xs:List V} {i:Nat} {d:PyData},af nb H ds xs->ds[i]?=some d->∃x,xs[i]?=some x/\ai nb H d x
 |[],_,_,_,_,e=>by simp at e
 |d::ds,_,0,_,h,e=>by unfold af at h;obtain⟨y,ys,rfl,h1,h2⟩:=h;simp at e;subst e;exact⟨y,rfl,h1⟩
 |d::ds,_,i+1,_,h,e=>by unfold af at h;obtain⟨y,ys,rfl,h1,h2⟩:=h;simpa using af.get (i:=i) h2 (by simpa using e)
theorem af.snoc{d:PyData}{x:V}(hd:ai nb H d x):∀{ds:List PyData} {xs:List V},af nb H ds xs->af nb H (ds++[d]) (xs++[x])
 |[],_,h=>by unfold af at h;subst h;unfold af;exact⟨x,[],rfl,hd,by unfold af;rfl⟩
 |e::ds,_,h=>by unfold af at h;obtain⟨y,ys,rfl,h1,h2⟩:=h;show af nb H (e::(ds++[d])) _;unfold af;exact⟨y,ys++[x],rfl,h1,af.snoc hd h2⟩
theorem af.append:∀{ds es:List PyData} {xs ys:List V},af nb H ds xs->af nb H es ys->af nb H (ds++es) (xs++ys)
 |[],_,_,_,h,h'=>by unfold af at h;subst h;exact h'
 |e::ds,es,_,zs,h,h'=>by unfold af at h;obtain⟨y,ys,rfl,h1,h2⟩:=h;show af nb H (e::(ds++es)) _;unfold af;exact⟨y,ys++zs,rfl,h1,af.append h2 h'⟩
theorem af.take:∀{ds:List PyData} {xs:List V} (n:Nat),af nb H ds xs->af nb H (ds.take n) (xs.take n)
 |_,_,0,_=>by simp only[qS];unfold af;rfl
 |[],_,n+1,h=>by unfold af at h;subst h;simp only[List.take_nil];unfold af;rfl
 |d::ds,_,n+1,h=>by unfold af at h;obtain⟨y,ys,rfl,h1,h2⟩:=h;simp only[List.take_succ_cons];unfold af;exact⟨y,_,rfl,h1,af.take n h2⟩
theorem af.drop:∀{ds:List PyData} {xs:List V} (n:Nat),af nb H ds xs->af nb H (ds.drop n) (xs.drop n)
 |_,_,0,h=>h
 |[],_,n+1,h=>by unfold af at h;subst h;simp only[List.drop_nil];unfold af;rfl
 |d::ds,_,n+1,h=>by unfold af at h;obtain⟨y,ys,rfl,h1,h2⟩:=h;simp only[List.drop_succ_cons];exact af.drop n h2
def af.nil:af nb H [] []:=by unfold af;rfl
def af.cons{d:PyData}{x:V}{ds:List PyData}{xs:List V}(h1:ai nb H d x)(h2:af nb H ds xs):af nb H (d::ds) (x::xs):=by unfold af;exact⟨x,xs,rfl,h1,h2⟩
theorem ai.int(i:Int):ai nb H (.int i) (.int i):=by unfold ai;rfl
theorem ai.aP:ai nb H .none .aP:=by unfold ai;rfl
theorem ai.bl(b:Bool):ai nb H (.bool b) (.bl b):=by unfold ai;rfl
theorem ai.lst{a:aF}{ds:List PyData}{xs:List V}(n:¬nb a)(h:H a=some (.lst xs))(hd:af nb H ds xs):ai nb H (.list ds) (.ref a):=by unfold ai;exact⟨a,xs,rfl,n,h,hd⟩
theorem ai.tup{a:aF}{ds:List PyData}{xs:List V}(n:¬nb a)(h:H a=some (.tup xs))(hd:af nb H ds xs):ai nb H (.tuple ds) (.ref a):=by unfold ai;exact⟨a,xs,rfl,n,h,hd⟩
def ai.dW{v:V}(h:ai nb H (.list ds) v):∃a xs,v= .ref a/\¬nb a/\H a=some (.lst xs)/\af nb H ds xs:=by unfold ai at h;exact h
def ai.ofT{v:V}(h:ai nb H (.tuple ds) v):∃a xs,v= .ref a/\¬nb a/\H a=some (.tup xs)/\af nb H ds xs:=by unfold ai at h;exact h
def ai.cC{v:V}{i:Int}(h:ai nb H (.int i) v):v= .int i:=by unfold ai at h;exact h
def ai.xS{v:V}(h:ai nb H .none v):v= .aP:=by unfold ai at h;exact h
end
def IA:Sp:=λvs H Q _=>∃i:Int,vs=[.int i]/\Q (.bl true) H
def zw(K:PySem.W.Frag):Sp:=λvs H Q _=>∃(a:aF) (ns:List Int),vs=[.ref a]/\aV K H a (ns.map V.int)/\ns.length<=63/\∀H',Q (.bl true) H'
def Gp(Q:VK):List V->Hp->Prop:=λxs H1=>xs.length<=sizeLine/\∀p,H1 p=none->Q (.ref p) (upd H1 p (.lst xs))
def jN(K:PySem.W.Frag):List V->Hp->VK->Prop:=λxs H Q=>∃p ys,xs=[.ref p]/\(aV K H p ys\/iP K H p ys)/\∀l,H l=none->Q (.ref l) (upd H l (.lst ys))
def mO:iF X (.type "list") (jN X.K):=CZ
def OM:R2:=λx y H Q=>y= .aP/\Q (.bl (decide (x= .aP))) H
def AL:R2:=λx y H Q=>y= .aP/\Q (.bl (!decide (x= .aP))) H
def wD:dZ X (dc .Is) OM:=ZX
def qO:dZ X (dc .IsNot) AL:=Vj
noncomputable def intOf:eB->Option Int
 | .Constant (.int i) _ _=>some i
 |_=>none
def ZZ{i:Int}(h:intOf e=some i):∃k p,e= .Constant (.int i) k p:=by
 unfold intOf at h;split at h;·cases h;exact⟨_,_,rfl⟩
 .cases h
noncomputable def uf:List eB->Option (List Int)
 |[]=>some []
 |e::r=>(intOf e).bind λi=>(uf r).map (i:: ·)
def Cd(is:List Int):TA:=λ_ H Q=>Q (is.map V.int) H
def MO:∀{es:List eB} {is:List Int},uf es=some is->PA X es (Cd is):=by
  intro es;induction es with
  | nil =>
    intro is h;have e:is=[]:=by simpa[uf] using h.symm
    subst e;exact ak
  | cons e r ih =>
    intro is h;unfold uf at h;cases hi:intOf e with
    |none=>rw[hi] at h;cases h
    | some i =>
      rw[hi] at h;obtain⟨k,p,rfl⟩:=ZZ hi;obtain⟨a,hj,rfl⟩:=kK.mp (show(uf r).map (i:: ·)=some is from h);exact aa (te:=tC (.int i)) (t:=Cd a) au (ih hj)
def NL{X:Cx}{i:Nat}{x:Str}{es:List eB}{is:List Int}{k p2 a:Pos}(hN:X.N.Nodup)(hi:X.N[i]?=some x)(hx:Loc X.env.scope x)(h:uf es=some is)(hf:X.fn x=true\/X.env.scope.names.lookup x=some .local):
  PS X (.Assign [.Name x k] (.List es p2) a) (fV (qt (Cd is)) (fB i)):=aX hN hi hx (gR (MO h)) rfl hf
namespace R
section
variable{σ:qr}{H:Hp}{Q:VK}{D:Ends}{ta tb te:TE}{K:PySem.W.Frag}
def seq{t u:TS}(h:t {D with nx:=u D} σ H):lW t u D σ H:=h
def asg{g:TG}(h:te σ H λx H1=>g x σ H1 D.nx):fV te g D σ H:=h
def oR{c:TT}{t u:TS}(h:c σ H λb H1=>if b=true then t D σ H1 else u D σ H1):Kq c t u D σ H:=h
def ret(h:te σ H D.rt):t6 te D σ H:=h
def drop(h:te σ H λ_ H1=>D.nx σ H1):p9 te D σ H:=h
def next(h:D.nx σ H):Hs D σ H:=h
def var{v:V}(e:σ[i]?=some (some v))(h:Q v H):bZ i σ H Q:=⟨v,e,h⟩
def c{v:V}(h:Q v H):tC v σ H Q:=h
def op{r:R2}(h:ta σ H λx H1=>tb σ H1 λy H2=>r x y H2 Q):cQ r ta tb σ H Q:=h
def test{q:Bool->Hp->Prop}(h:te σ H λx H'=>∃k,x= .bl k/\q k H'):J9 te σ H q:=h
theorem bl{P:Bool->Prop}{b:Bool}(h:P b):∃k,V.bl b= .bl k/\P k:=⟨b,rfl,h⟩
def and{t u:TT}{q:Bool->Hp->Prop}(h:t σ H λc H1=>if c=true then u σ H1 q else q false H1):HY t u σ H q:=h
def E6(h:ta σ H λx H1=>∃c,x= .bl c/\if c=true then tb σ H1 Q else Q (.bl false) H1):G5 ta tb σ H Q:=h
def NM(h:ta σ H λx H1=>∃c,x= .bl c/\Q (.bl (!c)) H1):LL ta σ H Q:=h
def cb{r:List V->Hp->VK->Prop}(h:t σ H λvs H1=>r vs H1 Q):ir r t σ H Q:=h
def call(h:t σ H λvs H1=>sp (vs++[]) H1 Q E0):iS sp [] E0 t σ H Q:=h
def nil{q:List V->Hp->Prop}(h:q [] H):cG σ H q:=h
def cons{t:TA}{q:List V->Hp->Prop}(h:ta σ H λx H1=>t σ H1 λxs H2=>q (x::xs) H2):bV ta t σ H q:=h
def lst{t:TA}(h:t σ H (Gp Q)):qt t σ H Q:=h
def sl{r:V->Option Int->Option Int->Hp->VK->Prop}{tl th:TO}(h:te σ H λx H1=>tl σ H1 λl H2=>th σ H2 λu H3=>r x l u H3 Q):vR r te tl th σ H Q:=h
def NN{q:Option Int->Hp->Prop}(h:q none H):Df σ H q:=h
def part{q:Option Int->Hp->Prop}(h:te σ H λx H1=>∃i,x= .int i/\q (some i) H1):JE te σ H q:=h
def Hj{P:Int->Prop}{i:Int}(h:P i):∃j,V.int i= .int j/\P j:=⟨i,rfl,h⟩
def K0{T:String}{r:V->List V->Hp->VK->Prop}(h:te σ H λx H1=>sF K T x H1/\r x [] H1 Q):Oq K T r te σ H Q:=h
def bm{T:String}{r:V->List V->Hp->VK->Prop}(h:te σ H λx H1=>sF K T x H1/\t σ H1 λxs H2=>r x xs H2 Q):mT K T r te t σ H Q:=h
def aaG{i:Int}{A:Prop}(h:A):sF K "int" (.int i) H/\A:=⟨rfl,h⟩
def Mf{v:V}(h:q (σ.set i (some v)) H):fB i v σ H q:=h
def Yh{to c:TE}{t:uu}{v:V}(h:to σ H λo H1=>c σ H1 λi H2=>t o i v H2 λH3=>q σ H3):nY to c t v σ H q:=h
def Zv{t:TG}{u:jV}{v:V}{r:List V}(h:t v σ H λM H'=>u r M H' q):mV t u (v::r) σ H q:=⟨v,r,rfl,h⟩
def Y6(h:q σ H):tW [] σ H q:=⟨rfl,h⟩
def ab0{t:jV}(hq:iP K H a xs)(hl:xs.length=n)(h:t xs σ H q):qM K n t (.ref a) σ H q:=⟨a,xs,rfl,hq,hl,h⟩
def rj{q:Bool->Hp->Prop}(h:q true H):sV σ H q:=h
theorem j5{g:Int->Int->V}{i j:Int}(h:Q (g i j) H):L2.j5 g (.int i) (.int j) H Q:=⟨i,j,rfl,rfl,h⟩
theorem rI{C:Int->Int->Prop}{g:Int->Int->V}{i j:Int}(hc:C i j)(h:Q (g i j) H):L2.rI C g (.int i) (.int j) H Q:=⟨i,j,rfl,rfl,hc,h⟩
def G7{i j:Int}:decide (V.int i=V.int j)=decide (i=j):=by rw[jS];simp
def PN{i j:Int}(h:Q (.bl (decide (i=j))) H):J7 (.int i) (.int j) H Q:=⟨rfl,by rw[G7];exact h⟩
def Gc{i j:Int}(h:Q (.bl (decide (i≠j))) H):DO (.int i) (.int j) H Q:=⟨rfl,by rw[G7,<-decide_not];exact h⟩
def LF{i:Int}(h:Q (.bl true) H):AL (.int i) .aP H Q:=⟨rfl,by rw[decide_eq_false (λe=>V.noConfusion e)];exact h⟩
def NG(h:Q (.bl false) H):AL .aP .aP H Q:=⟨rfl,by rw[decide_eq_true rfl];exact h⟩
def Bk{p:aF}{i:Int}{v:V}(hp:H p=some (.lst xs))(e:bE xs i=some v)(h:Q v H):bO K (.ref p) (.int i) H Q:=⟨p,xs,i,v,rfl,rfl,aV.of hp,e,h⟩
def Ft{p:aF}{o:HO}{i:Int}{v:V}(e:bE xs i=some v)(h:Q v (upd H p (.lst xs))):bO K (.ref p) (.int i) (upd H p (.lst xs)) Q:=⟨p,xs,i,v,rfl,rfl,aV.of bx,e,h⟩
def setM{p:aF}{k:Int}{v:V}{q:Hp->Prop}(hp:H p=some (.lst xs))(e:dS xs.length k=some j)(h:q (upd H p (.lst (xs.set j v)))):qd (.ref p) (.int k) v H q:=⟨p,xs,k,j,rfl,rfl,hp,e,h⟩
def SG{p:aF}{k:Int}{v:V}{q:Hp->Prop}(e:dS xs.length k=some j)(h:q (upd H p (.lst (xs.set j v)))):qd (.ref p) (.int k) v (upd H p (.lst xs)) q:=
 ⟨p,xs,k,j,rfl,rfl,bx,e,by rw[JP];exact h⟩
def Wc{p:aF}{P:List V->Prop}(hp:H p=some (.lst xs))(h:P xs):∃a ys,[V.ref p]=[.ref a]/\(aV K H a ys\/iP K H a ys)/\P ys:=⟨p,xs,rfl, .inl (aV.of hp),h⟩
def Rw{p:aF}{lo hi:Option Int}(hp:aV K H p xs)(h:∀a,H a=none->Q (.ref a) (upd H a (.lst (nk xs lo hi)))):mC K (.ref p) lo hi H Q:=⟨p,xs,rfl,hp,h⟩
def V2{a:Int}{P:Int->Prop}(h:P a):∃i,[V.int a]=[.int i]/\P i:=⟨a,rfl,h⟩
def bits{i:Int}{P:Int->Prop}(h:P i):∃j,V.int i= .int j/\([]:List V)=[]/\P j:=⟨i,rfl,rfl,h⟩
def VE(h:xs.length<=10000)(q:∀p H',dG H H'->H p=none->H' p=some (.lst xs)->Q (.ref p) H'):Gp Q xs H:=
 ⟨dP h ⋯,λp hp=>q p _ (dB hp) hp bx⟩
def Nv{c A B:Prop}[Decidable c](h:c)(q:A):if c then A else B:=by rw[if_pos h];exact q
def LQ{c A B:Prop}[Decidable c](h:¬c)(q:B):if c then A else B:=by rw[if_neg h];exact q
def dT{c:Prop}[Decidable c](h:c):decide c=true:=decide_eq_true h
def dF{c:Prop}[Decidable c](h:¬c):¬decide c=true:=by rw[decide_eq_false h];exact dH
def MX{c:Prop}[Decidable c](h:¬c):(!decide c)=true:=by rw[decide_eq_false h];rfl
def Qx{c:Prop}[Decidable c](h:c):¬(!decide c)=true:=by rw[decide_eq_true h];decide
def Hn{i:Int}(h:Q (.bl true) H):jF K [.int i, .ty "int"] H Q:=⟨_,_,_,true,rfl, .int i,rfl,h⟩
def OQ{i:Int}(h:Q (.bl false) H):jF K [.int i, .ty "bool"] H Q:=⟨_,_,_,false,rfl, .int i,by with_unfolding_all rfl,h⟩
def Tx{R:It->Hp->Prop}(h:t σ H λvs H1=>∃j:Int,vs=[.int j]/\ -(2^62)<=j/\j<2^62/\R (j9 0 j.toNat) H1):wV t σ H R:=h
def PQ{P:Int->Prop}{i:Int}(h1: -(2^62)<=i)(h2:i<2^62)(h:P i):∃j:Int,[V.int i]=[.int j]/\ -(2^62)<=j/\j<2^62/\P j:=⟨i,rfl,h1,h2,h⟩
def XP{R:It->Hp->Prop}(h:t σ H λvs H1=>∃i j:Int,vs=[.int i, .int j]/\(-(2^62)<=i/\i<2^62/\ -(2^62)<=j/\j<2^62)/\R (j9 i (j-i).toNat) H1):Tj t σ H R:=h
def T7{P:Int->Int->Prop}{a b:Int}(h1: -(2^62)<=a/\a<2^62/\ -(2^62)<=b/\b<2^62)(h:P a b):∃i j:Int,[V.int a,V.int b]=[.int i, .int j]/\(-(2^62)<=i/\i<2^62/\ -(2^62)<=j/\j<2^62)/\P i j:=⟨a,b,rfl,h1,h⟩
def iL{R:It->Hp->Prop}(h:tl σ H λx H1=>∃a,x= .ref a/\(∃xs,aV K H1 a xs)/\R (qP K a) H1):ua K tl σ H R:=h
def CT{P:aF->Prop}{p:aF}(hp:aV K H p xs)(h:P p):∃a,V.ref p= .ref a/\(∃xs,aV K H a xs)/\P a:=⟨p,rfl,⟨xs,hp⟩,h⟩
def ZR{F:TI}{g:TG}{tb:TS}(h:F σ H λJ H1=>∃W:Nat->Nat->qr->Hp->Prop,(∃m,W 0 m σ H1)/\∀i m σ H,W i m σ H->
 (J.stop i H/\D.nx σ H)\/(J.go i H/\∃N:qr->Hp->Prop,(∀M H',N M H'->∃O,O<m/\W (i+1) O M H')/\∀x H',J.nN i H x H'->g x σ H' λc H2=>tb {D with nx:=N,ct:=N,bk:=D.nx} c H2)):qj F g tb D σ H:=h
def comp{F:TI}{g:TG}(h:F σ H λJ H1=>∀acc,H1 acc=none->qD J g tc te acc (λH'=>Q (.ref acc) H') (iA mp σ) (upd H1 acc (.lst []))):mF F g tc te mp σ H Q:=h
end
theorem Em{lo:Int}{g:TG}{d:Hp->Prop}(Pv:Nat->qr->Hp->Prop)(h0:Pv 0 σ H)
  (hs:∀i σ H,i<n->Pv i σ H->g (.int (lo+i)) σ H λc H2=>tc c H2 λb H3=>if b=true then te c H3 λv H4=>∃ys,H4 acc=some (.lst ys)/\ys.length<sizeLine/\Pv (i+1) c (upd H4 acc (.lst (ys++[v]))) else Pv (i+1) c H3)
  (hd:∀σ H,Pv n σ H->d H):qD (j9 lo n) g tc te acc d σ H:=by
 refine⟨λi m σ H=>m=n-i/\i<=n/\Pv i σ H,⟨n,by simp,gE _,h0⟩,?_⟩;rintro i m σ H ⟨rfl,hi,p⟩;by_cases hlt:i<n
 .refine .inr ⟨hlt,Pv (i+1),λM H' j=>⟨n-(i+1),∅,rfl,hlt,j⟩,λx H' y=>?_⟩;obtain⟨e,y⟩:=y;subst e y;exact hs i σ _ hlt p
 .have e:i=n:=∅
  subst e;exact .inl ⟨aW _,hd σ H p⟩
theorem KA{K:PySem.W.Frag}{g:TG}{d:Hp->Prop}(Pv:Nat->qr->Hp->Prop)(h0:Pv 0 σ H)(hl:∀i σ H,i<=xs.length->Pv i σ H->aV K H a xs)
  (hs:∀i x σ H,xs[i]?=some x->Pv i σ H->g x σ H λc H2=>tc c H2 λb H3=>if b=true then te c H3 λv H4=>∃ys,H4 acc=some (.lst ys)/\ys.length<sizeLine/\Pv (i+1) c (upd H4 acc (.lst (ys++[v]))) else Pv (i+1) c H3)
  (hd:∀σ H,Pv xs.length σ H->d H):qD (qP K a) g tc te acc d σ H:=by
 refine⟨λi m σ H=>m=xs.length-i/\i<=xs.length/\Pv i σ H,⟨xs.length,by simp,gE _,h0⟩,?_⟩;rintro i m σ H ⟨rfl,hi,p⟩;have q:=hl i σ H hi p;by_cases hlt:i<xs.length
 .refine .inr ⟨⟨xs,xs[i],q,by simp[hlt]⟩,Pv (i+1),λM H' j=>⟨xs.length-(i+1),∅,rfl,hlt,j⟩,λx H' y=>?_⟩;obtain⟨e,y⟩:=y;subst e;exact hs i x σ _ (y xs q) p
 .have e:i=xs.length:=∅
  subst e;exact .inl ⟨⟨xs,q,aW _⟩,hd σ H p⟩
end R
@[reducible] noncomputable def Ap(pr:Int×Int):PyData:= .tuple [.int pr.1, .int pr.2]
noncomputable def cT:Option Int->PyData
 |none=> .none
 |some i=> .int i
noncomputable def AU:Option Int->V
 |none=> .aP
 |some i=> .int i
noncomputable def gY(wd:List (Option Int))(pr:Int×Int):Int:=match wd[pr.1.toNat]? with
 |some (some x)=>pr.2*x
 |_=>0
noncomputable def aQ(prs:List (Int×Int))(wd:List (Option Int)):Int:=(prs.map (gY wd)).sum
def JX{prs:List (Int×Int)}{wd:List (Option Int)}(h:i<prs.length):aQ (prs.take (i+1)) wd=aQ (prs.take i) wd+gY wd prs[i]:=by
 unfold aQ;rw[xg,aC h,bS,oS];simp
def Ss{o:Option Int}{v:V}(h:ai nb H (cT o) v):v=AU o:=by
 cases o with
 |none=>exact h.xS
 |some i=>exact h.cC
theorem RU{nb:aF->Prop}{H:Hp}:∀{wd:List (Option Int)} {xs:List V},af nb H (wd.map cT) xs->xs=wd.map AU
  |[],_,h=>by unfold a3 af at h;exact h
  | o :: wd, _, h => by
    rw[bG] at h;unfold af at h;obtain⟨y,ys,rfl,h1,h2⟩:=h;rw[bG,Ss h1,RU h2]
def Qy{v:V}(h:ai nb H (Ap pr) v):∃t,v= .ref t/\¬nb t/\H t=some (.tup [.int pr.1, .int pr.2]):=by
 obtain⟨t,xs,rfl,n,ht,hd⟩:=h.ofT;unfold af at hd;obtain⟨y,ys,rfl,h1,h2⟩:=hd;unfold af at h2;obtain⟨z,zs,rfl,h3,h4⟩:=h2;unfold af at h4;subst h4;rw[h1.cC,h3.cC] at ht;exact⟨t,rfl,n,ht⟩
def xR:Sp:=λvs H Q _=>∃(nb:aF->Prop) (p:Int) (d b:V) (prs:List (Int×Int)) (wd:List (Option Int)),vs=[.int p,d,b]/\ai nb H (.list (prs.map Ap)) d/\ai nb H (.list (wd.map cT)) b/\0<p/\
 (∀pr∈prs,0<=pr.1/\pr.1<wd.length/\Sm pr.2)/\(∀x,some x∈wd->Sm x)/\Q (.int (aQ prs wd%p)) H
theorem Pw(prs:List (Int×Int)):cH (.list (prs.map Ap))=true/\bp (prs.map Ap)<=1/\bg (prs.map Ap)=true:=by
 have h:bp (prs.map Ap)<=1/\bg (prs.map Ap)=true:=by
  induction prs with
  |nil=>simp[bp,bg]
  |cons a r ih=>simp[Ap,bp,er,bg,dk,ih.2];have:=ih.1;omega
 refine⟨?_,h⟩;unfold cH;simp[dk,er,h.2];omega
def Xy(wd:List (Option Int)):bp (wd.map cT)=0/\bg (wd.map cT)=true:=by
 induction wd with
 |nil=>simp[bp,bg]
 |cons a r ih=>cases a<;>simp[cT,bp,er,bg,dk,ih.2,ih.1]
def xH(r:Int):Prop:=∀d:Int,2<=d->d*d<=r->r%d≠0
noncomputable def yi:List Int:=[2,3,5,7,2,11,101,10007,65537,1000003,998244353,1000000007,2147483647,1000000000039,1000000000000000003,18446744073709551557,2305843009213693951,618970019642690137449562111,162259276829213363391578010288127,170141183460469231731687303715884105727,1000000000000000000000000000000000000003,9999999999999999999999999999999999999983]
def EO:Sp:=λvs H Q _=>∃n:Int,vs=[.int n]/\2<=n/\n<=10002/\∀(r:Int) (H':Hp),dG H H'->2<=r->r<=10100->xH r->Q (.int r) H'
def Io(wd:List Int)(ld:List (Option Int)):Prop:=ld.length=wd.length/\∀(i:Nat) x,ld[i]?=some (some x)->wd[i]?=some x
theorem Br{nb:aF->Prop}{H:Hp}:∀is:List Int,af nb H (is.map aq) (is.map V.int)
 |[]=>af.nil
 |i::is=>af.cons (.int i) (Br is)
theorem Ql:∀ds:List PyData,(∀(i:Nat) d,ds[i]?=some d->∃o:Option Int,d=cT o)->∃ld:List (Option Int),ds=ld.map cT
  |[],_=>⟨[],rfl⟩
  | d :: ds, h => by
    obtain⟨o,rfl⟩:=h 0 d rfl;obtain⟨ld,rfl⟩:=Ql ds λi e he=>h (i+1) e (by simpa using he);exact⟨o::ld,rfl⟩
def UO{wd:List Int}(ds:List PyData)(hl:ds.length=wd.length)(h:∀(i:Nat) d,ds[i]?=some d->d= .none\/∃x,wd[i]?=some x/\d= .int x):∃ld:List (Option Int),ds=ld.map cT/\Io wd ld:=by
 obtain⟨ld,rfl⟩:=Ql ds λi d hd=>by
  rcases h i d hd with e|⟨x,_,e⟩
  .exact⟨none,e⟩
  .exact⟨some x,e⟩
 refine⟨ld,rfl,by simpa using hl,λi x hx=>?_⟩;rcases h i (.int x) (by rw[bw,hx];rfl) with e|⟨y,hy,e⟩
 .cases e
 .cases e;exact hy
theorem AM{nb:aF->Prop}{H:Hp}:∀{is:List Int} {xs:List V},af nb H (is.map aq) xs->xs=is.map V.int
  |[],_,h=>by unfold a3 af at h;exact h
  | i :: is, _, h => by
    rw[bG] at h;unfold af at h;obtain⟨y,ys,rfl,h1,h2⟩:=h;rw[bG,h1.cC,AM h2]
def Bi{wd:List Int}{ld:List (Option Int)}(h:Io wd ld){x:Int}(hx:some x∈ld):x∈wd:=by
 obtain⟨i,hi⟩:=ic hx;exact bC (h.2 i x hi)
noncomputable abbrev Bg:=Option (aF×aF)
def NB(B:Bg)(a:aF):Prop:=∀b l,B=some (b,l)->a≠b
def lu(B:Bg)(H:Hp):Prop:=∀b l,B=some (b,l)->fh H b l
def kh(nb:aF->Prop)(H:Hp):Prop:=∀a,nb a->H a≠none
structure Kp(S:aF->Prop)(F:List aF)(H H':Hp):Prop where
 own:∀a∈F,∀o,H a=some o->H' a=some o
 lst:∀a xs,¬S a->H a=some (.lst xs)->H' a=some (.lst xs)
 tup:∀a xs,¬S a->H a=some (.tup xs)->H' a=some (.tup xs)
 bK:∀a ps,¬S a->Rd H a (.dK ps)->Rd H' a (.dK ps)
def Kp.of{S:aF->Prop}{F:List aF}(h:∀a o,(¬S a\/a∈F)->H a=some o->H' a=some o):Kp S F H H':=
 ⟨λa ha o e=>h a o (.inr ha) e,λa xs n e=>h a _ (.inl n) e,λa xs n e=>h a _ (.inl n) e,λa ps n e=>e.elim (λe=> .inl (h a _ (.inl n) e)) λ⟨o,e⟩=> .inr ⟨o,h a _ (.inl n) e⟩⟩
mutual
theorem ai.kp{S:aF->Prop}{F:List aF}{H H':Hp}(m:Kp S F H H'):∀{d:PyData} {v:V},ai S H d v->ai S H' d v
 | .none,_,h=>by unfold ai at h⊢;exact h
 | .bool _,_,h=>by unfold ai at h⊢;exact h
 | .int _,_,h=>by unfold ai at h⊢;exact h
 | .str _,_,h=>by unfold ai at h⊢;exact h
 | .list ds,_,h=>by unfold ai at h⊢;obtain⟨a,xs,e,n,s,r⟩:=h;exact⟨a,xs,e,n,m.lst _ _ n s,af.kp m r⟩
 | .tuple ds,_,h=>by unfold ai at h⊢;obtain⟨a,xs,e,n,s,r⟩:=h;exact⟨a,xs,e,n,m.tup _ _ n s,af.kp m r⟩
 | .dict kvs,_,h=>by unfold ai at h⊢;obtain⟨a,xs,e,n,s,r⟩:=h;exact⟨a,xs,e,n,m.bK _ _ n s,ay.kp m r⟩
theorem af.kp{S:aF->Prop}{F:List aF}{H H':Hp}(m:Kp S F H H'):∀{ds:List PyData} {vs:List V},af S H ds vs->af S H' ds vs
 |[],_,h=>by unfold af at h⊢;exact h
 |d::ds,_,h=>by unfold af at h⊢;obtain⟨y,ys,e,h1,h2⟩:=h;exact⟨y,ys,e,ai.kp m h1,af.kp m h2⟩
theorem ay.kp{S:aF->Prop}{F:List aF}{H H':Hp}(m:Kp S F H H'):∀{ds:List (PyData×PyData)} {vs:List (Key×V)},ay S H ds vs->ay S H' ds vs
 |[],_,h=>by unfold ay at h⊢;exact h
 |d::ds,_,h=>by unfold ay at h⊢;obtain⟨y,ys,e,h1,h2⟩:=h;exact⟨y,ys,e,cJ.kp m h1,ay.kp m h2⟩
theorem cJ.kp{S:aF->Prop}{F:List aF}{H H':Hp}(m:Kp S F H H'):∀{d:PyData×PyData} {v:Key×V},cJ S H d v->cJ S H' d v
 |(k,d),_,h=>by unfold cJ at h⊢;exact⟨h.1,ai.kp m h.2⟩
end
structure Cu where
 v:V
 F:List aF
 f:Bool
 P:(aF->Prop)->Hp->Prop
 keep:∀{S:aF->Prop} {H H':Hp},Kp S F H H'->P S H->P S H'
 av:∀{S S':aF->Prop} {H:Hp},(∀a,S' a->S a)->P S H->P S' H
 fresh:∀{S:aF->Prop} {H:Hp} {p:aF},H p=none->P S H->P (λa=>S a\/a=p) H
inductive HD where
 |d (x:PyData)|fz (o:Obj) (ps:List (Key×V))|th (c:Cu)
def gG(S:aF->Prop)(H:Hp):HD->V->Prop
 | .d x,v=>ai S H x v
 | .fz o ps,v=>∃a,v= .ref a/\¬S a/\H a=some (.cV o (.dK ps))
 | .th c,v=>v=c.v/\(∀a∈c.F,¬S a/\H a≠none)/\c.P S H
theorem gG.keep{S:aF->Prop}{H H':Hp}{x:HD}{v:V}(h:gG S H x v)(b:bP S H H'):gG S H' x v:=by
  cases x with
  |d x=>exact ai.keep b h
  |fz o ps=>obtain⟨a,e,n,q⟩:=h;exact⟨a,e,n,b _ _ n q⟩
  | th c =>
    obtain⟨e,n,q⟩:=h;refine⟨e,λa m=>⟨(n a m).1,?_⟩,c.keep (.of λa o m q=>b a o (m.elim id λm=>(n a m).1) q) q⟩;cases z:H a with
    |none=>exact absurd z (n a m).2
    |some o=>rw[b a o (n a m).1 z];exact jP _
theorem gG.av{S S':aF->Prop}{H:Hp}{x:HD}{v:V}(h:gG S H x v)(b:∀a,S' a->S a):gG S' H x v:=by
 cases x with
 |d x=>exact ai.av b h
 |fz o ps=>obtain⟨a,e,n,q⟩:=h;exact⟨a,e,λz=>n (b a z),q⟩
 |th c=>obtain⟨e,n,q⟩:=h;exact⟨e,λa m=>⟨λz=>(n a m).1 (b a z),(n a m).2⟩,c.av b q⟩
theorem gG.fresh{S:aF->Prop}{H:Hp}{x:HD}{v:V}{p:aF}(h:gG S H x v)(hp:H p=none):gG (λa=>S a\/a=p) H x v:=by
 cases x with
 |d x=>exact ai.fresh hp h
 |fz o ps=>obtain⟨a,e,n,q⟩:=h;exact⟨a,e,λz=>z.elim n (jJ q hp),q⟩
 |th c=>obtain⟨e,n,q⟩:=h;exact⟨e,λa m=>⟨λz=>z.elim (n a m).1 λy=>(n a m).2 (by rw[y];exact hp),(n a m).2⟩,c.fresh hp q⟩
structure Gx where
 B:Bg
 H0:Hp
 A:aF->Prop
 hold:List (Bool×HD×V):=[]
inductive Sl where
 |no|d (f:Bool) (d:PyData)|own (a:aF) (f:Bool) (ds:List PyData)|aG|raw (v:V)|bK (a:aF) (f:Bool) (ks:List (Int×PyData))|cu (c:Cu)
noncomputable def Sl.adr:Sl->List aF
 | .own a _ _=>[a]
 | .bK a _ _=>[a]
 | .cu c=>c.F
 |_=>[]
@[reducible] noncomputable def cP(p:Int×PyData):PyData×PyData:=(.int p.1,p.2)
noncomputable abbrev Rh:=List Sl
def Gx.S(G:Gx)(nb:aF->Prop)(f:Bool):aF->Prop:=λa=>nb a\/G.A a\/¬NB G.B a\/(f=true/\G.H0 a≠none)
def rP(G:Gx)(nb:aF->Prop)(H:Hp)(x:Option V):Sl->Prop
 | .no=>True
 | .d f d=>∃v,x=some v/\ai (G.S nb f) H d v
 | .own a f ds=>x=some (.ref a)/\nb a/\NB G.B a/\∃xs,H a=some (.lst xs)/\af (G.S nb f) H ds xs
 | .aG=>∃b l,G.B=some (b,l)/\x=some (.ref b)
 | .raw v=>x=some v
 | .bK a f ks=>x=some (.ref a)/\nb a/\NB G.B a/\∃ps,H a=some (.dK ps)/\ay (G.S nb f) H (ks.map cP) ps
 | .cu c=>x=some c.v/\(∀a∈c.F,nb a/\NB G.B a)/\c.P (G.S nb c.f) H
structure Wd(G:Gx)(nb:aF->Prop)(ρ:Rh)(σ:qr)(H:Hp):Prop where
 aG:lu G.B H
 live:kh nb H
 old:∀a o,NB G.B a->G.H0 a=some o->H a=some o
 ez:∀a,nb a->NB G.B a->G.H0 a=none
 gA:kh G.A G.H0
 len:σ.length=ρ.length
 gB:lu G.B G.H0
 eU:∀h∈G.hold,gG (G.S nb h.1) H h.2.1 h.2.2
 ok:∀(i:Nat) (s:Sl),ρ[i]?=some s->∃x,σ[i]?=some x/\rP G nb H x s
 apart:∀(i j:Nat) a f as c g cs,i≠j->ρ[i]?=some (.own a f as)->ρ[j]?=some (.own c g cs)->a≠c
 gz:∀(i j:Nat) a f as c g cs,i≠j->ρ[i]?=some (.bK a f as)->ρ[j]?=some (.bK c g cs)->a≠c
 eZ:∀(i j:Nat) c s,i≠j->ρ[i]?=some (.cu c)->ρ[j]?=some s->∀a∈c.F,a∉s.adr
def Step(B:Bg)(H H':Hp):Prop:=(∀a o,NB B a->H a=some o->H' a=some o)/\lu B H'
section
variable{G:Gx}{B:Bg}{nb:aF->Prop}{ρ:Rh}{σ:qr}{H H1 H2 H':Hp}{f g:Bool}{d:PyData}{ds:List PyData}{v:V}{xs:List V}{a p:aF}
def Step.refl(h:lu B H):Step B H H:=⟨λ_ _ _ e=>e,h⟩
def Step.trans(x:Step B H H1)(y:Step B H1 H2):Step B H H2:=⟨λa o n e=>y.1 a o n (x.1 a o n e),y.2⟩
theorem lu.same(h:lu B H)(s:dG H H'):lu B H':=λb l e=>(h b l e).same s
theorem Step.same(h:lu B H)(s:dG H H'):Step B H H':=⟨λa o _ e=>s a o e,h.same s⟩
def Step.but(s:Step B H H')(h:∀a,¬NB B a->bq a):bP bq H H':=λa o n e=>s.1 a o (jl λz=>n (h a z)) e
def Step.dj(s:Step G.B H H'):bP (G.S nb f) H H':=s.but λa h=> .inr (.inr (.inl h))
def c7(h:g=true->f=true){bq:aF->Prop}(hn:∀a,nb a->bq a):∀a,G.S nb g a->G.S bq f a:=by
 intro a z;rcases z with z|z|z|⟨z,q⟩
 .exact .inl (hn a z)
 .exact .inr (.inl z)
 .exact .inr (.inr (.inl z))
 .exact .inr (.inr (.inr ⟨h z,q⟩))
def NB.oJ(h:lu B H)(n:¬NB B a):H a≠none:=by
 intro e;apply n;intro b l hb z;subst z;obtain⟨_,_,_,_,_,h1,_⟩:=h _ _ hb;rw[h1] at e;cases e
def Wd.ig(W:Wd G nb ρ σ H):kh (G.S nb f) H:=by
 intro a z;rcases z with z|z|z|⟨_,z⟩
 .exact W.live a z
 .by_cases n:NB G.B a
  .cases e:G.H0 a with
   |none=>exact absurd e (W.gA a z)
   |some o=>rw[W.old a o n e];exact jP _
  .exact NB.oJ W.aG n
 .exact NB.oJ W.aG z
 .by_cases n:NB G.B a
  .cases e:G.H0 a with
   |none=>exact absurd e z
   |some o=>rw[W.old a o n e];exact jP _
  .exact NB.oJ W.aG n
def Wd.fresh(W:Wd G nb ρ σ H)(hp:H p=none):¬G.S nb f p:=λz=>W.ig p z hp
def rP.step{x:Option V}{s:Sl}(st:Step G.B H H')(h:rP G nb H x s):rP G nb H' x s:=by
  cases s with
  |no=>trivial
  |d f d=>obtain⟨v,e,h⟩:=h;exact⟨v,e,h.keep st.dj⟩
  |own a f ds=>obtain⟨e,n,q,xs,hx,hd⟩:=h;exact⟨e,n,q,xs,st.1 _ _ q hx,hd.keep st.dj⟩
  |aG=>exact h
  |raw v=>exact h
  |bK a f ks=>obtain⟨e,n,q,xs,hx,hd⟩:=h;exact⟨e,n,q,xs,st.1 _ _ q hx,hd.keep st.dj⟩
  | cu c =>
    obtain⟨e,n,p⟩:=h;refine⟨e,n,c.keep (.of λa o ha e=>st.1 a o ?_ e) p⟩;rcases ha with ha|ha
    · exact jl λz=>ha (.inr (.inr (.inl z)))
    · exact(n a ha).2
def UN(n:NB B a)(st:Step B H H')(h:H a≠none):H' a≠none:=by
 cases e:H a with
 |none=>exact absurd e h
 |some o=>rw[st.1 a o n e];exact jP _
theorem Wd.step(W:Wd G nb ρ σ H)(st:Step G.B H H'):Wd G nb ρ σ H' where
 aG:=st.2
 live:=λa n=>by
  by_cases q:NB G.B a;·exact UN q st (W.live a n)
  .exact NB.oJ st.2 q
 old:=λa o n e=>st.1 a o n (W.old a o n e)
 ez:=W.ez
 gA:=W.gA
 len:=W.len
 gB:=W.gB
 eU:=λh m=>(W.eU h m).keep st.dj
 ok:=λi s e=>by
  obtain⟨x,e1,h⟩:=W.ok i s e;exact⟨x,e1,h.step st⟩
 apart:=W.apart
 gz:=W.gz
 eZ:=W.eZ
theorem Wd.set{i:Nat}{s:Sl}{x:Option V}(W:Wd G nb ρ σ H)(h:rP G nb H x s)(hs:∀a f ds,s= .own a f ds->∀j c g cs,j≠i->ρ[j]?=some (.own c g cs)->a≠c)(hd:∀a f ds,s= .bK a f ds->∀j c g cs,j≠i->ρ[j]?=some (.bK c g cs)->a≠c:=by intro _ _ _ z;cases z)(d:∀a∈s.adr,∀j t,j≠i->ρ[j]?=some t->(∃c,s= .cu c)\/(∃c,t= .cu c)->a∉t.adr:=by intro _ z;cases z):Wd G nb (ρ.set i s) (σ.set i x) H where
 aG:=W.aG
 live:=W.live
 old:=W.old
 ez:=W.ez
 gA:=W.gA
 len:=by rw[fR,fR];exact W.len
 gB:=W.gB
 eU:=W.eU
 ok:=λj t e=>by
  by_cases hij:i=j
  .subst hij;have hl:i<ρ.length:=by have:=(aO.mp e).1;rwa[fR] at this
   rw[cI hl] at e;cases e;exact⟨x,cI (by rw[W.len];exact hl),h⟩
  .rw[bI hij] at e⊢;exact W.ok j t e
 apart:=λj k a f as c g cs b e1 e2=>by
  by_cases hj:i=j
  .subst hj;have hl:i<ρ.length:=by have:=(aO.mp e1).1;rwa[fR] at this
   rw[cI hl] at e1;cases e1;rw[bI b] at e2;exact hs a f as rfl k c g cs (bH b) e2
  .by_cases hk:i=k
   .subst hk;have hl:i<ρ.length:=by have:=(aO.mp e2).1;rwa[fR] at this
    rw[cI hl] at e2;cases e2;rw[bI hj] at e1;exact(hs c g cs rfl j a f as b e1).symm
   .rw[bI hj] at e1;rw[bI hk] at e2;exact W.apart j k a f as c g cs b e1 e2
 gz:=λj k a f as c g cs b e1 e2=>by
  by_cases hj:i=j
  .subst hj;have hl:i<ρ.length:=by have:=(aO.mp e1).1;rwa[fR] at this
   rw[cI hl] at e1;cases e1;rw[bI b] at e2;exact hd a f as rfl k c g cs (bH b) e2
  .by_cases hk:i=k
   .subst hk;have hl:i<ρ.length:=by have:=(aO.mp e2).1;rwa[fR] at this
    rw[cI hl] at e2;cases e2;rw[bI hj] at e1;exact(hd c g cs rfl j a f as b e1).symm
   .rw[bI hj] at e1;rw[bI hk] at e2;exact W.gz j k a f as c g cs b e1 e2
 eZ:=λj k c t b e1 e2 a ha=>by
  by_cases hj:i=j
  .subst hj;have hl:i<ρ.length:=by have:=(aO.mp e1).1;rwa[fR] at this
   rw[cI hl] at e1;cases e1;rw[bI b] at e2;exact d a ha k t (bH b) e2 (.inl ⟨c,rfl⟩)
  .by_cases hk:i=k
   .subst hk;have hl:i<ρ.length:=by have:=(aO.mp e2).1;rwa[fR] at this
    rw[cI hl] at e2;cases e2;rw[bI hj] at e1;exact λz=>d a z j (.cu c) b e1 (.inr ⟨c,rfl⟩) ha
   .rw[bI hj] at e1;rw[bI hk] at e2;exact W.eZ j k c t b e1 e2 a ha
def Wd.mz(W:Wd G nb ρ σ H)(h:ai (G.S nb f) H d v):Wd G nb (ρ.set i (.d f d)) (σ.set i (some v)) H:=W.set ⟨v,rfl,h⟩ λ_ _ _ e=>by cases e
inductive Wk:Rh->Rh->Prop
 |nil:Wk [] []
 |no {s:Sl} {r r':Rh} (h:Wk r r'):Wk (.no::r) (s::r')
 |eq {s:Sl} {r r':Rh} (h:Wk r r'):Wk (s::r) (s::r')
theorem Wk.at:∀{r r':Rh} {i:Nat} {s:Sl},Wk r r'->r[i]?=some s->s= .no/\(∃t,r'[i]?=some t)\/r'[i]?=some s
 |_,_,_,_, .nil,e=>by simp at e
 |_,_,0,_, .no h,e=>by simp at e;subst e;exact .inl ⟨rfl,_,rfl⟩
 |_,_,0,_, .eq h,e=>by simp at e;subst e;exact .inr rfl
 |_,_,i+1,_, .no h,e=>by simpa using Wk.at (i:=i) h (by simpa using e)
 |_,_,i+1,_, .eq h,e=>by simpa using Wk.at (i:=i) h (by simpa using e)
def Wk.len{r r':Rh}(h:Wk r r'):r.length=r'.length:=by
 induction h with
 |nil=>rfl
 |no _ ih=>simp[ih]
 |eq _ ih=>simp[ih]
def Wd.wk{J:Rh}(W:Wd G nb J σ H)(h:Wk ρ J):Wd G nb ρ σ H where
 aG:=W.aG
 live:=W.live
 old:=W.old
 ez:=W.ez
 gA:=W.gA
 len:=by rw[h.len];exact W.len
 gB:=W.gB
 eU:=W.eU
 ok:=λi s e=>by
  rcases h.at e with ⟨rfl,t,e'⟩|e'
  .obtain⟨x,e1,_⟩:=W.ok i t e';exact⟨x,e1,trivial⟩
  .exact W.ok i s e'
 apart:=λi j a f as c g cs hij e1 e2=>by
  rcases h.at e1 with ⟨z,_⟩|oj
  .cases z
  rcases h.at e2 with ⟨z,_⟩|e2'
  .cases z
  exact W.apart i j a f as c g cs hij oj e2'
 gz:=λi j a f as c g cs hij e1 e2=>by
  rcases h.at e1 with ⟨z,_⟩|oj
  .cases z
  rcases h.at e2 with ⟨z,_⟩|e2'
  .cases z
  exact W.gz i j a f as c g cs hij oj e2'
 eZ:=λi j c s hij e1 e2 a ha=>by
  rcases h.at e1 with ⟨z,_⟩|oj
  .cases z
  rcases h.at e2 with ⟨z,_⟩|e2'
  .subst z;exact λz=>by cases z
  exact W.eZ i j c s hij oj e2' a ha
def Wd.more(W:Wd G nb ρ σ H)(hp:H p=none){o:HO}:Wd G (λa=>nb a\/a=p) ρ σ (upd H p o):=by
 have N:dG H (upd H p o):=dB hp;have hN:NB G.B p:=λb l e z=>by
  subst z;obtain⟨_,_,_,_,_,h1,_⟩:=W.aG _ _ e;rw[h1] at hp;cases hp
 have W':=W.step (Step.same W.aG N);have hA:∀f a,G.S (λa=>nb a\/a=p) f a->(G.S nb f a\/a=p):=λf a z=>by
  rcases z with (z|z)|z|z|z
  .exact .inl (.inl z)
  .exact .inr z
  .exact .inl (.inr (.inl z))
  .exact .inl (.inr (.inr (.inl z)))
  .exact .inl (.inr (.inr (.inr z)))
 refine⟨W'.aG,λa n=>?_,W'.old,λa n q=>?_,W.gA,W.len,W.gB,λh m=>(((W.eU h m).fresh hp).av (hA h.1)).keep (bP.of N),λi s e=>?_,W.apart,W.gz,W.eZ⟩
 .rcases n with n|n
  .exact W'.live a n
  .subst n;rw[bx];exact jP _
 .rcases n with n|n
  .exact W.ez a n q
  .subst n;cases e:G.H0 a with
   |none=>rfl
   |some o=>rw[W.old a o q e] at hp;cases hp
 .obtain⟨x,e1,h⟩:=W.ok i s e;refine⟨x,e1,?_⟩;cases s with
  |no=>trivial
  |d f d=>obtain⟨v,e,h⟩:=h;exact⟨v,e,((h.fresh hp).av (hA f)).keep (bP.of N)⟩
  |own a f ds=>obtain⟨e,n,q,xs,hx,hd⟩:=h;exact⟨e, .inl n,q,xs,N _ _ hx,((hd.fresh hp).av (hA f)).keep (bP.of N)⟩
  |aG=>exact h
  |raw v=>exact h
  |bK a f ds=>obtain⟨e,n,q,xs,hx,hd⟩:=h;exact⟨e, .inl n,q,xs,N _ _ hx,((hd.fresh hp).av (hA f)).keep (bP.of N)⟩
  |cu c=>obtain⟨e,n,q⟩:=h;exact⟨e,λa ha=>⟨.inl (n a ha).1,(n a ha).2⟩,c.keep (.of λa o _ e=>N a o e) (c.av (hA c.f) (c.fresh hp q))⟩
def Wd.write(W:Wd G nb ρ σ H){o:HO}(hp:nb p)(hN:NB G.B p)(ho:∀(i:Nat) a f ds,ρ[i]?=some (.own a f ds)->a≠p)(j:∀(i:Nat) a f ds,ρ[i]?=some (.bK a f ds)->a≠p)(J:∀(i:Nat) c,ρ[i]?=some (.cu c)->p∉c.F):Wd G nb ρ σ (upd H p o):=by
  have hl:∀b l,G.B=some (b,l)->p≠l:=λb l e z=>by
    obtain⟨_,_,_,_,_,_,h2,_⟩:=W.gB b l e;rw[<-z,W.ez p hp hN] at h2;cases h2
  have T:lu G.B (upd H p o):=λb l e=>(W.aG b l e).put2 ⟨hN b l e,hl b l e⟩;have bt:∀f,bP (G.S nb f) H (upd H p o):=λf=>bP.set (.inl hp);refine⟨T,λa n=>?_,λa o' n e=>?_,W.ez,W.gA,W.len,W.gB,λh m=>(W.eU h m).keep (bt h.1),λi s e=>?_,W.apart,W.gz,W.eZ⟩
  · by_cases z:a=p
    · subst z;rw[bx];exact jP _
    · rw[aH z];exact W.live a n
  · have z:a≠p:=λz=>by subst z;rw[W.ez a hp n] at e;cases e
    rw[aH z];exact W.old a o' n e
  · obtain⟨x,e1,h⟩:=W.ok i s e
    refine⟨x,e1,?_⟩;cases s with
    |no=>trivial
    |d f d=>obtain⟨v,e,h⟩:=h;exact⟨v,e,h.keep (bt f)⟩
    |own a f ds=>obtain⟨e',n,q,xs,hx,hd⟩:=h;exact⟨e',n,q,xs,by rw[aH (ho i a f ds e)];exact hx,hd.keep (bt f)⟩
    |aG=>exact h
    |raw v=>exact h
    |bK a f ds=>obtain⟨e',n,q,xs,hx,hd⟩:=h;exact⟨e',n,q,xs,by rw[aH (j i a f ds e)];exact hx,hd.keep (bt f)⟩
    | cu c =>
      obtain⟨e',n,q⟩:=h;refine⟨e',n,c.keep (.of λa o' ha g=>?_) q⟩;rw[aH];· exact g
      · rintro rfl
        rcases ha with ha|ha
        · exact ha (.inl hp)
        · exact J i c e ha
end
abbrev Pd:=Bool->PyData->Prop
def Ev(G:Gx)(ρ:Rh)(te:TE)(Φ:Pd):Prop:=∀nb σ H (Q:VK),Wd G nb ρ σ H->(∀f v H' d,Φ f d->Step G.B H H'->ai (G.S nb f) H' d v->Q v H')->te σ H Q
def az(G:Gx)(ρ:Rh)(te:TE)(Φ:Bool->List PyData->Prop):Prop:=∀nb σ H (Q:VK),Wd G nb ρ σ H->
 (∀f a xs H' ds,Φ f ds->Step G.B H H'->H a=none->H' a=some (.lst xs)->af (λx=>G.S nb f x\/x=a) H' ds xs->Q (.ref a) H')->te σ H Q
def Tv(G:Gx)(ρ:Rh)(c:TT)(Φ:Bool->Prop):Prop:=∀nb σ H (Q:Bool->Hp->Prop),Wd G nb ρ σ H->(∀b H',Φ b->Step G.B H H'->Q b H')->c σ H Q
def Ov(G:Gx)(ρ:Rh)(to:TO)(Φ:Option Int->Prop):Prop:=∀nb σ H (Q:Option Int->Hp->Prop),Wd G nb ρ σ H->(∀o H',Φ o->Step G.B H H'->Q o H')->to σ H Q
noncomputable abbrev Fd:=Bool×PyData
def kZ(G:Gx)(nb:aF->Prop)(H:Hp):List Fd->List V->Prop
 |[],vs=>vs=[]
 |e::es,vs=>∃v ws,vs=v::ws/\ai (G.S nb e.1) H e.2 v/\kZ G nb H es ws
def Av(G:Gx)(ρ:Rh)(ta:TA)(Φ:List Fd->Prop):Prop:=∀nb σ H (Q:List V->Hp->Prop),Wd G nb ρ σ H->(∀es vs H',Φ es->Step G.B H H'->kZ G nb H' es vs->Q vs H')->ta σ H Q
def Gv(G:Gx)(ρ:Rh)(g:TG)(f:Bool)(d:PyData)(Φ:Rh->Prop):Prop:=∀nb σ H v (Q:qr->Hp->Prop),Wd G nb ρ σ H->ai (G.S nb f) H d v->(∀M J,Φ J->Wd G nb J M H->Q M H)->g v σ H Q
def qu(G:Gx)(ρ:Rh)(g:jV)(f:Bool)(ds:List PyData)(Φ:Rh->Prop):Prop:=∀nb σ H vs (Q:qr->Hp->Prop),Wd G nb ρ σ H->af (G.S nb f) H ds vs->(∀M J,Φ J->Wd G nb J M H->Q M H)->g vs σ H Q
structure DE where
 nx:Rh->Prop
 rt:Pd
 bk:Rh->Prop:=λ_=>False
 ct:Rh->Prop:=λ_=>False
 rw:(aF->Prop)->Rh->V->Hp->Prop:=λ_ _ _ _=>False
structure CB(G:Gx)(E:DE)(D:Ends):Prop where
 nx:∀nb ρ σ H,E.nx ρ->Wd G nb ρ σ H->D.nx σ H
 bk:∀nb ρ σ H,E.bk ρ->Wd G nb ρ σ H->D.bk σ H
 ct:∀nb ρ σ H,E.ct ρ->Wd G nb ρ σ H->D.ct σ H
 rt:∀nb ρ σ f v H d,E.rt f d->Wd G nb ρ σ H->ai (G.S (λ_=>False) f) H d v->D.rt v H
 rw:∀nb ρ σ v H,E.rw nb ρ v H->Wd G nb ρ σ H->D.rt v H
def Sv(G:Gx)(ρ:Rh)(b:TS)(E:DE):Prop:=∀nb σ H D,Wd G nb ρ σ H->CB G E D->b D σ H
noncomputable def jt:PyData->Bool
 | .none=>true| .bool _=>true| .int _=>true| .str _=>true|_=>false
noncomputable def toV:PyData->V
 | .bool b=> .bl b| .int i=> .int i| .str x=> .str x|_=> .aP
section
variable{nb bq:aF->Prop}{H H':Hp}{d e:PyData}{v:V}
def ai.sc(h:jt d=true):ai nb H d (toV d):=by
 cases d<;>first|(cases h;done)|(unfold ai;rfl)
def ai.Cf(h:jt d=true)(q:ai nb H d v):v=toV d:=by
 cases d<;>first|(cases h;done)|(unfold ai at q;exact q)
def ai.jH(h:jt d=true)(q:ai nb H d v):ai bq H' d v:=by
 rw[q.Cf h];exact .sc h
theorem af.jH:∀{ds:List PyData} {xs:List V},ds.all jt=true->af nb H ds xs->af bq H' ds xs
  |[],_,_,q=>by unfold af at q⊢;exact q
  | d :: ds, _, h, q => by
    rw[pA,fQ] at h;unfold af at q⊢;obtain⟨y,ys,e,h1,h2⟩:=q;exact⟨y,ys,e,h1.jH h.1,af.jH h.2 h2⟩
end
section
variable{G:Gx}{ρ:Rh}{Φ Ψ:Pd}{ta tb te:TE}{t:TA}{i:Nat}{f g:Bool}{d e:PyData}{ds es:List PyData}{K:PySem.W.Frag}
def Ev.mono(h:Ev G ρ te Ψ)(q:∀f d,Ψ f d->Φ f d):Ev G ρ te Φ:=λnb σ H Q W z=>h nb σ H Q W λf v H' d p=>z f v H' d (q f d p)
def az.ev(h:az G ρ te λf ds=>Φ f (.list ds)):Ev G ρ te Φ:=λnb σ H Q W z=>h nb σ H Q W λf a xs H' ds p st n e hd=>
 z f _ H' _ p st (.lst (W.fresh n) e (hd.av λ_ x=> .inl x))
namespace Ev
def var(e:ρ[i]?=some (.d f d))(h:Φ f d):Ev G ρ (bZ i) Φ:=λnb σ H Q W z=>by
 obtain⟨x,e1,v,rfl,hd⟩:=W.ok i _ e;exact⟨v,e1,z f v H d h (.refl W.aG) hd⟩
theorem int{n:Int}(h:Φ true (.int n)):Ev G ρ (tC (.int n)) Φ:=λnb σ H Q W z=>z true _ H _ h (.refl W.aG) (.int n)
theorem bl{b:Bool}(h:Φ true (.bool b)):Ev G ρ (tC (.bl b)) Φ:=λnb σ H Q W z=>z true _ H _ h (.refl W.aG) (.bl b)
theorem aP(h:Φ true .none):Ev G ρ (tC .aP) Φ:=λnb σ H Q W z=>z true _ H _ h (.refl W.aG) .aP
def kQ{r:R2}(h:Ev G ρ ta λf x=>Ev G ρ tb λg y=>∀nb σ H u v (Q:VK),Wd G nb ρ σ H->ai (G.S nb f) H x u->ai (G.S nb g) H y v->(∀f w H' d,Φ f d->Step G.B H H'->ai (G.S nb f) H' d w->Q w H')->r u v H Q):Ev G ρ (cQ r ta tb) Φ:=λnb σ H Q W z=>
 h nb σ H _ W λf v1 H1 d1 k s1 O=>k nb σ H1 _ (W.step s1) λg b H2 d2 p2 s2 q2=>p2 nb σ H2 _ _ _ ((W.step s1).step s2) (O.keep s2.dj) q2 λf w H' d p st q=>z f w H' d p (s1.trans (s2.trans st)) q
theorem rI{C:Int->Int->Prop}{k:Int->Int->Int}(h:Ev G ρ ta λ_ x=>∃i,x= .int i/\Ev G ρ tb λ_ y=>∃j,y= .int j/\C i j/\Φ true (.int (k i j))):Ev G ρ (cQ (L2.rI C λi j=> .int (k i j)) ta tb) Φ:=
 kQ (h.mono λf x ⟨i,ex,q⟩=>q.mono λg y ⟨j,r,hc,p⟩ nb σ H u v Q W hu hv z=>by
  subst ex r;exact⟨i,j,hu.cC,hv.cC,hc,z true _ H _ p (.refl W.aG) (.int _)⟩)
theorem j5{k:Int->Int->Int}(h:Ev G ρ ta λ_ x=>∃i,x= .int i/\Ev G ρ tb λ_ y=>∃j,y= .int j/\Φ true (.int (k i j))):Ev G ρ (cQ (L2.j5 λi j=> .int (k i j)) ta tb) Φ:=
 kQ (h.mono λf x ⟨i,ex,q⟩=>q.mono λg y ⟨j,r,p⟩ nb σ H u v Q W hu hv z=>by
  subst ex r;exact⟨i,j,hu.cC,hv.cC,z true _ H _ p (.refl W.aG) (.int _)⟩)
def X3{k:Int->Int->Bool}(h:Ev G ρ ta λ_ x=>∃i,x= .int i/\Ev G ρ tb λ_ y=>∃j,y= .int j/\Φ true (.bool (k i j))):Ev G ρ (cQ (L2.j5 λi j=> .bl (k i j)) ta tb) Φ:=
 kQ (h.mono λf x ⟨i,ex,q⟩=>q.mono λg y ⟨j,r,p⟩ nb σ H u v Q W hu hv z=>by
  subst ex r;exact⟨i,j,hu.cC,hv.cC,z true _ H _ p (.refl W.aG) (.bl _)⟩)
def un{r:V->Hp->VK->Prop}(h:Ev G ρ ta λf x=>∀nb σ H u (Q:VK),Wd G nb ρ σ H->ai (G.S nb f) H x u->(∀f w H' d,Φ f d->Step G.B H H'->ai (G.S nb f) H' d w->Q w H')->r u H Q):Ev G ρ (Ge r ta) Φ:=λnb σ H Q W z=>
 h nb σ H _ W λf v1 H1 d1 k s1 O=>k nb σ H1 _ _ (W.step s1) O λf w H' d p st q=>z f w H' d p (s1.trans st) q
theorem rU{k:Int->Int}(h:Ev G ρ ta λ_ x=>∃i,x= .int i/\Φ true (.int (k i))):Ev G ρ (Ge (L2.rU λi=> .int (k i)) ta) Φ:=
 un (h.mono λf x ⟨i,ex,p⟩ nb σ H u Q W hu z=>by subst ex;exact⟨i,hu.cC,z true _ H _ p (.refl W.aG) (.int _)⟩)
end Ev
inductive iU:PyData->PyData->Bool->Prop
 |ii (i j:Int):iU (.int i) (.int j) (decide (i=j))
 |ni (i:Int):iU .none (.int i) false
 |i_n (i:Int):iU (.int i) .none false
 |nn:iU .none .none true
 |bb (a b:Bool):iU (.bool a) (.bool b) (a==b)
 |ss (x:Str):iU (.str x) (.str x) true
 |sd (x y:Str):iU (.str x) (.str y) (decide (x=y))
theorem iU.v{nb bq:aF->Prop}{H:Hp}{x y:PyData}{b:Bool}{u v:V}(h:iU x y b)(hu:ai nb H x u)(hv:ai bq H y v):Hw u v=true/\decide (u=v)=b:=by
 cases h<;>(unfold ai at hu hv;subst hu hv;refine⟨rfl,?_⟩);·exact R.G7
 .rfl
 .rfl
 .rfl
 .rename_i a b;cases a<;>cases b<;>rfl
 .exact decide_eq_true rfl
 .rename_i x y
  by_cases c:x=y;·subst c;rw[decide_eq_true rfl,decide_eq_true rfl]
  .rw[decide_eq_false c,decide_eq_false (λz=>c (V.str.inj z))]
def iU.self{d:PyData}(h:jt d=true):iU d d true:=by
 cases d<;>first|(cases h;done)|skip
 .exact .nn
 .rename_i b;have:=iU.bb b b;rwa[beq_self_eq_true] at this
 .rename_i i;have:=iU.ii i i;rwa[decide_eq_true rfl] at this
 .exact .ss _
namespace Ev
def eq(h:Ev G ρ ta λ_ x=>Ev G ρ tb λ_ y=>∃b,iU x y b/\Φ true (.bool b)):Ev G ρ (cQ J7 ta tb) Φ:=
 kQ (h.mono λf x q=>q.mono λg y ⟨b,e,p⟩ nb σ H u v Q W hu hv z=>by
  obtain⟨h1,h2⟩:=e.v hu hv;exact⟨h1,by rw[h2];exact z true _ H _ p (.refl W.aG) (.bl _)⟩)
def ne(h:Ev G ρ ta λ_ x=>Ev G ρ tb λ_ y=>∃b,iU x y b/\Φ true (.bool !b)):Ev G ρ (cQ DO ta tb) Φ:=
 kQ (h.mono λf x q=>q.mono λg y ⟨b,e,p⟩ nb σ H u v Q W hu hv z=>by
  obtain⟨h1,h2⟩:=e.v hu hv;exact⟨h1,by rw[h2];exact z true _ H _ p (.refl W.aG) (.bl _)⟩)
def R3{b:Bool}(h:Ev G ρ ta λ_ x=>Ev G ρ tb λ_ y=>cH x=true/\cH y=true/\Φ true (.bool (du x y !=b))):Ev G ρ (cQ (Gb b) ta tb) Φ:=
 kQ (h.mono λf x q=>q.mono λg y ⟨h1,h2,p⟩ nb σ H u v Q W hu hv z=>
  ⟨G.S nb false,x,y,hu.av (c7 (λz=>by cases z) λ_ z=>z),hv.av (c7 (λz=>by cases z) λ_ z=>z),h1,h2,z true _ H _ p (.refl W.aG) (.bl _)⟩)
end Ev
noncomputable def vK:PyData->Bool
 | .none=>true
 |_=>false
def OA{d:PyData}{v:V}(h:ai nb H d v):decide (v= .aP)=vK d:=by
 cases d<;>unfold ai at h
 all_goals first
  |(subst h;rfl)
  |(obtain⟨a,xs,rfl,_⟩:=h;rfl)
  |exact h.elim
namespace Ev
def is(h:Ev G ρ ta λ_ x=>Φ true (.bool (vK x))):Ev G ρ (cQ OM ta (tC .aP)) Φ:=
 kQ (h.mono λf x p=>Ev.aP λnb σ H u v Q W hu hv z=>⟨hv.xS,by rw[OA hu];exact z true _ H _ p (.refl W.aG) (.bl _)⟩)
def XZ(h:Ev G ρ ta λ_ x=>Φ true (.bool !vK x)):Ev G ρ (cQ AL ta (tC .aP)) Φ:=
 kQ (h.mono λf x p=>Ev.aP λnb σ H u v Q W hu hv z=>⟨hv.xS,by rw[OA hu];exact z true _ H _ p (.refl W.aG) (.bl _)⟩)
end Ev
theorem af.bE{nb:aF->Prop}{H:Hp}{ds:List PyData}{xs:List V}{k:Int}{e:PyData}(h:af nb H ds xs)(q:L2.bE ds k=some e):∃v,L2.bE xs k=some v/\ai nb H e v:=by
 unfold L2.bE at q⊢;rw[h.length];cases z:dS ds.length k with
 |none=>rw[z] at q;cases q
 |some j=>rw[z] at q;exact h.get q
namespace Ev
def Od(h:Ev G ρ ta λf x=>∃ds,x= .list ds/\Ev G ρ tb λ_ y=>∃k,y= .int k/\∃e,bE ds k=some e/\Φ f e):Ev G ρ (cQ (bO K) ta tb) Φ:=
 kQ (h.mono λf x ⟨ds,ex,q⟩=>q.mono λg y ⟨k,r,e,he,p⟩ nb σ H u v Q W hu hv z=>by
  subst ex r;obtain⟨a,xs,rfl,n,hx,hd⟩:=hu.dW;obtain⟨w,hw,N⟩:=hd.bE he;exact⟨a,xs,k,w,rfl,hv.cC, .of hx,hw,z f _ H _ p (.refl W.aG) N⟩)
def MA(h:Ev G ρ ta λf x=>∃ds,x= .tuple ds/\Ev G ρ tb λ_ y=>∃k,y= .int k/\∃e,bE ds k=some e/\Φ f e):Ev G ρ (cQ (bJ K) ta tb) Φ:=
 kQ (h.mono λf x ⟨ds,ex,q⟩=>q.mono λg y ⟨k,r,e,he,p⟩ nb σ H u v Q W hu hv z=>by
  subst ex r;obtain⟨a,xs,rfl,n,hx,hd⟩:=hu.ofT;obtain⟨w,hw,N⟩:=hd.bE he;exact⟨a,xs,k,w,rfl,hv.cC, .of hx,hw,z f _ H _ p (.refl W.aG) N⟩)
def SX(e:ρ[i]?=some (.own a f ds))(h:Ev G ρ tb λ_ y=>∃k,y= .int k/\∃e,bE ds k=some e/\Φ f e):Ev G ρ (cQ (bO K) (bZ i) tb) Φ:=λnb σ H Q W z=>by
 obtain⟨x,e1,h1,h2,h3,xs,hx,hd⟩:=W.ok i _ e;subst h1;refine⟨.ref a,e1,h nb σ H _ W λg w H1 y ⟨k,r,e',he,p⟩ s1 hv=>?_⟩;subst r;obtain⟨u,hu,N⟩:=(hd.keep s1.dj).bE he;exact⟨a,xs,k,u,rfl,hv.cC, .of (s1.1 _ _ h3 hx),hu,z f _ H1 _ p s1 N⟩
def E6(h:Ev G ρ ta λ_ x=>∃b,x= .bool b/\if b=true then Ev G ρ tb Φ else Φ true (.bool false)):Ev G ρ (G5 ta tb) Φ:=λnb σ H Q W z=>
 h nb σ H _ W λf v H1 d ⟨b,e,q⟩ s1 hv=>by
  subst e;refine⟨b,by unfold ai at hv;exact hv,?_⟩;cases b with
  |true=>rw[if_pos rfl] at q⊢;exact q nb σ H1 _ (W.step s1) λf v H' d p st=>z f v H' d p (s1.trans st)
  |false=>rw[if_neg dH] at q⊢;exact z true _ H1 _ q s1 (.bl false)
def Hi{c:TT}(h:Tv G ρ c λb=>if b=true then Ev G ρ ta Φ else Ev G ρ tb Φ):Ev G ρ (RQ c ta tb) Φ:=λnb σ H Q W z=>
 h nb σ H _ W λb H1 q s1=>by
  cases b with
  |true=>rw[if_pos rfl] at q⊢;exact q nb σ H1 _ (W.step s1) λf v H' d p st=>z f v H' d p (s1.trans st)
  |false=>rw[if_neg dH] at q⊢;exact q nb σ H1 _ (W.step s1) λf v H' d p st=>z f v H' d p (s1.trans st)
end Ev
namespace Tv
variable{Θ:Bool->Prop}{t u:TT}
def test(h:Ev G ρ te λ_ x=>∃b,x= .bool b/\Θ b):Tv G ρ (J9 te) Θ:=λnb σ H Q W z=>
 h nb σ H _ W λf v H1 d ⟨b,e,q⟩ s1 hv=>by subst e;exact⟨b,by unfold ai at hv;exact hv,z b H1 q s1⟩
def and(h:Tv G ρ t λb=>if b=true then Tv G ρ u Θ else Θ false):Tv G ρ (HY t u) Θ:=λnb σ H Q W z=>
 h nb σ H _ W λb H1 q s1=>by
  cases b with
  |true=>rw[if_pos rfl] at q⊢;exact q nb σ H1 _ (W.step s1) λb H' p st=>z b H' p (s1.trans st)
  |false=>rw[if_neg dH] at q⊢;exact z false H1 q s1
def or(h:Tv G ρ t λb=>if b=true then Θ true else Tv G ρ u Θ):Tv G ρ (Th t u) Θ:=λnb σ H Q W z=>
 h nb σ H _ W λb H1 q s1=>by
  cases b with
  |false=>rw[if_neg dH] at q⊢;exact q nb σ H1 _ (W.step s1) λb H' p st=>z b H' p (s1.trans st)
  |true=>rw[if_pos rfl] at q⊢;exact z true H1 q s1
def not(h:Tv G ρ t λb=>Θ (!b)):Tv G ρ (Oe t) Θ:=λnb σ H Q W z=>h nb σ H _ W λb H1 q s1=>z _ H1 q s1
def rj(h:Θ true):Tv G ρ sV Θ:=λnb σ H Q W z=>z true H h (.refl W.aG)
end Tv
def Cq(K:PySem.W.Frag)(ta:TE):TT:=λσ H Q=>ta σ H λx H1=>∃k,JQ K x H1 k/\Q k H1
def Tv.Qe{Θ:Bool->Prop}(h:Ev G ρ te λ_ x=>∃b,x= .bool b/\Θ b):Tv G ρ (Cq K te) Θ:=λnb σ H Q W z=>
 h nb σ H _ W λf v H1 d ⟨b,e,q⟩ s1 hv=>by subst e;exact⟨b,by unfold ai at hv;subst hv;rfl,z b H1 q s1⟩
namespace Av
variable{Θ:List Fd->Prop}
def nil(h:Θ []):Av G ρ cG Θ:=λnb σ H Q W z=>z [] [] H h (.refl W.aG) rfl
def cons(h:Ev G ρ te λf d=>Av G ρ t λes=>Θ ((f,d)::es)):Av G ρ (bV te t) Θ:=λnb σ H Q W z=>
 h nb σ H _ W λf v H1 d k s1 O=>k nb σ H1 _ (W.step s1) λes vs H2 p2 s2 q2=>z _ _ H2 p2 (s1.trans s2) ⟨v,vs,rfl,O.keep s2.dj,q2⟩
def NF{is:List Int}(h:Θ (is.map λi=>(true, .int i))):Av G ρ (Cd is) Θ:=λnb σ H Q W z=>z _ _ H h (.refl W.aG) (by
 clear h;induction is with
 |nil=>rfl
 |cons i r ih=>exact⟨_,_,rfl, .int i,ih⟩)
end Av
noncomputable def kI(es:List Fd):Bool:=es.all (·.1)
theorem kZ.all{nb:aF->Prop}{H:Hp}:∀{es:List Fd} {vs:List V} {f:Bool},kZ G nb H es vs->(f=true->kI es=true)->af (G.S nb f) H (es.map (·.2)) vs
  |[],_,_,h,_=>by unfold kZ at h;subst h;exact .nil
  | e :: es, _, f, h, hf => by
    obtain⟨v,ws,rfl,h1,h2⟩:=h;refine .cons (h1.av (c7 (λz=>?_) λ_ z=>z)) (h2.all λz=>?_);· have:=hf z;simp only[kI,pA,fQ] at this;exact this.1
    · have:=hf z;simp only[kI,pA,fQ] at this;exact this.2
def kZ.len{es:List Fd}(h:kZ G nb H es vs):vs.length=es.length:=by
 have:=(h.all (f:=false) (λz=>by cases z)).length;simpa using this
def az.lst{Φ:Bool->List PyData->Prop}(h:Av G ρ t λes=>es.length<=10000/\Φ (kI es) (es.map (·.2))):az G ρ (qt t) Φ:=λnb σ H Q W z=>
  h nb σ H _ W λes vs H1 ⟨hl,p⟩ s1 O=>⟨dP (by rw[O.len];exact hl) ⋯,λa ha=>by
    have W1:=W.step s1;refine z _ a vs _ _ p (s1.trans (.same W1.aG (dB ha))) ?_ bx (((O.all λz=>z).fresh ha).keep (bP.of (dB ha)));cases e:H a with
    |none=>rfl
    | some o =>
      by_cases n:NB G.B a;· rw[s1.1 a o n e] at ha;cases ha
      · exact absurd ha (NB.oJ s1.2 n)⟩
theorem Ev.lst(h:Av G ρ t λes=>es.length<=10000/\Φ (kI es) (.list (es.map (·.2)))):Ev G ρ (qt t) Φ:=(az.lst (Φ:=λf ds=>Φ f (.list ds)) h).ev
end
def fZ(K:PySem.W.Frag):List V->Hp->VK->Prop:=λxs H Q=>∃p ys,xs=[.ref p]/\(aV K H p ys\/iP K H p ys)/\Q (.int ys.length) H
def gQ:iF X (.builtin "len") (fZ X.K):=QM
def Lm:List V->Hp->VK->Prop:=λxs H Q=>∃i j,xs=[.int i, .int j]/\Q (.int (if j<i then j else i)) H
def K9:List V->Hp->VK->Prop:=λxs H Q=>(∃i,xs=[.int i]/\Q (.int i) H)\/∃k,xs=[.bl k]/\Q (.int (if k then 1 else 0)) H
def acV(hc:X.calm=true):iF X (.builtin "min") Lm:=NW hc
def Sa:iF X (.type "int") K9:=T6
noncomputable def ko(xs:List α)(lo hi:Option Int):List α:=(xs.drop (HT.gb xs.length 0 lo)).take (HT.gb xs.length xs.length hi-HT.gb xs.length 0 lo)
def af.cut{lo hi:Option Int}(h:af nb H ds xs):af nb H (ko ds lo hi) (nk xs lo hi):=by
 unfold ko nk;rw[h.length];exact(h.drop _).take _
noncomputable def fc(ds:List PyData):Bool:=ds.all jt
section
variable{G:Gx}{ρ:Rh}{Φ Ψ:Pd}{ta tb te:TE}{t:TA}{i:Nat}{f g:Bool}{d e:PyData}{ds es:List PyData}{K:PySem.W.Frag}
def Wd.none_of(W:Wd G nb ρ σ H)(s1:Step G.B H H1)(ha:H1 a=none):H a=none:=by
  cases e:H a with
  |none=>rfl
  | some o =>
    by_cases n:NB G.B a;· rw[s1.1 a o n e] at ha;cases ha
    · exact absurd ha (NB.oJ s1.2 n)
def az.fin{Q:VK}{Φ:Bool->List PyData->Prop}(W:Wd G nb ρ σ H)(s1:Step G.B H H1)(ha:H1 a=none)(hd:af (G.S nb f) H1 ds xs)(p:Φ (f||fc ds) ds)
  (z:∀f a xs H' ds,Φ f ds->Step G.B H H'->H a=none->H' a=some (.lst xs)->af (λx=>G.S nb f x\/x=a) H' ds xs->Q (.ref a) H'):Q (.ref a) (upd H1 a (.lst xs)):=by
 refine z _ a xs _ ds p (s1.trans (.same s1.2 (dB ha))) (W.none_of s1 ha) bx ?_;cases hs:fc ds with
 |true=>exact af.jH hs hd
 |false=>rw[p7];exact(hd.fresh ha).keep (bP.of (dB ha))
namespace Ov
variable{Θ:Option Int->Prop}
theorem none(h:Θ none):Ov G ρ Df Θ:=λnb σ H Q W z=>z _ H h (.refl W.aG)
theorem some(h:Ev G ρ te λ_ x=>∃k,x= .int k/\Θ (some k)):Ov G ρ (JE te) Θ:=λnb σ H Q W z=>
 h nb σ H _ W λf v H1 d ⟨k,e,q⟩ s1 hv=>by subst e;exact⟨k,hv.cC,z _ H1 q s1⟩
end Ov
namespace az
variable{Θ:Bool->List PyData->Prop}
def sl{tl th:TO}(h:Ev G ρ te λf x=>∃ds,x= .list ds/\Ov G ρ tl λlo=>Ov G ρ th λhi=>Θ (f||fc (ko ds lo hi)) (ko ds lo hi)):az G ρ (vR (mC K) te tl th) Θ:=λnb σ H Q W z=>
 h nb σ H _ W λf v H1 d ⟨ds,e,q⟩ s1 hv=>q nb σ H1 _ (W.step s1) λlo H2 q2 s2=>q2 nb σ H2 _ ((W.step s1).step s2) λhi H3 q3 s3=>by
  subst e;obtain⟨a,xs,rfl,n,hx,hd⟩:=((hv.keep s2.dj).keep s3.dj).dW;exact⟨a,xs,rfl, .of hx,λp hp=>az.fin W (s1.trans (s2.trans s3)) hp hd.cut q3 z⟩
def listOf(h:Ev G ρ te λf x=>∃ds,(x= .list ds\/x= .tuple ds)/\Θ (f||fc ds) ds):az G ρ (ir (jN K) (bV te cG)) Θ:=λnb σ H Q W z=>
 h nb σ H _ W λf v H1 d ⟨ds,e,q⟩ s1 hv=>by
  rcases e with e|e
  .subst e;obtain⟨a,xs,rfl,n,hx,hd⟩:=hv.dW;exact⟨a,xs,rfl, .inl (.of hx),λp hp=>az.fin W s1 hp hd q z⟩
  .subst e;obtain⟨a,xs,rfl,n,hx,hd⟩:=hv.ofT;exact⟨a,xs,rfl, .inr (.of hx),λp hp=>az.fin W s1 hp hd q z⟩
def cat(h:Ev G ρ ta λf x=>∃ds,x= .list ds/\Ev G ρ tb λg y=>∃es,y= .list es/\ds.length+es.length<=10000/\Θ ((f && g)||fc (ds++es)) (ds++es)):az G ρ (cQ Hq ta tb) Θ:=λnb σ H Q W z=>
 h nb σ H _ W λf v H1 d ⟨ds,e,q⟩ s1 hv=>q nb σ H1 _ (W.step s1) λg u H2 d2 ⟨es,e2,hl,p⟩ s2 hu=>by
  subst e e2;obtain⟨a,xs,rfl,n,hx,hd⟩:=(hv.keep s2.dj).dW;obtain⟨c,ys,rfl,m,hy,hc⟩:=hu.dW;refine⟨a,c,xs,ys,rfl,rfl,hx,hy,dP (by rw[hd.length,hc.length];exact hl) ⋯,λj hp=>az.fin (f:=f && g) W (s1.trans s2) hp ?_ p z⟩;exact af.append (hd.av (c7 (λz=>(fQ _ _▸z).1) λ_ z=>z)) (hc.av (c7 (λz=>(fQ _ _▸z).2) λ_ z=>z))
end az
namespace Ev
theorem sl{tl th:TO}(h:Ev G ρ te λf x=>∃ds,x= .list ds/\Ov G ρ tl λlo=>Ov G ρ th λhi=>Φ (f||fc (ko ds lo hi)) (.list (ko ds lo hi))):Ev G ρ (vR (mC K) te tl th) Φ:=(az.sl (Θ:=λf ds=>Φ f (.list ds)) h).ev
theorem listOf(h:Ev G ρ te λf x=>∃ds,(x= .list ds\/x= .tuple ds)/\Φ (f||fc ds) (.list ds)):Ev G ρ (ir (jN K) (bV te cG)) Φ:=(az.listOf (Θ:=λf ds=>Φ f (.list ds)) h).ev
theorem cat(h:Ev G ρ ta λf x=>∃ds,x= .list ds/\Ev G ρ tb λg y=>∃es,y= .list es/\ds.length+es.length<=10000/\Φ ((f && g)||fc (ds++es)) (.list (ds++es))):Ev G ρ (cQ Hq ta tb) Φ:=(az.cat (Θ:=λf ds=>Φ f (.list ds)) h).ev
def agy(e:ρ[i]?=some (.own a f ds))(h:Φ true (.int ds.length)):Ev G ρ (ir (fZ K) (bV (bZ i) cG)) Φ:=λnb σ H Q W z=>by
 obtain⟨x,e1,h1,h2,h3,xs,hx,hd⟩:=W.ok i _ e;subst h1;exact⟨.ref a,e1,a,xs,rfl, .inl (.of hx),by rw[hd.length];exact z true _ H _ h (.refl W.aG) (.int _)⟩
def min2(h:Ev G ρ ta λ_ x=>∃i,x= .int i/\Ev G ρ tb λ_ y=>∃j,y= .int j/\Φ true (.int (if j<i then j else i))):Ev G ρ (ir Lm (bV ta (bV tb cG))) Φ:=λnb σ H Q W z=>
 h nb σ H _ W λf v H1 d ⟨i,e,q⟩ s1 hv=>q nb σ H1 _ (W.step s1) λg u H2 d2 ⟨j,e2,p⟩ s2 hu=>by
  subst e e2;exact⟨i,j,by rw[hv.cC,hu.cC],z true _ H2 _ p (s1.trans s2) (.int _)⟩
def F8(h:Ev G ρ ta λ_ x=>∃b,x= .bool b/\Φ true (.int (if b then 1 else 0))):Ev G ρ (ir K9 (bV ta cG)) Φ:=λnb σ H Q W z=>
 h nb σ H _ W λf v H1 d ⟨b,e,q⟩ s1 hv=>by subst e;unfold ai at hv;subst hv;exact .inr ⟨b,rfl,z true _ H1 _ q s1 (.int _)⟩
end Ev
abbrev DF:=List PyData->Pd->Prop
def bF(n:Nat)(F:DF):Sp:=λvs H Q _=>vs.length=n/\∃(nb:aF->Prop) (ds:List PyData),kh nb H/\af nb H ds vs/\F ds λf d=>∀v H',dG H H'->ai (λa=>nb a\/(f=true/\H a≠none)) H' d v->Q v H'
def iO(n:Nat)(F:DF):Sp:=λvs H Q _=>vs.length=n/\∃(b l:aF) (ws:List V) (nb:aF->Prop) (ds:List PyData),vs= .ref b::ws/\fh H b l/\kh nb H/\nb b/\af nb H ds ws/\
 F ds λf d=>∀v H',bP (Nb b) H H'->fh H' b l->ai (λa=>nb a\/(f=true/\H a≠none)) H' d v->Q v H'
def cW(F:DF):Prop:=∀ds (Φ Ψ:Pd),F ds Φ->(∀f d,Φ f d->Ψ f d)->F ds Ψ
def Ev.dh{F:DF}(hm:cW F)(h:Av G ρ t λes=>es.length=n/\F (es.map (·.2)) λf d=>Φ (f||kI es) d):Ev G ρ (iS (bF n F) [] E0 t) Φ:=λnb σ H Q W z=>
 h nb σ H _ W λes vs H1 ⟨hl,p⟩ s1 O=>by
  have W1:=W.step s1;rw[jg];refine⟨by rw[O.len,hl],G.S nb (kI es),es.map (·.2),W1.ig,O.all λz=>z,hm _ _ _ p λf d hp v H' A hd=>z _ v H' d hp (s1.trans (.same W1.aG A)) (hd.av λa q=>?_)⟩;cases f with
  |false=>rw[sS] at q;exact .inl q
  |true=>exact .inr ⟨rfl,W1.ig a q⟩
def Step.zv{l:aF}(T:G.B=some (b,l))(bt:bP (Nb b) H H')(c:fh H' b l):Step G.B H H':=
 ⟨λa o n e=>bt a o (n b l T) e,λk p e=>by rw[T] at e;cases e;exact c⟩
def Wd.zG(W:Wd G nb ρ σ H)(e:ρ[i]?=some .aG):∃b l,G.B=some (b,l)/\σ[i]?=some (some (.ref b))/\fh H b l:=by
 obtain⟨x,e1,b,l,T,rfl⟩:=W.ok i _ e;exact⟨b,l,T,e1,W.aG b l T⟩
def Ev.oU{F:DF}(hm:cW F)(e:ρ[i]?=some .aG)(h:Av G ρ t λes=>es.length+1=n/\F (es.map (·.2)) λf d=>Φ (f||kI es) d):Ev G ρ (iS (iO n F) [] E0 (bV (bZ i) t)) Φ:=λnb σ H Q W z=>by
 obtain⟨b,l,T,e1,B⟩:=W.zG e;refine⟨.ref b,e1,h nb σ H _ W λes vs H1 ⟨hl,p⟩ s1 O=>?_⟩;have W1:=W.step s1;show iO n F ((V.ref b::vs)++[]) H1 Q E0;rw[jg];have hb:∀f,G.S nb f b:=λf=> .inr (.inr (.inl λn=>n b l T rfl));refine⟨by rw[eH,O.len,hl],b,l,vs,G.S nb (kI es),es.map (·.2),rfl,W1.aG b l T,W1.ig,hb _,O.all λz=>z,hm _ _ _ p λf d hp v H' bt c hd=>z _ v H' d hp (s1.trans (.zv T bt c)) (hd.av λa q=>?_)⟩;cases f with
 |false=>rw[sS] at q;exact .inl q
 |true=>exact .inr ⟨rfl,W1.ig a q⟩
def Ev.draw(e:ρ[i]?=some .aG)(h:Ev G ρ te λ_ x=>∃m:Int,x= .int m/\0<m/\Sm m/\∀r:Int,0<=r->r<m->Φ true (.int r)):Ev G ρ (iS lZ [] E0 (bV (bZ i) (bV te cG))) Φ:=λnb σ H Q W z=>by
 obtain⟨b,l,T,e1,B⟩:=W.zG e;refine⟨.ref b,e1,h nb σ H _ W λf v H1 d ⟨m,s,h1,h2,p⟩ s1 hv=>?_⟩;subst s;exact⟨b,l,m,by rw[hv.cC];rfl,s1.2 b l T,h1,h2,λr H' M U bt c=>z true _ H' _ (p r M U) (s1.trans (.zv T bt c)) (.int r)⟩
def Ev.total(h:Av G ρ t λes=>∃(p:Int) (prs:List (Int×Int)) (wd:List (Option Int)),es.map (·.2)=[.int p, .list (prs.map Ap), .list (wd.map cT)]/\0<p/\(∀pr∈prs,0<=pr.1/\pr.1<wd.length/\Sm pr.2)/\(∀x,some x∈wd->Sm x)/\Φ true (.int (aQ prs wd%p))):
  Ev G ρ (iS xR [] E0 t) Φ:=λnb σ H Q W z=>
 h nb σ H _ W λes vs H1 ⟨p,prs,wd,e,h1,h2,h3,q⟩ s1 O=>by
  have hd:=O.all (f:=false) (λz=>by cases z);rw[e] at hd;unfold af at hd;obtain⟨y,ys,rfl,d1,hd⟩:=hd;unfold af at hd;obtain⟨y2,ys,rfl,d2,hd⟩:=hd;unfold af at hd;obtain⟨a,ys,rfl,d3,hd⟩:=hd;unfold af at hd;subst hd;exact⟨G.S nb false,p,y2,a,prs,wd,by rw[d1.cC];rfl,d2,d3,h1,h2,h3,z true _ H1 _ q s1 (.int _)⟩
def Ev.whole(h:Ev G ρ te λ_ x=>∃n,x= .int n/\Φ true (.bool true)):Ev G ρ (iS IA [] E0 (bV te cG)) Φ:=λnb σ H Q W z=>
 h nb σ H _ W λf v H1 d ⟨n,e,q⟩ s1 hv=>by subst e;exact⟨n,by rw[hv.cC];rfl,z true _ H1 _ q s1 (.bl _)⟩
namespace Gv
variable{Θ:Rh->Prop}
def name(h:Θ (ρ.set i (.d f d))):Gv G ρ (fB i) f d Θ:=λnb σ H v Q W hv z=>z _ _ h (W.mz hv)
def PB(h:Θ (ρ.set i (.d true d))):Gv G ρ (fB i) true d Θ:=name h
def vz(h:Θ (ρ.set i (.d false d))):Gv G ρ (fB i) f d Θ:=λnb σ H v Q W hv z=>z _ _ h (W.mz (hv.av (c7 (λz=>by cases z) λ_ z=>z)))
def HN(hs:jt d=true)(h:Θ (ρ.set i (.d true d))):Gv G ρ (fB i) f d Θ:=λnb σ H v Q W hv z=>z _ _ h (W.mz (hv.jH hs))
def pM{n:Int}(h:Θ (ρ.set i (.d true (.int n)))):Gv G ρ (fB i) f (.int n) Θ:=HN rfl h
def GS{n:Bool}(h:Θ (ρ.set i (.d true (.bool n)))):Gv G ρ (fB i) f (.bool n) Θ:=HN rfl h
def Ej(h:Θ (ρ.set i (.d true .none))):Gv G ρ (fB i) f .none Θ:=HN rfl h
def tup{n:Nat}{u:jV}(hl:ds.length=n)(h:qu G ρ u f ds Θ):Gv G ρ (qM K n u) f (.tuple ds) Θ:=λnb σ H v Q W hv z=>by
 obtain⟨a,xs,rfl,m,hx,hd⟩:=hv.ofT;exact⟨a,xs,rfl, .of hx,by rw[hd.length];exact hl,h nb σ H xs Q W hd z⟩
def XS(h:Θ ρ):qu G ρ tW f [] Θ:=λnb σ H vs Q W hv z=>by unfold af at hv;exact⟨hv,z _ _ h W⟩
def F0{u:TG}{us:jV}(h:Gv G ρ u f d λg=>qu G g us f ds Θ):qu G ρ (mV u us) f (d::ds) Θ:=λnb σ H vs Q W hv z=>by
 unfold af at hv;obtain⟨y,ys,rfl,h1,h2⟩:=hv;exact⟨y,ys,rfl,h nb σ H y _ W h1 λM J q W'=>q nb M H ys Q W' h2 z⟩
end Gv
namespace Sv
variable{E:DE}{s u:TS}
def seq(h:Sv G ρ s {E with nx:=λg=>Sv G g u E}):Sv G ρ (lW s u) E:=λnb σ H D W K=>h nb σ H _ W ⟨λbq J M H' q W'=>q bq M H' D W' K,K.bk,K.ct,K.rt,K.rw⟩
def next(h:E.nx ρ):Sv G ρ Hs E:=λnb σ H D W K=>K.nx nb ρ σ H h W
def brk(h:E.bk ρ):Sv G ρ YZ E:=λnb σ H D W K=>K.bk nb ρ σ H h W
def cont(h:E.ct ρ):Sv G ρ Vi E:=λnb σ H D W K=>K.ct nb ρ σ H h W
def asg{g:TG}(h:Ev G ρ te λf d=>Gv G ρ g f d E.nx):Sv G ρ (fV te g) E:=λnb σ H D W K=>h nb σ H _ W λf v H1 d q s1 hv=>q nb σ H1 v _ (W.step s1) hv λM J p W'=>K.nx nb J M H1 p W'
def setC(h:Ev G ρ te λf d=>E.nx (ρ.set i (.d f d))):Sv G ρ (ve i te) E:=λnb σ H D W K=>h nb σ H _ W λf v H1 d q s1 hv=>K.nx nb _ _ H1 q ((W.step s1).mz hv)
def GB(h:Ev G ρ te λ_ d=>E.nx (ρ.set i (.d false d))):Sv G ρ (ve i te) E:=λnb σ H D W K=>h nb σ H _ W λf v H1 d q s1 hv=>K.nx nb _ _ H1 q ((W.step s1).mz (hv.av (c7 (λz=>by cases z) λ_ z=>z)))
def drop(h:Ev G ρ te λ_ _=>E.nx ρ):Sv G ρ (p9 te) E:=λnb σ H D W K=>h nb σ H _ W λf v H1 d q s1 hv=>K.nx nb ρ σ H1 q (W.step s1)
def ret(h:Ev G ρ te E.rt):Sv G ρ (t6 te) E:=λnb σ H D W K=>h nb σ H _ W λf v H1 d q s1 hv=>K.rt nb ρ σ f v H1 d q (W.step s1) (hv.av (c7 (λz=>z) λ_ z=>z.elim))
def oR{c:TT}(h:Tv G ρ c λb=>if b=true then Sv G ρ s E else Sv G ρ u E):Sv G ρ (Kq c s u) E:=λnb σ H D W K=>h nb σ H _ W λb H1 q s1=>by
 cases b with
 |true=>rw[if_pos rfl] at q⊢;exact q nb σ H1 D (W.step s1) K
 |false=>rw[if_neg dH] at q⊢;exact q nb σ H1 D (W.step s1) K
def xA(W:Wd G nb ρ σ H)(s1:Step G.B H H1)(ha:H a=none)(e:H1 a=some (.lst xs))(hd:af (λx=>G.S nb f x\/x=a) H1 ds xs):
    Wd G (λx=>nb x\/x=a) (ρ.set i (.own a f ds)) (σ.set i (some (.ref a))) H1:=by
  have hN:NB G.B a:=λb l e z=>by
    subst z;obtain⟨_,_,_,_,_,h1,_⟩:=W.aG _ _ e;rw[h1] at ha;cases ha
  have hA:∀f x,G.S (λx=>nb x\/x=a) f x->(G.S nb f x\/x=a):=λf x z=>by
    rcases z with (z|z)|z|z|z
    · exact .inl (.inl z)
    · exact .inr z
    · exact .inl (.inr (.inl z))
    · exact .inl (.inr (.inr (.inl z)))
    · exact .inl (.inr (.inr (.inr z)))
  have W1:=W.step s1;have W2:Wd G (λx=>nb x\/x=a) ρ σ H1:=by
    refine⟨W1.aG,λx n=>?_,W1.old,λx n q=>?_,W.gA,W.len,W.gB,λh m=>(((W.eU h m).fresh ha).keep (s1.but λx z=> .inl (.inr (.inr (.inl z))))).av (hA h.1),λj s e'=>?_,W.apart,W.gz,W.eZ⟩
    · rcases n with n|n
      · exact W1.live x n
      · subst n;rw[e];exact jP _
    · rcases n with n|n
      · exact W.ez x n q
      · subst n
        cases z:G.H0 x with
        |none=>rfl
        |some o=>rw[W.old x o q z] at ha;cases ha
    · obtain⟨x,e1,h⟩:=W.ok j s e'
      refine⟨x,e1,?_⟩;cases s with
      |no=>trivial
      |d f d=>obtain⟨v,e,h⟩:=h;exact⟨v,e,((h.fresh ha).keep (s1.but λx z=> .inl (.inr (.inr (.inl z))))).av (hA f)⟩
      |own c f es=>obtain⟨e,n,q,xs,hx,hd⟩:=h;exact⟨e, .inl n,q,xs,s1.1 _ _ q hx,((hd.fresh ha).keep (s1.but λx z=> .inl (.inr (.inr (.inl z))))).av (hA f)⟩
      |aG=>exact h
      |raw v=>exact h
      |bK c f es=>obtain⟨e,n,q,xs,hx,hd⟩:=h;exact⟨e, .inl n,q,xs,s1.1 _ _ q hx,((hd.fresh ha).keep (s1.but λx z=> .inl (.inr (.inr (.inl z))))).av (hA f)⟩
      | cu c =>
        obtain⟨e,n,q⟩:=h;refine⟨e,λa ha=>⟨.inl (n a ha).1,(n a ha).2⟩,c.av (hA c.f) (c.keep (.of λx o hx e=>s1.1 x o ?_ e) (c.fresh ha q))⟩;rcases hx with hx|hx
        · exact jl λz=>hx (.inl (.inr (.inr (.inl z))))
        · exact(n x hx).2
  refine W2.set ⟨rfl, .inr rfl,hN,xs,e,hd.av (hA f)⟩ ?_ (λ_ _ _ z=>by cases z) (λx hx j t hj ht hc=>?_)
  rotate_left
  · have hx:x=a:=aZ.mp hx
    subst hx;rcases hc with ⟨c,z⟩|⟨c,rfl⟩
    · cases z
    · exact λz=>W.live x ((W.ok j _ ht).choose_spec.2.2.1 x z).1 ha
  rintro a' f' ds' ⟨rfl,rfl,rfl⟩ j c g cs hj hc z;subst z;obtain⟨x,e1,h1,h2,h3,ys,hy,_⟩:=W.ok j _ hc;rw[hy] at ha;cases ha
def sZ(h:az G ρ te λf ds=>∀a,E.nx (ρ.set i (.own a f ds))):Sv G ρ (fV te (fB i)) E:=λnb σ H D W K=>h nb σ H _ W λf a xs H1 ds q s1 ha e hd=>K.nx _ _ _ H1 (q a) (xA W s1 ha e hd)
def Fq(h:az G ρ te λf ds=>∀a,E.nx (ρ.set i (.own a f ds))):Sv G ρ (ve i te) E:=λnb σ H D W K=>h nb σ H _ W λf a xs H1 ds q s1 ha e hd=>K.nx _ _ _ H1 (q a) (xA W s1 ha e hd)
def rL(W:Wd G nb ρ σ H)(e:ρ[i]?=some (.own a f ds))(hd:af (G.S nb g) H es xs):Wd G nb (ρ.set i (.own a g es)) σ (upd H a (.lst xs)):=by
  obtain⟨x,e1,h1,h2,h3,ys,hy,_⟩:=W.ok i _ e;subst h1;have hil:i<ρ.length:=(aO.mp e).1;have W0:Wd G nb (ρ.set i .no) (σ.set i (some (.ref a))) H:=W.set trivial λ_ _ _ z=>by cases z
  have W1:Wd G nb (ρ.set i .no) (σ.set i (some (.ref a))) (upd H a (.lst xs)):=W0.write h2 h3 (λj c d cs hc=>by
    by_cases hij:i=j;· subst hij;rw[cI hil] at hc;cases hc
    · rw[bI hij] at hc
      exact(W.apart i j _ _ _ _ _ _ hij e hc).symm
   ) (λj c d cs hc z => by
      subst z;have hij:i≠j:=λz=>by subst z;rw[cI hil] at hc;cases hc
      rw[bI hij] at hc;obtain⟨_,_,_,_,_,ps,hp,_⟩:=W.ok j _ hc;rw[hy] at hp;cases hp) (λj c hc z=>by
      have hij:i≠j:=λz=>by subst z;rw[cI hil] at hc;cases hc
      rw[bI hij] at hc;exact W.eZ j i c _ (bH hij) hc e a z (aZ.mpr rfl))
  have W2:=W1.set (i:=i) (s:= .own a g es) (x:=some (.ref a)) ⟨rfl,h2,h3,xs,bx,hd.keep (bP.set (.inl h2))⟩ (by
    rintro a' d ds' ⟨rfl,rfl,rfl⟩ j c g' cs hj hc;rw[bI (bH hj)] at hc;exact W.apart i j _ _ _ _ _ _ (bH hj) e hc) (λ_ _ _ z=>by cases z) (λx hx j t hj ht hc z=>by
    rw[bI (bH hj)] at ht;have hx:x=a:=aZ.mp hx;subst hx;rcases hc with ⟨c,q⟩|⟨c,rfl⟩
    · cases q
    · exact W.eZ j i c _ hj ht e x z (aZ.mpr rfl))
  rw[mL,mL] at W2;have:σ.set i (some (.ref a))=σ:=by
    apply qo;intro j;by_cases hij:i=j;· subst hij;rw[cI (by rw[W.len];exact hil),e1]
    · rw[bI hij]
  rwa[this] at W2
def append(e:ρ[i]?=some (.own a f ds))(h:Ev G ρ te λg d=>ds.length<10000/\E.nx (ρ.set i (.own a (f && g) (ds++[d])))):Sv G ρ (p9 (mT K "list" C3 (bZ i) (bV te cG))) E:=λnb σ H D W KK=>by
 obtain⟨x,e1,h1,h2,h3,xs,hx,hd⟩:=W.ok i _ e;subst h1;refine⟨.ref a,e1, .inl ⟨rfl,_,aV.of hx⟩,h nb σ H _ W λg v H1 d ⟨hl,q⟩ s1 hv=>?_⟩;have W1:=W.step s1;have vM:=s1.1 _ _ h3 hx;refine⟨a,xs,v,rfl,rfl,vM,eK (by rw[hd.length];exact hl) ⋯,KK.nx nb _ _ _ q (rL W1 e ?_)⟩;exact af.snoc (hv.av (c7 (λz=>(fQ _ _▸z).2) λ_ z=>z)) ((hd.keep s1.dj).av (c7 (λz=>(fQ _ _▸z).1) λ_ z=>z))
theorem af.set'{nb:aF->Prop}{H:Hp}{x:V}(hd:ai nb H d x):∀{ds:List PyData} {xs:List V} (j:Nat),af nb H ds xs->af nb H (ds.set j d) (xs.set j x)
 |[],_,j,h=>by unfold af at h;subst h;exact .nil
 |e::ds,_,0,h=>by unfold af at h;obtain⟨y,ys,rfl,h1,h2⟩:=h;exact .cons hd h2
 |e::ds,_,j+1,h=>by unfold af at h;obtain⟨y,ys,rfl,h1,h2⟩:=h;exact .cons h1 (af.set' hd j h2)
def rV(e:ρ[i]?=some (.own a f ds))(h:Ev G ρ te λg d=>Ev G ρ tb λ_ y=>∃k j,y= .int k/\dS ds.length k=some j/\E.nx (ρ.set i (.own a (f && g) (ds.set j d)))):Sv G ρ (fV te (nY (bZ i) tb qd)) E:=λnb σ H D W KK=>
 h nb σ H _ W λg v H1 d q s1 hv=>by
  obtain⟨x,e1,h1,h2,h3,xs,hx,hd⟩:=(W.step s1).ok i _ e;subst h1;refine⟨.ref a,e1,q nb σ H1 _ (W.step s1) λg' u H2 y ⟨k,j,r,hj,p⟩ s2 hu=>?_⟩;subst r;have W2:=(W.step s1).step s2;refine⟨a,xs,k,j,rfl,hu.cC,s2.1 _ _ h3 hx,by rw[hd.length];exact hj,KK.nx nb _ _ _ p (rL W2 e ?_)⟩;exact af.set' ((hv.keep s2.dj).av (c7 (λz=>(fQ _ _▸z).2) λ_ z=>z)) j ((hd.keep s2.dj).av (c7 (λz=>(fQ _ _▸z).1) λ_ z=>z))
def share(W:Wd G nb ρ σ H)(e:ρ[i]?=some (.own a f ds)):Wd G (λx=>nb x/\x≠a) (ρ.set i (.d f (.list ds))) σ H:=by
  obtain⟨x,e1,h1,h2,h3,xs,hx,hd⟩:=W.ok i _ e;subst h1;have hil:i<ρ.length:=(aO.mp e).1;have W0:Wd G nb (ρ.set i .no) (σ.set i (some (.ref a))) H:=W.set trivial λ_ _ _ z=>by cases z
  have W1:Wd G (λx=>nb x/\x≠a) (ρ.set i .no) (σ.set i (some (.ref a))) H:=by
    refine⟨W0.aG,λx n=>W0.live x n.1,W0.old,λx n=>W0.ez x n.1,W0.gA,W0.len,W0.gB,λh m=>(W0.eU h m).av (c7 (λz=>z) λ_ z=>z.1),λj s e'=>?_,W0.apart,W0.gz,W0.eZ⟩;obtain⟨x,oj,h⟩:=W0.ok j s e';refine⟨x,oj,?_⟩;have hij:s≠ .no->i≠j:=λn z=>by subst z;rw[cI hil] at e';cases e';exact n rfl
    cases s with
    |no=>trivial
    |d f d=>obtain⟨v,e,h⟩:=h;exact⟨v,e,h.av (c7 (λz=>z) λ_ z=>z.1)⟩
    | own c f es =>
      obtain⟨e2,n,q,xs,hx,hd⟩:=h;have hij:=hij (by intro z;cases z);rw[bI hij] at e';exact⟨e2,⟨n,(W.apart i j _ _ _ _ _ _ hij e e').symm⟩,q,xs,hx,hd.av (c7 (λz=>z) λ_ z=>z.1)⟩
    |aG=>exact h
    |raw v=>exact h
    | bK c f es =>
      obtain⟨e2,n,q,ps,hp,hd⟩:=h;have b:c≠a:=λz=>by subst z;rw[hx] at hp;cases hp
      exact⟨e2,⟨n,b⟩,q,ps,hp,hd.av (c7 (λz=>z) λ_ z=>z.1)⟩
    | cu c =>
      obtain⟨e2,n,q⟩:=h;have hij:=hij (by intro z;cases z);rw[bI hij] at e';exact⟨e2,λx hx=>⟨⟨(n x hx).1,λz=>W.eZ j i c _ (bH hij) e' e x hx (by rw[z];exact aZ.mpr rfl)⟩,(n x hx).2⟩,c.av (c7 (λz=>z) λ_ z=>z.1) q⟩
  have W2:=W1.mz (i:=i) (f:=f) (d:= .list ds) (v:= .ref a) (.lst (λz=>by
    rcases z with z|z|z|z
    · exact z.2 rfl
    · exact W.gA a z (W.ez a h2 h3)
    · exact z h3
    · exact z.2 (W.ez a h2 h3)) hx (hd.av (c7 (λz=>z) λ_ z=>z.1)))
  rw[mL,mL] at W2;have:σ.set i (some (.ref a))=σ:=by
    apply qo;intro j;by_cases hij:i=j;· subst hij;rw[cI (by rw[W.len];exact hil),e1]
    · rw[bI hij]
  rwa[this] at W2
def mD(i:Nat)(e:ρ[i]?=some (.own a f ds))(h:Sv G (ρ.set i (.d f (.list ds))) s E):Sv G ρ s E:=λnb σ H D W K=>h _ σ H D (share W e) K
theorem wk{J:Rh}(w:Wk J ρ)(h:Sv G J s E):Sv G ρ s E:=λnb σ H D W K=>h nb σ H D (W.wk w) K
end Sv
end
noncomputable abbrev Gx.hd(G:Gx)(f:Bool)(d:PyData)(v:V):Gx:={G with hold:=(f, .d d,v)::G.hold}
section
variable{G:Gx}{ρ c8:Rh}{Φ Ψ:Pd}{ta tb te:TE}{t:TA}{i:Nat}{f g:Bool}{d e:PyData}{ds es:List PyData}{K:PySem.W.Frag}
theorem Wd.hd{nb:aF->Prop}{σ:qr}{H:Hp}{v:V}(W:Wd G nb ρ σ H)(h:ai (G.S nb f) H d v):Wd (G.hd f d v) nb ρ σ H:=
 ⟨W.aG,W.live,W.old,W.ez,W.gA,W.len,W.gB,λx m=>by
  rcases aY.mp m with e|m
  .subst e;exact h
  .exact W.eU x m,λi s e=>by
   obtain⟨x,e1,h⟩:=W.ok i s e;refine⟨x,e1,?_⟩;cases s<;>exact h,W.apart,W.gz,W.eZ⟩
def Wd.jb{v:V}(W:Wd (G.hd f d v) nb ρ σ H):Wd G nb ρ σ H/\ai (G.S nb f) H d v:=
 ⟨⟨W.aG,W.live,W.old,W.ez,W.gA,W.len,W.gB,λx m=>W.eU x (cM _ m),λi s e=>by
   obtain⟨x,e1,h⟩:=W.ok i s e;refine⟨x,e1,?_⟩;cases s<;>exact h,W.apart,W.gz,W.eZ⟩,W.eU _ (cN ..)⟩
namespace Sv
variable{E:DE}{s:TS}{gt:TG}
def sG(G:Gx)(ρ:Rh)(n:Nat)(it:Nat->PyData->Prop)(fi:Bool)(gt:TG)(s:TS)(E:DE):Prop:=
 ∃I:Nat->Rh->Prop,I 0 ρ/\(∀i d J,it i d->I i J->Gv G J gt fi d λg=>Sv G g s {nx:=I (i+1),rt:=E.rt,bk:=E.nx,ct:=I (i+1),rw:=E.rw})/\∀J,I n J->E.nx J
def YQ{lo:Int}(W:Wd G nb ρ σ H)(KK:CB G E D)(h:sG G ρ n (λi d=>i<n/\d= .int (lo+i)) true gt s E):
  ∃W:Nat->Nat->qr->Hp->Prop,(∃m,W 0 m σ H)/\∀i m σ H,W i m σ H->
   ((j9 lo n).stop i H/\D.nx σ H)\/((j9 lo n).go i H/\∃N:qr->Hp->Prop,(∀M H',N M H'->∃O,O<m/\W (i+1) O M H')/\∀x H',(j9 lo n).nN i H x H'->gt x σ H' λc H2=>s {D with nx:=N,ct:=N,bk:=D.nx} c H2):=by
 obtain⟨I,h0,ht,he⟩:=h;refine Ke (λi σ H=>∃nb ρ',I i ρ'/\Wd G nb ρ' σ H) ⟨nb,ρ,h0,W⟩ ?_ ?_
 .rintro i σ H hi ⟨nb,ρ',hI,W⟩;refine ht i _ ρ' ⟨hi,rfl⟩ hI nb σ H _ _ W (.int _) λc g q W2=>q nb c H _ W2 ?_;exact⟨λnb ρ σ H q W=>⟨nb,ρ,q,W⟩,KK.nx,λnb ρ σ H q W=>⟨nb,ρ,q,W⟩,KK.rt,KK.rw⟩
 .rintro σ H ⟨nb,ρ',hI,W⟩;exact KK.nx nb ρ' σ H (he ρ' hI) W
def yj(h:Ev G ρ te λ_ x=>∃n:Int,x= .int n/\ -(2^62)<=n/\n<2^62/\sG G ρ n.toNat (λi d=>i<n.toNat/\d= .int (0+i)) true gt s E):Sv G ρ (qj (wV (bV te cG)) gt s) E:=λnb σ H D W KK=>
 h nb σ H _ W λf v H1 x ⟨n,ex,h1,h2,q⟩ s1 hv=>by
  subst ex;rw[hv.cC];exact⟨n,rfl,h1,h2,YQ (W.step s1) KK q⟩
theorem forL(h:Ev G ρ te λf x=>∃ds,x= .list ds/\∀v,sG (G.hd f (.list ds) v) ρ ds.length (λi d=>ds[i]?=some d) f gt s E):Sv G ρ (qj (ua K te) gt s) E:=λnb σ H D W KK=>
 h nb σ H _ W λf v H1 x ⟨ds,ex,q⟩ s1 hv=>by
  subst ex;obtain⟨I,h0,ht,he⟩:=q v;have W1:=(W.step s1).hd hv;obtain⟨a,xs,rfl,n,hx,hd⟩:=hv.dW;have key:∀{nb J σ H},Wd (G.hd f (.list ds) (.ref a)) nb J σ H->∃xs,H a=some (.lst xs)/\af (G.S nb f) H ds xs:=λW=>by
   obtain⟨r,t,e',_,h',d'⟩:=W.jb.2.dW;cases e';exact⟨t,h',d'⟩
  refine⟨a,rfl,⟨xs, .of hx⟩,?_⟩;refine⟨λi m σ H=>m=ds.length-i/\i<=ds.length/\∃nb J,I i J/\Wd (G.hd f (.list ds) (.ref a)) nb J σ H,⟨ds.length,by simp,gE _,nb,ρ,h0,W1⟩,?_⟩;rintro i m σ H ⟨rfl,hi,nb,J,hI,W⟩;obtain⟨ys,hy,N⟩:=key W;have hl:=N.length;by_cases hlt:i<ds.length
  .refine .inr ⟨⟨ys,ys[i]'∅, .of hy,aC _⟩,λσ H=>∃nb J,I (i+1) J/\Wd (G.hd f (.list ds) (.ref a)) nb J σ H,λM H' q=>⟨ds.length-(i+1),∅,rfl,hlt,q⟩,λx H' y=>?_⟩;obtain⟨e,y⟩:=y;subst e;have hx:=y ys (.of hy);obtain⟨Y,L,dx⟩:=N.get (aC hlt);rw[hx] at L;cases L
   refine ht i _ J (aC hlt) hI nb σ _ _ _ W dx λc g q W2=>q nb c _ _ W2 ?_;exact⟨λnb ρ σ H q W=>⟨nb,ρ,q,W⟩,λnb ρ σ H q W=>KK.nx nb ρ σ H q W.jb.1,λnb ρ σ H q W=>⟨nb,ρ,q,W⟩,λnb ρ σ f v H d q W hv=>KK.rt nb ρ σ f v H d q W.jb.1 hv,λnb ρ σ v H q W=>KK.rw nb ρ σ v H q W.jb.1⟩
  .have e:i=ds.length:=∅
   subst e;exact .inl ⟨⟨ys, .of hy,∅⟩,KK.nx nb J σ H (he J hI) W.jb.1⟩
def uW{c:TT}(I:Rh->Prop)(a:Rh->Nat)(h0:I ρ)(h:∀J,I J->Tv G J c λb=>if b=true then Sv G J s {nx:=λg=>I g/\a g<a J,rt:=E.rt,bk:=E.nx,ct:=λg=>I g/\a g<a J,rw:=E.rw} else E.nx J):Sv G ρ (E7 c s) E:=λnb σ H D W KK=>by
  refine⟨λm σ H=>∃nb J,I J/\Wd G nb J σ H/\m=a J,⟨_,nb,ρ,h0,W,rfl⟩,?_⟩;rintro m σ H ⟨nb,J,hI,W,rfl⟩;refine h J hI nb σ H _ W λb H1 q s1=>?_;cases b with
  | true =>
    rw[if_pos rfl] at q⊢;refine⟨λM H'=>∃nb g,(I g/\a g<a J)/\Wd G nb g M H',λM H' ⟨nb,g,⟨O,q2⟩,W2⟩=>⟨a g,q2,nb,g,O,W2,rfl⟩,q nb σ H1 _ (W.step s1) ?_⟩;exact⟨λnb ρ σ H q W=>⟨nb,ρ,q,W⟩,KK.nx,λnb ρ σ H q W=>⟨nb,ρ,q,W⟩,KK.rt,KK.rw⟩
  |false=>rw[if_neg dH] at q⊢;exact KK.nx nb J σ H1 q (W.step s1)
end Sv
noncomputable def mY(mp:List (Option Nat))(ρ:Rh):Rh:=mp.map λo=>match o with|none=> .no|some j=>match ρ[j]? with|some s=>s|none=> .no
def IG(h:(mp.filterMap id).Nodup):∀{i j k:Nat},mp[i]?=some (some k)->mp[j]?=some (some k)->i=j:=by
  induction mp with
  |nil=>intro i j k e;simp at e
  | cons o r ih =>
    intro i j k e1 e2;have hr:(r.filterMap id).Nodup:=by
      cases o with
      |none=>simpa using h
      |some x=>rw[RG (by rfl)] at h;exact(jn.mp h).2
    have hn:∀{m:Nat},r[m]?=some (some k)->o≠some k:=λ{m} hm e=>by
      subst e;rw[RG (by rfl)] at h;exact(jn.mp h).1 (FQ.mpr ⟨some k,bC hm,rfl⟩)
    cases i with
    | zero =>
      cases j with
      |zero=>rfl
      |succ j=>simp at e1 e2;exact absurd e1 (hn e2)
    | succ i =>
      cases j with
      |zero=>simp at e1 e2;exact absurd e2 (hn e1)
      |succ j=>simp at e1 e2;rw[ih hr e1 e2]
theorem Wd.iA{nb:aF->Prop}{σ:qr}{H:Hp}{mp:List (Option Nat)}(W:Wd G nb ρ σ H)(hm:(mp.filterMap id).Nodup):Wd G nb (mY mp ρ) (iA mp σ) H:=by
  have S:∀{i:Nat} {s:Sl},(mY mp ρ)[i]?=some s->s= .no\/∃k,mp[i]?=some (some k)/\ρ[k]?=some s:=λ{i s} e=>by
    unfold mY at e;rw[bw] at e;obtain⟨o,ho,e⟩:=kK.mp e;cases o with
    |none=>exact .inl e.symm
    | some k =>
      cases hk:ρ[k]? with
      |none=>simp only[hk] at e;exact .inl e.symm
      |some s'=>simp only[hk] at e;subst e;exact .inr ⟨k,ho,hk⟩
  refine⟨W.aG,W.live,W.old,W.ez,W.gA,by unfold L2.iA mY;rw[ao,ao],W.gB,W.eU,λi s e=>?_,λi j a f as c g cs hij e1 e2=>?_,λi j a f as c g cs hij e1 e2=>?_,λi j c t hij e1 e2 a ha=>?_⟩
  · have hi:i<mp.length:=by have:=(aO.mp e).1;unfold mY at this;rwa[ao] at this
    rcases S e with rfl|⟨k,hk,hs⟩
    · exact⟨_,by unfold L2.iA;rw[bw,aC hi];rfl,trivial⟩
    · obtain⟨x,e1,h⟩:=W.ok k s hs
      refine⟨x,?_,h⟩;unfold L2.iA;rw[bw,hk];simp only[Option.map_some,e1]
  · rcases S e1 with z|⟨k,hk,hs⟩
    · cases z
    rcases S e2 with z|⟨k',hk',hs'⟩
    · cases z
    exact W.apart k k' a f as c g cs (λz=>by subst z;exact hij (IG hm hk hk')) hs hs'
  · rcases S e1 with z|⟨k,hk,hs⟩
    · cases z
    rcases S e2 with z|⟨k',hk',hs'⟩
    · cases z
    exact W.gz k k' a f as c g cs (λz=>by subst z;exact hij (IG hm hk hk')) hs hs'
  · rcases S e1 with z|⟨k,hk,hs⟩
    · cases z
    rcases S e2 with z|⟨k',hk',hs'⟩
    · subst z;exact λz=>by cases z
    exact W.eZ k k' c t (λz=>by subst z;exact hij (IG hm hk hk')) hs hs' a ha
def Q7(ρ:Rh)(acc:aF):Prop:=(∀(j:Nat) a f ds,ρ[j]?=some (.own a f ds)->a≠acc)/\∀(j:Nat) c,ρ[j]?=some (.cu c)->acc∉c.F
def jA(G:Gx)(c8:Rh)(n:Nat)(it:Nat->PyData->Prop)(fi:Bool)(gt:TG)(tc:TT)(te:TE)(Θ:Bool->List PyData->Prop):Prop:=
 ∃(fl:Bool) (I:Nat->List PyData->Prop),I 0 []/\(∀i d ds,it i d->ds.length<=i->I i ds->Gv G c8 gt fi d λg=>Wk c8 g/\Tv G g tc λb=>if b=true then Ev G g te λf e=>(fl=true->f=true)/\I (i+1) (ds++[e]) else I (i+1) ds)/\
  ∀ds,ds.length<=n->I n ds->Θ (fl||fc ds) ds
theorem zY{x:V}{fi fl:Bool}{N:qr->Hp->Prop}{ds:List PyData}(hn:n<=10000)(hi:i<n)
    (W:Wd G nb c8 σ H) (ha:nb acc) (hN:NB G.B acc) (hno:Q7 c8 acc) (st:Step G.B H1 H) (k:H1 acc=none) (hx:H acc=some (.lst xs)) (hd:af (G.S nb fl) H ds xs) (hl:ds.length<=i) (l:ai (G.S nb fi) H d x)
    (h:Gv G c8 gt fi d λg=>Wk c8 g/\Tv G g tc λb=>if b=true then Ev G g te λf e=>(fl=true->f=true)/\I (i+1) (ds++[e]) else I (i+1) ds)
    (z:∀σ' H' ds' xs',Wd G nb c8 σ' H'->Step G.B H1 H'->H' acc=some (.lst xs')->af (G.S nb fl) H' ds' xs'->ds'.length<=i+1->I (i+1) ds'->N σ' H'):
    gt x σ H λc H2=>tc c H2 λb H3=>if b=true then te c H3 λv H4=>∃ys,H4 acc=some (.lst ys)/\ys.length<sizeLine/\N c (upd H4 acc (.lst (ys++[v]))) else N c H3:=by
  refine h nb σ H x _ W l λc g ⟨wk,q⟩ W2=>q nb c H _ W2 λb H3 q3 s3=>?_;have QY:=s3.1 _ _ hN hx;have Rx:=hd.keep (s3.dj (nb:=nb) (f:=fl));cases b with
  | false =>
    rw[if_neg dH] at q3⊢;exact z c H3 ds xs ((W2.step s3).wk wk) (st.trans s3) QY Rx ∅ q3
  | true =>
    rw[if_pos rfl] at q3⊢;refine q3 nb c H3 _ (W2.step s3) λf v H4 e ⟨hf,hI⟩ s4 hv=>?_;have Mt:=s4.1 _ _ hN QY;have hd4:=Rx.keep (s4.dj (nb:=nb) (f:=fl));have hlen:=hd.length;refine⟨xs,Mt,eK (show xs.length<10001 by omega) ⋯,?_⟩;have W4:Wd G nb c8 c H4:=((W2.step s3).step s4).wk wk;have bt:bP (G.S nb fl) H4 (upd H4 acc (.lst (xs++[v]))):=bP.set (.inl ha)
    have m:Wd G nb c8 c (upd H4 acc (.lst (xs++[v]))):=W4.write ha hN hno.1 (λj a f ds e z=>by
      subst z;obtain⟨_,_,_,_,_,ps,hp,_⟩:=W4.ok j _ e;rw[Mt] at hp;cases hp) hno.2
    refine z c _ (ds++[e]) (xs++[v]) m ⟨λa o n q=>?_,m.aG⟩ bx (af.snoc ((hv.av (c7 hf λ_ z=>z)).keep bt) (hd4.keep bt)) (by rw[fk,i9];omega) hI;have J:a≠acc:=λz=>by subst z;rw[k] at q;cases q
    rw[aH J];exact(st.trans (s3.trans s4)).1 a o n q
def B4(W:Wd G nb ρ σ H)(ha:H a=none):Q7 ρ a:=by
 refine⟨λj c f ds e z=>?_,λj c e z=>?_⟩
 .subst z;obtain⟨x,e1,h1,h2,h3,ys,hy,_⟩:=W.ok j _ e;rw[hy] at ha;cases ha
 .obtain⟨x,e1,h1,h2,h3⟩:=W.ok j _ e;exact W.live a (h2 a z).1 ha
def aax{f:Bool}:∀x,(G.S nb f x\/x=a)->G.S (λx=>nb x\/x=a) f x:=λx z=>by
 rcases z with (z|z|z|z)|z
 .exact .inl (.inl z)
 .exact .inr (.inl z)
 .exact .inr (.inr (.inl z))
 .exact .inr (.inr (.inr z))
 .exact .inl (.inr z)
def B9{Q:VK}{ds:List PyData}{fl:Bool}(W:Wd G nb ρ σ H)(s1:Step G.B H H1)(k:H1 acc=none)(s2:Step G.B H1 H')(hx:H' acc=some (.lst xs))(hd:af (G.S (λx=>nb x\/x=acc) fl) H' ds xs)(p:Θ (fl||fc ds) ds)
  (z:∀f a xs H' ds,Θ f ds->Step G.B H H'->H a=none->H' a=some (.lst xs)->af (λx=>G.S nb f x\/x=a) H' ds xs->Q (.ref a) H'):Q (.ref acc) H':=by
 refine z _ acc xs H' ds p (s1.trans s2) (W.none_of s1 k) hx ?_;cases hs:fc ds with
 |true=>exact af.jH hs hd
 |false=>rw[p7];exact hd.av aax
def NB.new{B:Bg}(h:lu B H)(ha:H a=none):NB B a:=jl λz=>NB.oJ h z ha
namespace az
variable{Θ:Bool->List PyData->Prop}{gt:TG}{tc:TT}{mp:List (Option Nat)}
def WW{lo:Int}{Q:VK}(W:Wd G nb ρ σ H)(s1:Step G.B H H1)(hm:(mp.filterMap id).Nodup)(u:mY mp ρ=c8)(hn:n<=10000)(h:jA G c8 n (λi d=>i<n/\d= .int (lo+i)) true gt tc te Θ)
  (z:∀f a xs H' ds,Θ f ds->Step G.B H H'->H a=none->H' a=some (.lst xs)->af (λx=>G.S nb f x\/x=a) H' ds xs->Q (.ref a) H') (acc:aF) (k:H1 acc=none):qD (j9 lo n) gt tc te acc (λH'=>Q (.ref acc) H') (iA mp σ) (upd H1 acc (.lst [])):=by
 obtain⟨fl,I,h0,ht,he⟩:=h;have W0:Wd G nb c8 (L2.iA mp σ) H1:=by rw[<-u];exact(W.step s1).iA hm
 have W1:=W0.more k (o:= .lst []);have hN:=NB.new s1.2 k;have hno:=B4 W0 k;have A:Step G.B H1 (upd H1 acc (.lst [])):= .same s1.2 (dB k);refine R.Em (λi σ H=>∃ds xs,Wd G (λx=>nb x\/x=acc) c8 σ H/\Step G.B H1 H/\H acc=some (.lst xs)/\af (G.S (λx=>nb x\/x=acc) fl) H ds xs/\ds.length<=i/\I i ds) ⟨[],[],W1,A,bx, .nil,aW _,h0⟩ ?_ ?_
 .rintro i σ H hi ⟨ds,xs,W,st,hx,hd,hl,hI⟩;exact zY hn hi W (.inr rfl) hN hno st k hx hd hl (.int _) (ht i _ ds ⟨hi,rfl⟩ hl hI) λM H' w t W' g L l hl' s=>⟨w,t,W',g,L,l,hl',s⟩
 .rintro σ H' ⟨ds,xs,W',st,hx,hd,hl,hI⟩;exact B9 W s1 k st hx hd (he ds hl hI) z
theorem kc(hm:(mp.filterMap id).Nodup)(u:mY mp ρ=c8)(h:Ev G ρ t0 λ_ x=>∃n:Int,x= .int n/\ -10000<=n/\n<=10000/\jA G c8 n.toNat (λi d=>i<n.toNat/\d= .int (0+i)) true gt tc te Θ):az G ρ (mF (wV (bV t0 cG)) gt tc te mp) Θ:=λnb σ H Q W z=>
 h nb σ H _ W λf v H1 x ⟨n,ex,h1,h2,q⟩ s1 hv=>by
  subst ex;rw[hv.cC];exact⟨n,rfl,∅,∅,WW W s1 hm u ∅ q z⟩
theorem gK(hm:(mp.filterMap id).Nodup)(u:mY mp ρ=c8)(h:Ev G ρ t0 λfi x=>∃es,x= .list es/\es.length<=10000/\∀v,jA (G.hd fi (.list es) v) c8 es.length (λi d=>es[i]?=some d) fi gt tc te Θ):az G ρ (mF (ua K t0) gt tc te mp) Θ:=λnb σ H Q W z=>
 h nb σ H _ W λfi v H1 x ⟨es,ex,hn,q⟩ s1 hv=>by
  subst ex;obtain⟨fl,I,h0,ht,he⟩:=q v;have W0:=(W.step s1).hd hv;obtain⟨a,xs,rfl,n,hx,hd⟩:=hv.dW;refine⟨a,rfl,⟨xs, .of hx⟩,λacc k=>?_⟩;have C:Wd (G.hd fi (.list es) (.ref a)) nb c8 (L2.iA mp σ) H1:=by rw[<-u];exact W0.iA hm
  have W1:=C.more k (o:= .lst []);have hN:=NB.new s1.2 k;have hno:=B4 C k;have A:Step G.B H1 (upd H1 acc (.lst [])):= .same s1.2 (dB k);have D:NB G.B a:=jl λz=>n (.inr (.inr (.inl z)));refine R.KA (xs:=xs) (λi σ H=>∃ds ys,Wd (G.hd fi (.list es) (.ref a)) (λx=>nb x\/x=acc) c8 σ H/\Step G.B H1 H/\H acc=some (.lst ys)/\af (G.S (λx=>nb x\/x=acc) fl) H ds ys/\ds.length<=i/\I i ds) ⟨[],[],W1,A,bx, .nil,aW _,h0⟩ ?_ ?_ ?_
  .rintro i σ H hi ⟨ds,ys,W,st,_⟩;exact .of (st.1 _ _ D hx)
  .rintro i x σ H hi ⟨ds,ys,W,st,hy,l,hl,hI⟩;obtain⟨r,t,e',_,h',d'⟩:=W.jb.2.dW;cases e';rw[st.1 _ _ D hx] at h';cases h'
   have hil:i<es.length:=by have:=(aO.mp hi).1;have:=d'.length;omega
   obtain⟨Y,L,dx⟩:=d'.get (aC hil);rw[hi] at L;cases L
   exact zY (G:=G.hd fi (.list es) (.ref a)) hn hil W (.inr rfl) hN hno st k hy l hl dx (ht i _ ds (aC hil) hl hI) λM H' w t W' g L l hl' s=>⟨w,t,W',g,L,l,hl',s⟩
  .rintro σ H' ⟨ds,ys,W',st,hy,l,hl,hI⟩;rw[hd.length] at hl hI;exact B9 W s1 k st hy l (he ds hl hI) z
end az
end
section
variable{ρ:Rh}{t:TS}{N:List Str}{vs:List V}{ds:List PyData}{nb:aF->Prop}{H:Hp}{Q:VK}{Φ:Pd}{b l:aF}
def m8(h:af nb H ds xs){i:Nat}{s:Sl}(e:(ds.map (Sl.d false))[i]?=some s):∃v d,xs[i]?=some v/\s= .d false d/\ai nb H d v:=by
 rw[bw] at e;obtain⟨d,hd,e⟩:=kK.mp e;obtain⟨v,hv,q⟩:=h.get hd;exact⟨v,d,hv,e.symm,q⟩
theorem Sv.fu(hl:kh nb H)(hd:af nb H ds vs)(D:∀f d v H',Φ f d->dG H H'->ai (λa=>nb a\/(f=true/\H a≠none)) H' d v->Q v H')
  (u:ρ=ds.map (Sl.d false)++ar (N.length-ds.length) .no) (h:Sv ⟨none,H,nb,[]⟩ ρ t {nx:=λ_=>Φ true .none,rt:=Φ}):t {nx:=λ_ H'=>Q .aP H',rt:=Q} (start N vs) H:=by
 have hlen:=hd.length;have A:∀{bq J M H'},Wd ⟨none,H,nb,[]⟩ bq J M H'->dG H H':=λW a o e=>W.old a o (λ_ _ z=>(by cases z)) e;refine h (λ_=>False) _ H _ ⟨λ_ _ z=>(by cases z),λ_ z=>z.elim,λ_ _ _ e=>e,λ_ z=>z.elim,hl,?_,λ_ _ z=>(by cases z),λ_ m=>(by cases m),λi s e=>?_,?_,?_,?_⟩ ⟨λbq J M H' q W=>D _ _ _ _ q (A W) .aP,λ_ _ _ _ q _=>q.elim,λ_ _ _ _ q _=>q.elim,λbq J M f v H' d q W hv=>D f d v H' q (A W) (hv.av λa z=>?_),λ_ _ _ _ _ q _=>q.elim⟩;·rw[u];unfold start;simp[hlen]
 .rw[u] at e;unfold start;by_cases hi:i<ds.length
  .rw[jj (by rw[ao];exact hi)] at e;obtain⟨v,d,hv,rfl,q⟩:=m8 hd e;refine⟨some v,?_,v,rfl,q.av λa z=>?_⟩;·rw[jj (by rw[ao,hlen];exact hi),bw,hv];rfl
   .rcases z with z|z|z|z
    .exact z.elim
    .exact z
    .exact absurd (λ_ _ z=>(by cases z)) z
    .cases z.1
  .rw[jr (by rw[ao];omega),gf] at e;split at e
   .rename_i h'
    cases e;refine⟨none,?_,trivial⟩;rw[ao] at h';rw[jr (by rw[ao];omega),gf,if_pos (by rw[ao,hlen];exact h')]
   .cases e
 .intro i j a f as c g cs hij e1;rw[u] at e1;by_cases hi:i<ds.length
  .rw[jj (by rw[ao];exact hi)] at e1;obtain⟨_,_,_,z,_⟩:=m8 hd e1;cases z
  .rw[jr (by rw[ao];omega),gf] at e1;split at e1<;>cases e1
 .intro i j a f as c g cs hij e1;rw[u] at e1;by_cases hi:i<ds.length
  .rw[jj (by rw[ao];exact hi)] at e1;obtain⟨_,_,_,z,_⟩:=m8 hd e1;cases z
  .rw[jr (by rw[ao];omega),gf] at e1;split at e1<;>cases e1
 .intro i j c t hij e1;rw[u] at e1;by_cases hi:i<ds.length
  .rw[jj (by rw[ao];exact hi)] at e1;obtain⟨_,_,_,z,_⟩:=m8 hd e1;cases z
  .rw[jr (by rw[ao];omega),gf] at e1;split at e1<;>cases e1
 .rcases z with z|z
  .exact .inr (.inl z)
  .exact .inr (.inr (.inr z))
theorem Sv.rz(T:fh H b l)(hl:kh nb H)(hb:nb b)(hd:af nb H ds vs)(D:∀f d v H',Φ f d->bP (Nb b) H H'->fh H' b l->ai (λa=>nb a\/(f=true/\H a≠none)) H' d v->Q v H')
    (u:ρ= .aG::ds.map (Sl.d false)++ar (N.length-(ds.length+1)) .no) (h:Sv ⟨some (b,l),H,nb,[]⟩ ρ t {nx:=λ_=>Φ true .none,rt:=Φ}):t {nx:=λ_ H'=>Q .aP H',rt:=Q} (start N (.ref b::vs)) H:=by
  have hlen:=hd.length;have y:∀a,a≠b->NB (some (b,l)) a:=λa n k p e=>by cases e;exact n
  have r:∀a,¬NB (some (b,l)) a->a=b:=λa n=>jl λz=>n (y a z);have bt:∀{bq J M H'},Wd ⟨some (b,l),H,nb,[]⟩ bq J M H'->bP (Nb b) H H':=λW a o n e=>W.old a o (y a n) e;have w:∀{bq J M H'},Wd ⟨some (b,l),H,nb,[]⟩ bq J M H'->fh H' b l:=λW=>W.aG b l rfl;refine h (λ_=>False) _ H _ ⟨λk p e=>(by cases e;exact T),λ_ z=>z.elim,λ_ _ _ e=>e,λ_ z=>z.elim,hl,?_,λk p e=>(by cases e;exact T),λ_ m=>(by cases m),λi s e=>?_,?_,?_,?_⟩ ⟨λbq J M H' q W=>D _ _ _ _ q (bt W) (w W) .aP,λ_ _ _ _ q _=>q.elim,λ_ _ _ _ q _=>q.elim,λbq J M f v H' d q W hv=>D f d v H' q (bt W) (w W) (hv.av λa z=>?_),λ_ _ _ _ _ q _=>q.elim⟩;· rw[u];unfold start;simp[hlen]
  · rw[u] at e
    unfold start;cases i with
    |zero=>simp at e;subst e;exact⟨some (.ref b),by simp,b,l,rfl,rfl⟩
    | succ i =>
      simp only[nV,mW,bG,eH] at e⊢;by_cases hi:i<ds.length
      · rw[jj (by rw[ao];exact hi)] at e
        obtain⟨v,d,hv,rfl,q⟩:=m8 hd e;refine⟨some v,?_,v,rfl,q.av λa z=>?_⟩;· rw[jj (by rw[ao,hlen];exact hi),bw,hv];rfl
        · rcases z with z|z|z|z
          · exact z.elim
          · exact z
          · rw[r a z];exact hb
          · cases z.1
      · rw[jr (by rw[ao];omega),gf] at e
        split at e
        · rename_i h'
          cases e;refine⟨none,?_,trivial⟩;rw[ao] at h';rw[jr (by rw[ao];omega),gf,if_pos (by rw[ao,hlen];exact h')]
        · cases e
  · intro i j a f as c g cs hij e1
    rw[u] at e1;cases i with
    |zero=>simp at e1
    | succ i =>
      simp only[nV,mW] at e1;by_cases hi:i<ds.length
      · rw[jj (by rw[ao];exact hi)] at e1
        obtain⟨_,_,_,z,_⟩:=m8 hd e1;cases z
      · rw[jr (by rw[ao];omega),gf] at e1
        split at e1<;>cases e1
  · intro i j a f as c g cs hij e1
    rw[u] at e1;cases i with
    |zero=>simp at e1
    | succ i =>
      simp only[nV,mW] at e1;by_cases hi:i<ds.length
      · rw[jj (by rw[ao];exact hi)] at e1
        obtain⟨_,_,_,z,_⟩:=m8 hd e1;cases z
      · rw[jr (by rw[ao];omega),gf] at e1
        split at e1<;>cases e1
  · intro i j c t hij e1
    rw[u] at e1;cases i with
    |zero=>simp at e1
    | succ i =>
      simp only[nV,mW] at e1;by_cases hi:i<ds.length
      · rw[jj (by rw[ao];exact hi)] at e1
        obtain⟨_,_,_,z,_⟩:=m8 hd e1;cases z
      · rw[jr (by rw[ao];omega),gf] at e1
        split at e1<;>cases e1
  · rcases z with z|z
    · exact .inr (.inl z)
    · exact .inr (.inr (.inr z))
noncomputable def GK(b l:aF)(H:Hp):Gx:=⟨some (b,l),H,λ_=>False,[]⟩
def D9(T:fh H b l):Wd (GK b l H) (λ_=>False) (.raw (.ref a):: .aG::ar m .no) (some (.ref a)::some (.ref b)::ar m none) H:=by
  refine⟨λk p e=>(by cases e;exact T),λ_ z=>z.elim,λ_ _ _ e=>e,λ_ z=>z.elim,λ_ z=>z.elim,by simp,λk p e=>(by cases e;exact T),λ_ m=>(by cases m),λi s e=>?_,?_,?_,?_⟩
  · match i with
    |0=>simp at e;subst e;exact⟨_,rfl,rfl⟩
    |1=>simp at e;subst e;exact⟨some (.ref b),rfl,b,l,rfl,rfl⟩
    | i + 2 =>
      simp only[mW,gf] at e⊢;split at e;· rename_i h;cases e;exact⟨none,if_pos h,trivial⟩
      · cases e
  · intro i j a f as c g cs hij e1
    match i with
    |0=>simp at e1
    |1=>simp at e1
    | i + 2 =>
      simp only[mW,gf] at e1;split at e1<;>cases e1
  · intro i j a f as c g cs hij e1
    match i with
    |0=>simp at e1
    |1=>simp at e1
    | i + 2 =>
      simp only[mW,gf] at e1;split at e1<;>cases e1
  · intro i j c t hij e1
    match i with
    |0=>simp at e1
    |1=>simp at e1
    | i + 2 =>
      simp only[mW,gf] at e1;split at e1<;>cases e1
def VO(h2:∀H,D.rt (.bl true) H):CB (GK b l H) {nx:=λ_=>False,rt:=λ_ d=>d= .bool true} D:=
 ⟨λ_ _ _ _ q _=>q.elim,λ_ _ _ _ q _=>q.elim,λ_ _ _ _ q _=>q.elim,λ_ _ _ f v H d q _ hv=>by subst q;unfold ai at hv;subst hv;exact h2 H,λ_ _ _ _ _ q _=>q.elim⟩
end
namespace R
def di{P:Int->Prop}{i:Int}(h:P i):∃j,aq i= .int j/\P j:=⟨i,rfl,h⟩
def db{P:Bool->Prop}{i:Bool}(h:P i):∃j,ij i= .bool j/\P j:=⟨i,rfl,h⟩
def dl{P:List PyData->Prop}{i:List PyData}(h:P i):∃j,dq i= .list j/\P j:=⟨i,rfl,h⟩
def dt{P:List PyData->Prop}{i:List PyData}(h:P i):∃j,ix i= .tuple j/\P j:=⟨i,rfl,h⟩
def Pm{P:List PyData->Prop}{i:List PyData}(h:P i):∃j,(dq i= .list j\/dq i= .tuple j)/\P j:=⟨i, .inl rfl,h⟩
def Uy{P:List PyData->Prop}{i:List PyData}(h:P i):∃j,(ix i= .list j\/ix i= .tuple j)/\P j:=⟨i, .inr rfl,h⟩
def aeK{P:Bool->Prop}{i j:Int}(h:P (decide (i=j))):∃b,iU (.int i) (.int j) b/\P b:=⟨_, .ii i j,h⟩
def Vr{P:Bool->Prop}{x y:Bool}(h:P (x==y)):∃b,iU (.bool x) (.bool y) b/\P b:=⟨_, .bb x y,h⟩
def at_{k:Int}{e:PyData}{P:PyData->Prop}(h:bE ds k=some e)(q:P e):∃e,bE ds k=some e/\P e:=⟨e,h,q⟩
def agE{A:Prop}(q:A):([]:List Fd).length<=10000/\A:=⟨⋯,q⟩
def TB{C A:Prop}(c:C)(q:A):C/\A:=⟨c,q⟩
end R
def fK{F:DF}{Q:VK}{E:XK}(h:bF n F vs H Q E):∃(nb:aF->Prop) (ds:List PyData) (Φ:Pd),kh nb H/\af nb H ds vs/\(∀f d v H',Φ f d->dG H H'->ai (λa=>nb a\/(f=true/\H a≠none)) H' d v->Q v H')/\F ds Φ:=by
 obtain⟨_,nb,ds,h1,h2,h3⟩:=h;exact⟨nb,ds,_,h1,h2,λf d v H' q=>q v H',h3⟩
def rO{F:DF}{Q:VK}{E:XK}(h:iO n F vs H Q E):∃(b l:aF) (ws:List V) (nb:aF->Prop) (ds:List PyData) (Φ:Pd),vs= .ref b::ws/\fh H b l/\kh nb H/\nb b/\af nb H ds ws/\(∀f d v H',Φ f d->bP (Nb b) H H'->fh H' b l->ai (λa=>nb a\/(f=true/\H a≠none)) H' d v->Q v H')/\F ds Φ:=by
 obtain⟨_,b,l,ws,nb,ds,e,T,h1,hb,h2,h3⟩:=h;exact⟨b,l,ws,nb,ds,_,e,T,h1,hb,h2,λf d v H' q=>q v H',h3⟩
noncomputable abbrev aj:=List (Int×Int)
noncomputable abbrev Wo:=List (Option Int)
noncomputable abbrev cy(prs:aj):PyData:= .list (prs.map Ap)
noncomputable abbrev dU(wd:Wo):PyData:= .list (wd.map cT)
noncomputable abbrev bR(p n:Int)(cs:List aj):PyData:= .tuple [.int p, .int n, .list (cs.map cy)]
def vq(prs:aj)(m:Nat):Prop:=∀pr∈prs,0<=pr.1/\pr.1<m/\Sm pr.2
def kE(wd:Wo):Prop:=∀x,some x∈wd->Sm x
theorem oG{c:Type}{xs:List α}(φ:α->c){k:Int}{m:Nat}(h0:0<=k)(h1:k<m)(hm:m=xs.length):∃x,xs[k.toNat]?=some x/\bE (xs.map φ) k=some (φ x):=by
 have hk:k.toNat<xs.length:=∅
 exact⟨xs[k.toNat],aC hk,eu h0 (by rw[bw,aC hk];rfl)⟩
def c9{α c:Type}{xs:List α}{φ:α->c}{d:c}(h:(xs.map φ)[i]?=some d):∃x,xs[i]?=some x/\d=φ x:=by
 rw[bw] at h;obtain⟨x,hx,e⟩:=kK.mp h;exact⟨x,hx,e.symm⟩
def Ai{α:Type}{xs:List α}{x:α}(h:xs[i]?=some x):xs.take (i+1)=xs.take i++[x]:=by
 rw[xg,h];rfl
def oV(o:Option Int):vK (cT o)=o.isNone:=by cases o<;>rfl
structure Eu(p b L lt r t:Int):Prop where
 l0:0<L
 r0:0<=r
 lp:L<=p
 rp:r<=p
 lc:∃k,L=lt*b+p*k
 rc:∃k,r=t*b+p*k
 dv:∀d,d∣L->d∣r->d∣p/\d∣b%p
 sz:(t.natAbs:Int)*L+(lt.natAbs:Int)*r<=p
theorem Eu.start{b:Int}(hp:2<=p):Eu p b p 0 (b%p) 1:=by
 have m1:=iw b (show p≠0 by omega);have m2:=g7 b (show 0<p by omega);refine⟨∅,m1,xn _,∅,⟨1,by rw[kC,u4,se]⟩,⟨-(b/p),?_⟩,λd h1 h2=>⟨h1,h2⟩,?_⟩
 .have:=jY b p;rw[uQ,xp];omega
 .show(1:Int)*p+0*(b%p)<=p;rw[uQ,kC];omega
theorem Eu.tb{b L lt r t:Int}(h:Eu p b L lt r t): -p<=t/\t<=p:=by
 have h1:(t.natAbs:Int)*1<=(t.natAbs:Int)*L:=oA (by have:=h.l0;omega) ∅;have h2:0<=(lt.natAbs:Int)*r:=Int.mul_nonneg ∅ h.r0;have:=h.sz;omega
theorem Eu.next{b L lt r t:Int}(h:Eu p b L lt r t)(hr:0<r):Eu p b r t (L-L/r*r) (lt-L/r*t)/\L-L/r*r<r:=by
 have e:=jY L r;have m1:=iw L (show r≠0 by omega);have m2:=g7 L hr;have e':L-L/r*r=L%r:=by rw[mh (L/r) r];omega
 have q0:0<=L/r:=xQ (by have:=h.l0;omega) ∅;obtain⟨k1,c1⟩:=h.lc;obtain⟨k2,c2⟩:=h.rc;refine⟨⟨hr,∅,h.rp,by have:=h.rp;omega,h.rc,⟨k1-L/r*k2,?_⟩,λd d1 d2=>?_,?_⟩,∅⟩
 .rw[xt,kG];generalize L/r=q at*;have z:q*r=q*(t*b)+q*(p*k2):=by rw[<-Dj,<-c2]
  have B:q*(t*b)=q*t*b:=(nF q t b).symm;have z2:q*(p*k2)=p*(q*k2):=by rw[<-nF,mh q p,nF]
  omega
 .have a:d∣L:=by
   have z:d∣(L-L/r*r)+L/r*r:=xr d2 (tV d1);have z2:(L-L/r*r)+L/r*r=L:=∅
   rwa[z2] at z
  exact h.dv d a d1
 .generalize L/r=q at*;have a1:((lt-q*t).natAbs:Int)<=(lt.natAbs:Int)+q*(t.natAbs:Int):=by
   have b1:(lt-q*t).natAbs<=lt.natAbs+(q*t).natAbs:=∅
   have b2:((q*t).natAbs:Int)=q*(t.natAbs:Int):=by
    rw[Ka];have:(q.natAbs:Int)=q:=∅
    rw[p3,this]
   omega
  have a2:((lt-q*t).natAbs:Int)*r<=((lt.natAbs:Int)+q*(t.natAbs:Int))*r:=Int.mul_le_mul_of_nonneg_right a1 ∅;have y:((lt.natAbs:Int)+q*(t.natAbs:Int))*r=(lt.natAbs:Int)*r+q*(t.natAbs:Int)*r:=Int.add_mul _ _ _;have a4:(t.natAbs:Int)*(L-q*r)=(t.natAbs:Int)*L-q*(t.natAbs:Int)*r:=by
   rw[kG,<-nF,mh (t.natAbs:Int) q]
  have:=h.sz;omega
def NZ{α:Type}{us:List α}(h:us.length=1):∃a,us=[a]:=by
  cases us with
  |nil=>cases h
  | cons a us =>
    cases us with
    |nil=>exact⟨a,rfl⟩
    |cons _ _=>cases h
def ln2{α:Type}{us:List α}(h:us.length=2):∃a b,us=[a,b]:=by
  cases us with
  |nil=>cases h
  | cons a us =>
    obtain⟨b,rfl⟩:=NZ (us:=us) (xy h);exact⟨a,b,rfl⟩
def Ob{α:Type}{us:List α}(h:us.length=3):∃a b c,us=[a,b,c]:=by
  cases us with
  |nil=>cases h
  | cons a us =>
    obtain⟨b,c,rfl⟩:=ln2 (us:=us) (xy h);exact⟨a,b,c,rfl⟩
def Mx{α:Type}{us:List α}(h:us.length=4):∃a b c d,us=[a,b,c,d]:=by
  cases us with
  |nil=>cases h
  | cons a us =>
    obtain⟨b,c,d,rfl⟩:=Ob (us:=us) (xy h);exact⟨a,b,c,d,rfl⟩
def Ln{α:Type}{us:List α}(h:us.length=5):∃a b c d e,us=[a,b,c,d,e]:=by
  cases us with
  |nil=>cases h
  | cons a us =>
    obtain⟨b,c,d,e,rfl⟩:=Mx (us:=us) (xy h);exact⟨a,b,c,d,e,rfl⟩
def mq(xs:Array Nat):Prop:=∀(i j x y:Nat),i<j->xs[i]?=some x->xs[j]?=some y->x<y
theorem HZ{xs:Array Nat}{q:Nat}(hr:mq xs):∀(f lo hi:Nat),hi<=xs.size->lo<=hi->hi-lo<=f->(∀i x,i<lo->xs[i]?=some x->x<q)->(∀i x,hi<=i->xs[i]?=some x->q<=x)->
    lo<=fw xs q f lo hi/\fw xs q f lo hi<=hi/\(∀i x,i<fw xs q f lo hi->xs[i]?=some x->x<q)/\(∀i x,fw xs q f lo hi<=i->xs[i]?=some x->q<=x):=by
  intro f;induction f with
  | zero =>
    intro lo hi h1 h2 h3 h4 h5;have e:lo=hi:=∅
    subst e;exact⟨aW _,aW _,h4,h5⟩
  | succ f ih =>
    intro lo hi h1 h2 h3 h4 h5;unfold fw;by_cases hlt:lo<hi
    · rw[if_pos hlt]
      have hm:(lo+hi)/2<xs.size:=∅
      have hg:xs[(lo+hi)/2]?=some xs[(lo+hi)/2]:=lC hm;have J:xs.getD ((lo+hi)/2) q=xs[(lo+hi)/2]:=by rw[EN,hg];rfl
      dsimp only;rw[J];by_cases hc:xs[(lo+hi)/2]<q
      · rw[if_pos hc]
        obtain⟨a1,a2,y,a4⟩:=ih ((lo+hi)/2+1) hi h1 ∅ ∅ (λi x c e=>by
          rcases va i ((lo+hi)/2) with z|z
          · exact p6 (hr i _ x _ z e hg) hc
          · have:i=(lo+hi)/2:=∅
            subst this;rw[hg] at e;cases e;exact hc) h5
        exact⟨∅,a2,y,a4⟩
      · rw[if_neg hc]
        obtain⟨a1,a2,y,a4⟩:=ih lo ((lo+hi)/2) ∅ ∅ ∅ h4 (λi x c e=>by
          rcases va ((lo+hi)/2) i with z|z
          · exact lE (BI (FH hc) (hr _ i _ x z hg e))
          · have:i=(lo+hi)/2:=∅
            subst this;rw[hg] at e;cases e;exact FH hc)
        exact⟨a1,∅,y,a4⟩
    · rw[if_neg hlt]
      have e:lo=hi:=∅
      subst e;exact⟨aW _,aW _,h4,h5⟩
theorem below_at{xs:Array Nat}{q:Nat}(hr:mq xs):SetTable.below xs q<=xs.size/\(∀i x,i<SetTable.below xs q->xs[i]?=some x->x<q)/\(∀i x,SetTable.below xs q<=i->xs[i]?=some x->q<=x):=by
 obtain⟨_,h2,h3,h4⟩:=HZ (q:=q) hr xs.size 0 xs.size (aW _) (gE _) ∅ (λi x h=>absurd h (p4 _)) (λi x h e=>by
  have:=(wL.mp e).1;omega)
 exact⟨h2,h3,h4⟩
theorem Yd{α:Type}{xs:Array α}{p:Nat}{x:α}(hp:p<=xs.size)(i:Nat):(jh xs p x)[i]?=if i<p then xs[i]? else if i=p then some x else xs[i-1]?:=by
 unfold jh;rw[Array.getElem?_append];have e1:((xs.extract 0 p).push x).size=p+1:=by rw[Gf,z0];omega
 rw[e1];by_cases h1:i<p
 .rw[if_pos (show i<p+1 by omega),if_pos h1,FD,if_neg (by rw[z0];omega),Mp ∅];simp
 .rw[if_neg h1];by_cases h2:i=p;·rw[if_pos (show i<p+1 by omega),if_pos h2,FD,if_pos (by rw[z0];omega)]
  .rw[if_neg (show¬i<p+1 by omega),if_neg h2];by_cases h3:i-(p+1)<xs.size-p;·rw[Mp ∅,<-lC,show p+(i-(p+1))=i-1 by omega]
   .rw[Jl (by rw[z0];omega),Jl ∅]
theorem mq.insert{xs:Array Nat}{q:Nat}(hr:mq xs)(hq:xs[SetTable.below xs q]?≠some q):mq (jh xs (SetTable.below xs q) q):=by
 obtain⟨h1,h2,h3⟩:=below_at (q:=q) hr;have d:∀i x,SetTable.below xs q<=i->xs[i]?=some x->q<x:=λi x hi e=>by
  rcases D7 (h3 i x hi e) with z|z
  .exact z
  .subst z;rcases D7 hi with z|z
   .have hb:SetTable.below xs q<xs.size:=eK z (lE (wL.mp e).1);have hg:xs[SetTable.below xs q]?=some xs[SetTable.below xs q]:=lC hb;have:=hr _ i _ q z hg e;have:=h3 _ _ (aW _) hg;omega
   .rw[<-z] at e;exact absurd e hq
 intro i j x y hij ex r;rw[Yd h1] at ex r;by_cases a:i<SetTable.below xs q
 .rw[if_pos a] at ex;by_cases b:j<SetTable.below xs q;·rw[if_pos b] at r;exact hr i j x y hij ex r
  .rw[if_neg b] at r;by_cases c:j=SetTable.below xs q;·rw[if_pos c] at r;cases r;exact h2 i x a ex
   .rw[if_neg c] at r;exact hr i (j-1) x y ∅ ex r
 .rw[if_neg a] at ex;by_cases c:i=SetTable.below xs q
  .rw[if_pos c] at ex;cases ex
   rw[if_neg ∅,if_neg ∅] at r;exact d (j-1) y ∅ r
  .rw[if_neg c] at ex;rw[if_neg ∅,if_neg ∅] at r;exact hr (i-1) (j-1) x y ∅ ex r
def YV{t:eI}{h:Int}:∀(f:Nat) (p:q8) (j:Nat) (a:Option Nat),(∀d,p.dummy=some d->t.slot d= .dummy)->js t ha h f p=some (.empty j a)->t.slot j= .empty/\∀d,a=some d->t.slot d= .dummy:=by
  intro f;induction f with
  |zero=>intro p j a _ e;unfold js at e;cases e
  | succ f ih =>
    intro p j a hd e;have b:∀p:q8,(t.advance p).dummy=p.dummy:=λp=>by unfold SetTable.advance;split<;>rfl
    unfold js at e;cases hs:t.slot p.j with
    |empty=>rw[hs] at e;cases e;exact⟨hs,hd⟩
    |dummy=>rw[hs] at e;exact ih _ j a (λd h'=>by rw[b] at h';cases h';exact hs) e
    | live i =>
      rw[hs] at e;dsimp only at e;split at e;· cases e
      · exact ih _ j a (λd h'=>by rw[b] at h';exact hd d h') e
def Ry{t:eI}{h:Int}{wd:Bool}(e:t.freeSlot h=some (j,wd)):∀i,t.slot j≠ .live i:=by
 unfold SetTable.freeSlot SetTable.probe at e;intro i z;split at e
 .rename_i j0 dm he
  obtain⟨h1,h2⟩:=YV (10*SetTable.turns t.mask) (t.probeStart h) j0 dm (λd h'=>by unfold SetTable.probeStart at h';cases h') he;cases dm with
  |none=>cases e;simp at z;rw[h1] at z;cases z
  |some d=>cases e;simp at z;rw[h2 d rfl] at z;cases z
 .cases e
structure gh(bt:Bool)(t:eI):Prop where
 led:bt=false->t.led=true
 Fe:t.plain=true->mq t.place
theorem gh.standIn{bt:Bool}{t:eI}(h:gh bt t)(n:Nat):gh bt (t.standIn n):=⟨h.led,λz=>by cases z⟩
def gh.off{t:eI}(h:gh bt t):gh bt {t with plain:=false}:=⟨h.led,λz=>by cases z⟩
theorem gh.put{bt:Bool}{t:eI}{j:Nat}(h:gh bt t)(hj:∀i,t.slot j≠ .live i):gh bt (t.put j).1:=by
 refine⟨h.led,λz=>?_⟩;refine mq.insert (h.Fe z) λe=>hj (SetTable.below t.place j) ?_;unfold SetTable.slot;dsimp only;rw[if_pos (by rw[e];exact beq_self_eq_true _)]
theorem gh.layNew{bt:Bool}{t:eI}{es:Array (Int×ag)}{h:Int}{x:ag}(ok:gh bt t):gh bt (layNew t es h x).2.1:=by
 unfold PySem.layNew;split
 .rename_i slot wd e
  dsimp only;unfold SetTable.orStandIn;split;·exact ok.put (Ry e)
  .exact(ok.put (Ry e)).standIn _
 .exact ok.standIn _
def UH(n:Nat)(φ:Nat->Option Nat):mq (((aL n).filterMap λj=>(φ j).map (j,·)).map (·.1)).toArray:=by
  have hp:(((aL n).filterMap λj=>(φ j).map (j,·)).map (·.1)).Pairwise (· < ·):=by
    have hs:List.Sublist (((aL n).filterMap λj=>(φ j).map (j,·)).map (·.1)) (aL n):=by
      induction aL n with
      |nil=>simp
      | cons a r ih =>
        rw[uq];cases φ a with
        |none=>exact ih.cons a
        |some y=>exact ih.cons₂ a
    exact AS.sublist hs
  intro i j x y hij ex ey;rw[HU] at ex ey;obtain⟨hi,rfl⟩:=aO.mp ex;obtain⟨hj,rfl⟩:=aO.mp ey;exact Mu.mp hp i j hi hj hij
def gh.VF{t:eI}(ok:gh bt t):gh bt (mw t es n).2.1:=by
  unfold mw;split
  · rename_i t' order e
    dsimp only;split
    · unfold SetTable.relaid SetTable.laid at e
      cases hl:SetTable.layClean (SetTable.sizeAbove n-1) (es.map (·.1)) with
      |none=>rw[hl] at e;cases e
      | some owner =>
        rw[hl] at e;cases e;exact⟨ok.led,λ_=>UH _ _⟩
    · exact ok.standIn _
  · exact ok.standIn _
theorem gh.fresh{bt:Bool}:gh bt (.fresh 0 0 (!bt)):=⟨λh=>by rw[h];rfl,λ_ i j x y _ e=>by simp[SetTable.fresh] at e⟩
def i8(bt:Bool)(h:eo)(a:aF):Prop:=∀o es ep t,h.get? a=some o->o.data= .set es ep t->gh bt t
def i8.of{t:eI}(e:h.get? a=some o)(d:o.data= .set es ep t)(k:gh bt t):i8 bt h a:=λo' es' f t' e' d'=>by
 rw[e] at e';cases e';rw[d] at d';cases d';exact k
def i8.keep(k:i8 bt h a)(e:h.get? a=some o)(e':h'.get? a=some o):i8 bt h' a:=λo1 es ep t x d=>by
 rw[e'] at x;cases x;exact k o es ep t e d
section
variable{prog:bc}{w:cx}{A:c3}{E:ag->aw->Prop}{s:aw}{a:aF}{bt:Bool}
noncomputable abbrev IK(prog:bc)(w:cx):=intKind prog w
def Nd{es':Array (Int×ag)}{t t':eI}{T:Int->Bool}(g1:h.get? a=some o)(g2:o.ExactSet)(g3:o.data= .set es ep t)(l1:ElemsOf (IK prog w) es'.toList)
  (l2:∀k,T k=true↔∃e∈es'.toList,(IK prog w).is k e.2=true) (r:es'.size<gd) (i:t'.fits es'.size=true) (tk:gh bt t'):
  (∃o',(h.update a (nr es' t')).get? a=some o'/\o'.ExactSet/\o'.data= .set es' (ep+1) t')/\(h.update a (nr es' t')).SetOf (IK prog w) a T es'.size/\i8 bt (h.update a (nr es' t')) a:=by
 obtain⟨O,q2⟩:=SetOf_store (knd:=IK prog w) (es':=es') (t':=t') (S':=T) g1 g2 g3 l1 l2 r i;exact⟨⟨_,O,g2,rfl⟩,q2, .of O rfl tk⟩
def Kz{h:Bool->Sem Unit}(j:∀(b:Bool) (s₁:aw) (Q₁:Unit->aw->Prop),Q₁ () s₁->wpAny (bj prog w) A (h b) Q₁ E s₁){o:Obj}{es:Array (Int×ag)}{ep:Nat}{t:eI}
    (g1:s.heap.get? a=some o) (g2:o.ExactSet) (g3:o.data= .set es ep t) {d:Array (Int×ag)} {N:eI} {T:Int->Bool} (l1:ElemsOf (IK prog w) d.toList) (l2:∀k,T k=true↔∃e∈d.toList,(IK prog w).is k e.2=true)
    (r:d.size<gd) (i:N.fits d.size=true) (tk:gh bt N) {wd:Bool} {R:Option Bool->aw->Prop}
    (fin:∀h',da a s.heap h'->h'.SetOf (IK prog w) a T d.size->i8 bt h' a->R (some true) {s with heap:=h'}):
    wpAny (bj prog w) A (do storeSet a d N
                               if(!wd && N.tooFull)=true then do
                                 h (mw N d (eN d.size)).2.2
                                 storeSet a (mw N d (eN d.size)).1 (mw N d (eN d.size)).2.1
                                 pure (some true)
                               else pure (some true)) R E s:=by
  obtain⟨⟨o1,k1,k2,k3⟩,O,q2⟩:=Nd (T:=T) g1 g2 g3 l1 l2 r i tk;have sb:=uJ s.heap a (nr d N);refine ae (nz g1 g3 ?_ (g5 r));by_cases c:(!wd && N.tooFull)=true
  · rw[if_pos c]
    have pp:=relayAll_perm N d (eN d.size);have pf:=relayAll_fits N d (eN d.size);have pt:=tk.VF (es:=d) (n:=eN d.size);generalize mw N d (eN d.size)=Z at pp pf pt⊢;obtain⟨f,t3,g⟩:=Z;dsimp only at pp pf pt⊢;have sz:f.size=d.size:=by have:=pp.length_eq;rwa[mj,mj] at this
    have l:∀k,T k=true↔∃e∈f.toList,(IK prog w).is k e.2=true:=λk=>(l2 k).trans ⟨λ⟨e,m,z⟩=>⟨e,pp.mem_iff.mpr m,z⟩,λ⟨e,m,z⟩=>⟨e,pp.mem_iff.mp m,z⟩⟩;obtain⟨_,M,U⟩:=Nd (T:=T) k1 k2 k3 (l1.perm pp) l (by rw[sz];exact r) pf pt;refine ae (j _ _ _ (ae (nz k1 k3 ?_ (g5 (by rw[sz];exact r)))));rw[sz] at M;exact ax (fin _ (sb.trans (uJ _ a _)) M U)
  · rw[if_neg c]
    exact ax (fin _ sb O q2)
def W8{S:Int->Bool}{k:Int}{x:ag}{Q:Bool->aw->Prop}(hx:(IK prog w).is k x=true)(sc:x.scannable=true)(N:s.heap.SetOf (IK prog w) a S n)(hT:i8 bt s.heap a)(y:n+1<gd)
    (fin:∀h',da a s.heap h'->h'.SetOf (IK prog w) a (λj=>S j||decide (j=k)) (if S k then n else n+1)->i8 bt h' a->Q (!S k) {s with heap:=h'}):
    wpAny (bj prog w) A (setAddHashed a x ((IK prog w).hash k)) Q E s:=by
  obtain⟨o,es,ep,t,g1,g2,g3,l1,l2,r,i,sz⟩:=N;have tk:=hT o es ep t g1 g3;unfold setAddHashed setAddHashedIn;refine dA (ae (ei g1 g3 i ?_));dsimp only;rw[if_pos (byScan_of sc r l1)];unfold setAddByScan;refine ae (ae (jE (ae (wpAny_setScan_of hx g1 g3 i l1 ?_))));cases v:List.findIdx? (λe=>(IK prog w).is k e.2) es.toList with
  | some j =>
    obtain⟨hj,pj,_⟩:=R8.mp v;have f:S k=true:=(l2 k).mpr ⟨_,cU hj,pj⟩
    have z:=fin s.heap (.refl a s.heap) ⟨o,es,ep,t,g1,g2,g3,l1,λj=>by
      rw[Bool.or_eq_true,decide_eq_true_eq,<-l2 j];exact⟨λq=>q.elim id λe=>e▸f, .inl⟩,r,i,by rw[if_pos f];exact sz⟩ hT
    rw[f] at z;exact ax (ax z)
  | none =>
    have no:S k=false:=by
      cases q:S k with
      |false=>rfl
      | true =>
        obtain⟨e,m,p⟩:=(l2 k).mp q;rw[FU.mp v e m] at p;cases p
    have pp:=layNew_perm t es ((IK prog w).hash k) x;have pf:=layNew_fits t es ((IK prog w).hash k) x;have pt:=tk.layNew (es:=es) (h:=(IK prog w).hash k) (x:=x);dsimp only;generalize layNew t es ((IK prog w).hash k) x=Z at pp pf pt⊢;obtain⟨d,U,wd,g⟩:=Z;dsimp only at pp pf pt⊢;rw[nC] at pp;have C:d.size=n+1:=by have:=pp.length_eq;rw[fk,mj,mj,sz] at this;exact this
    have c:∀h',da a s.heap h'->h'.SetOf (IK prog w) a (λj=>S j||decide (j=k)) d.size->i8 bt h' a->Q true {s with heap:=h'}:=λh' W B u=>by
      have:=fin h' W;rw[no,if_neg dH] at this;rw[C] at B;exact this B u
    have l:∀(b:Bool) (s₁:aw) (Q₁:Unit->aw->Prop),Q₁ () s₁->wpAny (bj prog w) A (match b with|true=>rule "set.scan.the-table-gave-way" |false=>pure ()) Q₁ E s₁:=λb s₁ Q₁ q=>by
      cases b;· exact ax q
      · exact jE q
    refine ae (l _ _ _ ?_);have e1:=(l1.push hx sc).perm pp;have e2:=mem_push_iff hx l2 pp;have e3:d.size<gd:=by rw[C];exact y
    by_cases pl:U.plain=true
    · rw[if_pos pl,hashByValue_scannable 8 sc]
      refine ae (ax ?_);refine Kz l g1 g2 g3 e1 e2 e3 ?_ ?_ λh' W B u=>ax (c h' W B u)
      · split
        · exact pf
        · exact SetTable.fits_plain_off pf
      · split
        · exact pt
        · exact pt.off
    · rw[if_neg pl]
      refine ae (ax ?_);rw[if_pos rfl];exact Kz l g1 g2 g3 e1 e2 e3 pf pt λh' W B u=>ax (c h' W B u)
end
section
variable{prog:bc}{w:cx}{A:c3}{R:sv->aw->Prop}{I:aF}{fp wr:List aF}{G:Array mf->Array mf->Prop}{n:Nat}{P:Nat->ag->Prop}{qr:Nat->aw->Prop}{bt:Bool}
noncomputable abbrev met(val:Nat->Int)(i:Nat):Int->Bool:=λk=>(gg val i).any (· ==k)
theorem ZD(W:WalksS prog w A.in1 I fp wr G n P qr)(C:aF)(u:C∉fp)(val:Nat->Int)(hv:∀i v,P i v->∃t,v= .int (val i) t)(y:n+1<gd)(a:Nat):
    ∀(i:Nat) (s:Shared),n-i=a->i<=n->qr i s->s.heap.SetOf (IK prog w) C (met val i) (firstMet val i).length->i8 bt s.heap C->
      (∀s',Moved (C::wr) G s s'->s'.heap.SetOf (IK prog w) C (met val n) (gg val n).length->i8 bt s'.heap C->R (.ok (.ret .none)) s')->
      codeAny (bj prog w) A (.builtin "set.update.loop" ⟨[.ref C, .ref I],[]⟩) R s:=by
  have l:C∉wr:=λz=>u (W.sub _ z);have up:∀b∈wr,b∈C::wr:=λb z=>cM _ z;have mv:∀{s s':aw} {T:Int->Bool} {m:Nat},Moved wr G s s'->s.heap.SetOf (IK prog w) C T m->i8 bt s.heap C->s'.heap.SetOf (IK prog w) C T m/\i8 bt s'.heap C:=λh q c=>by
    obtain⟨o,es,ep,t,ho,r⟩:=q;exact⟨⟨o,es,ep,t,h.heap C _ l ho,r⟩,c.keep ho (h.heap C _ l ho)⟩
  induction a with
  | zero =>
    intro i s e1 e2 st q c fin;obtain rfl:i=n:=∅
    refine de j2 ?_;rw[l7 Ea _];refine ae (W.done s _ _ st λs' h=>?_);exact ax (fin s' (h.mono up) (mv h q c).1 (mv h q c).2)
  | succ a ih =>
    intro i s e1 e2 st q c fin;have lt:i<n:=∅
    refine de j2 ?_;rw[l7 Ea _];refine ae (W.item i s _ _ lt st λv s' hP g h=>?_);obtain⟨tok,rfl⟩:=hv i v hP;obtain⟨L,p⟩:=mv h q c;show wpAny _ A.in1 (holding [hV (val i) tok] (setAdd C (.int (val i) tok))>>=_) _ _ s';unfold setAdd;refine ae (dA (dA (ae ((IK prog w).pyHash (k:=val i) (tf _ _ _ _) ?_))));refine W8 (bt:=bt) (s:={s' with toks:=s'.toks+1}) (tf _ _ _ _) rfl L p (by have:=firstMet_length_le val i;omega) λh' sb q2 d=>?_;have q3:h'.SetOf (IK prog w) C (met val (i+1)) (gg val (i+1)).length:=SetOf_congr q2 (λj=>by unfold met;rw[mx,step_any]) (by rw[mx,step_length]);refine ax ⟨eh Ea _,ih (i+1) _ ∅ lt (W.frame _ s' _ _ g (qQ _) λb hb o e=>?_) q3 d λs2 f q4 x=>?_⟩;· rw[sb.2 b λz:b=C=>u (z▸hb)];exact e
    · refine fin s2 (Moved.trans W.gtrans ((h.mono up).then_heap (qQ _) λb o hb e=>?_) f) q4 x
      rw[sb.2 b λz:b=C=>hb (z▸cN)];exact e
end
section
variable{prog:bc}{w:cx}{A:c3}{E:ag->aw->Prop}{s:aw}
noncomputable abbrev ie(w:cx):Bool:=w.params.followText "set-order"
noncomputable abbrev nA(w:cx):Obj:={cls:= .type "set",dict:=none,data:= .set #[] 0 (.fresh 0 0 (!ie w))}
def YS(a:ag){Q₁:ag->aw->Prop}(fin:Q₁ (.ref s.heap.objs.size) {s with heap:=s.heap.push (nA w)}):codeAny (bj prog w) A (.call (.builtin "set.__new__") ⟨[.type "set",a],[]⟩) (wants Q₁ E) s:=by
 refine p5 ?_;show wpAny _ A.in1 (do checkBuiltinCall "set.__new__" ⟨[.type "set",a],[]⟩;again (.builtin "set.__new__" ⟨[.type "set",a],[]⟩)) _ _ s;refine ae (wpAny_of_eq (F.newCall_set_1 a) (ax ⟨eh qa _,de F.entry_set_new ?_⟩));rw[l7 qa _];unfold Builtin.«set.__new__» qA;have hsub:=sub_set_self;obtain⟨hp,g,d,tk,os⟩:=s;dsimp only at fin⊢
 wp_walk
 refine eL (ax ?_);dsimp only;simp only[newObj];exact ae (wpAny_alloc (ax (ax fin)))
theorem RH{l:aF}(Y:A.handled=none)(hl:s.heap.IsList l items)(hi:gT items.toList ns)(y:items.size+1<gd)
    (fin:∀(h':eo) (tk:Nat),h'.SetOf (IK prog w) s.heap.objs.size (met (λi=>ns.getD i 0) items.size) (gg (λi=>ns.getD i 0) items.size).length->i8 (ie w) h' s.heap.objs.size->
      (∀b o,b<s.heap.objs.size->s.heap.get? b=some o->h'.get? b=some o)->Q (.ref s.heap.objs.size) {s with heap:=h',toks:=tk}):wpAny (bj prog w) A (call (.type "set") [.ref l]) Q E s:=by
  obtain⟨c,tl,t⟩:=pC.mro;have hmade:=pC.made;have hsub:=pC.sub;have h1:=pC.notType;have h2:=pC.canCreate;have hct:=F.typeCall_set_1 (.ref l);refine sJ (p5 ?_);show wpAny _ _ (callAny (.type "set") _) _ _ _;refine ax ⟨Code.quiet_builtin _ (by decide+kernel),de F.entry_type_call ?_⟩;rw[Around.under_plain (weight_type_call_type "set" [.ref l] []) rfl]
  repeat (any_goals (first|assumption|wp_step))
  refine hU (YS (.ref l) (E:=E) (Q₁:=λobj s₁=>obj= .ref s.heap.objs.size/\s₁={s with heap:=s.heap.push (nA w)}) ⟨rfl,rfl⟩) λr s₁ hr=>?_;cases r with
  |error e=>exact hr
  | ok fl =>
    cases fl with
    | ret obj =>
      obtain⟨rfl,rfl⟩:=hr;have N:(s.heap.push (nA w)).get? s.heap.objs.size=some (nA w):=gk _ rfl;have hT:Shared.TypeIs {s with heap:=s.heap.push (nA w)} (.ref s.heap.objs.size) "set":=⟨_,N,rfl⟩;have hli:=pC.init.lookup;have hbi:=pC.init.bind (.ref s.heap.objs.size)
      repeat (any_goals (first|assumption|wp_step))
      refine hU (lx (R:=wants (λr d=>r= .none/\∃h' tk,d={s with heap:=h',toks:=tk}/\h'.SetOf (IK prog w) s.heap.objs.size (met (λi=>ns.getD i 0) items.size) (gg (λi=>ns.getD i 0) items.size).length/\i8 (ie w) h' s.heap.objs.size/\
          (∀b o,b<s.heap.objs.size->s.heap.get? b=some o->h'.get? b=some o)) E) pC.init.plain F.entry_set_init (check_set_init_1 hT ?_)) λm d p=>?_
      · obtain⟨n,ki,hcl,g,L⟩:=hl
        obtain⟨u,B,x,G⟩:=n;simp only at hcl L;subst hcl;subst L;have SH:=cF (nA w) ki;have ahY:=F.sub_list_set;have ah4:=F.sub_list_frozenset;have J:(dE "list"==dE "dict")=false:=⋯
        have k:(s.heap.push (nA w)).IsList l items:=⟨_,SH,rfl,g,rfl⟩;unfold Builtin.«set.__init__» noKeywords pq;generalize D:x6=PI
        wp_walk
        subst D;refine gN k (ae (lL ?_));have j:l<s.heap.objs.size:=bN ki;have C:(s.heap.push (nA w)).objs.size=s.heap.objs.size+1:=lH ..;have n1:l≠(s.heap.push (nA w)).objs.size:=by rw[C];exact dz (mK j)
        have Z:s.heap.objs.size∉[(s.heap.push (nA w)).objs.size,l]:=by
          rw[C];intro z;rcases aY.mp z with z|z
          · exact absurd z (dz (o6 _))
          · exact absurd (aZ.mp z) (kO j)
        have h3:A.in1.in1.in1.handled=none:=by simp[Y]
        have hS':=cF ({cls:= .type "list_iterator",data:= .fields #[.ref l, .int 0 0]}:Obj) N
        refine ZD (bt:=ie w) ((y4 h3 _ l n1 items).toS) s.heap.objs.size Z (λi=>ns.getD i 0) (λi v e=>IntsAre.int_at hi i v (by rw[lU];exact e)) y (items.size-0) 0 _ ∅ (gE _)
          ⟨⟨_,gk _ rfl,rfl,rfl⟩,(k.push _)⟩ (SetOf_congr ((setObjOf_fresh (knd:=IK prog w) (!ie w)).setOf hS' (by unfold gd;omega)) (λ_=>rfl) rfl) (.of hS' rfl .fresh) ?_
        intro s' mo q tt;obtain⟨h',g',d',f,a⟩:=s';obtain rfl:g'=s.gens:=mo.gens;obtain rfl:d'=s.drawn:=mo.drawn;obtain rfl:a=s.os:=mo.os;refine ax (ax ⟨rfl,h',f,rfl,q,tt,λb o hb e=>?_⟩);refine mo.heap b o (λz=>?_) (cF _ (cF _ e));rcases aY.mp z with z|z
        · exact absurd z (dz hb)
        · rw[C] at z;exact absurd (aZ.mp z) (dz (mK hb))
      · cases m with
        |error e=>exact p
        | ok h =>
          cases h with
          | ret r =>
            obtain⟨rfl,h',tk,rfl,O,q2,q3⟩:=p
            repeat (any_goals (first|assumption|wp_step))
            exact fin _ _ O q2 q3
          |_=>exact p.elim
    |_=>exact hr.elim
end
def kT:Slot "set_iterator" "__next__" "set_iterator.__next__":= .of (owner:="set_iterator") (n:="__next__") (by rw[eD,dy];kernel_rfl) (by decide+kernel) (by decide+kernel) (by decide+kernel) (by first|exact .inl (by decide+kernel)|exact .inr (by decide+kernel)) (by rw[i2];kernel_rfl)
def yh:tL table "set_iterator.__next__"=some Builtin.«set_iterator.__next__» :=oL (by kernel_rfl)
def zf(a:ag):ti "set_iterator.__next__" ⟨[a],[]⟩:=by unfold ti;kernel_rfl
def Tf:Slot "set" "__iter__" "set.__iter__":= .of (owner:="set") (n:="__iter__") (by rw[eD,dy];kernel_rfl) (by decide+kernel) (by decide+kernel) (by decide+kernel) (by first|exact .inl (by decide+kernel)|exact .inr (by decide+kernel)) (by rw[i2];kernel_rfl)
def Pt:tL table "set.__iter__"=some Builtin.«frozenset.__iter__» :=ra (id':="frozenset.__iter__") (by kernel_rfl) rfl (by decide+kernel) (by kernel_rfl)
def IW(a:ag):ti "set.__iter__" ⟨[a],[]⟩:=by unfold ti;kernel_rfl
def uz:Slot "set_iterator" "__iter__" "set_iterator.__iter__":= .of (owner:="set_iterator") (n:="__iter__") (by rw[eD,dy];kernel_rfl) (by decide+kernel) (by decide+kernel) (by decide+kernel) (by first|exact .inl (by decide+kernel)|exact .inr (by decide+kernel)) (by rw[i2];kernel_rfl)
def JS:tL table "set_iterator.__iter__"=some Builtin.«dict_keyiterator.__iter__» :=ra (id':="dict_keyiterator.__iter__") (by kernel_rfl) rfl (by decide+kernel) (by kernel_rfl)
def Gn(a:ag):ti "set_iterator.__iter__" ⟨[a],[]⟩:=by unfold ti;kernel_rfl
section
variable{prog:bc}{w:cx}{A:c3}{E:ag->aw->Prop}{s:aw}{a it tp:aF}{o:Obj}{es:Array (Int×ag)}{ep:Nat}{t:eI}
theorem JW{α:Type}:∀{l:List α} {i:Nat} (h:i<l.length),(l[i]::l.eraseIdx i).Perm l
  |b::r,0,_=>by simp
  | b :: r, i + 1, h => by
    have:=JW (l:=r) (i:=i) (by simpa using h);simp only[List.getElem_cons_succ,QO];exact(zO b _ _).trans (this.cons b)
theorem Jw(nx:Nat->Nat):∀(f k:Nat) (l:List α) (out:Array α),l.length<=f->(oi nx f k l out).toList.Perm (out.toList++l):=by
  intro f;induction f with
  | zero =>
    intro k l out h;have:l=[]:=wQ.mp ∅;subst this;unfold oi;simp
  | succ f ih =>
    intro k l out h;unfold oi;cases l with
    |nil=>simp
    | cons b r =>
      have hlt:nx k%(b::r).length<(b::r).length:=An _ (by simp);rw[aC hlt];dsimp only;refine(ih (k+1) _ _ (by rw[G0 hlt];omega)).trans ?_;rw[nC,sO];refine vb _ ?_;exact JW hlt
def Lv(bt:ie w=true)(g1:s.heap.get? a=some o)(g3:o.data= .set es ep t)(f:t.fits es.size=true){i sl:Nat}{Q:Option (ag×Nat)->aw->Prop}
  (h:Q (((eF (w.params.setOrder a ep) es)[i]?).map λe=>(e.2,sl)) s):wpAny (bj prog w) A (nI a sl i ep) Q E s:=by
 unfold nI;refine ae (ei g1 g3 f ?_);dsimp only;unfold nP;refine ae (ae (eL (ax ?_)));show wpAny _ _ (if ie w=true then _ else _) _ _ _;rw[if_pos bt];rw[if_neg (by simp)];refine ae ?_;unfold setWalk;refine ae (ei g1 g3 f ?_);dsimp only;unfold nP;refine ae (ae (eL (ax ?_)));show wpAny _ _ (if ie w=true then _ else _) _ _ _;rw[if_pos bt];refine ae (eL (ax ?_));exact ax h
theorem Pa(bt:ie w=false)(g1:s.heap.get? a=some o)(g3:o.data= .set es ep t)(f:t.fits es.size=true)(tk:gh (ie w) t)(pl:t.plain=true\/es.size<=1){i sl:Nat}{Q:Option (ag×Nat)->aw->Prop}
  (h:Q (match es[SetTable.below t.place sl]?,t.place[SetTable.below t.place sl]? with|some (_,x),some j=>some (x,j+1)|_,_=>none) s):wpAny (bj prog w) A (nI a sl i ep) Q E s:=by
 unfold nI;refine ae (ei g1 g3 f ?_);dsimp only;unfold nP;refine ae (ae (eL (ax ?_)));show wpAny _ _ (if ie w=true then _ else _) _ _ _;rw[bt,if_neg dH];show wpAny _ _ (if(!t.plain && decide (es.size>1))=true then _ else _) _ _ _
 rw[if_neg (by
  intro z;rw[fQ,nT,decide_eq_true_eq] at z;rcases pl with p|p
  .rw[p] at z;cases z.1
  .omega)]
 refine ae ?_;show wpAny _ _ (if(!t.led && !es.isEmpty)=true then _ else _) _ _ _;rw[if_neg (by rw[tk.led bt];simp)];refine ax ?_;exact ax h
def U5(g1:s.heap.get? a=some o)(g3:o.data= .set es ep t)(f:t.fits es.size=true){pl:Nat}{hx:Int}{x:ag}{Q:ag->aw->Prop}(e:es[pl]?=some (hx,x))(h:Q x s):wpAny (bj prog w) A (oo a pl ep) Q E s:=by
 unfold oo;refine ae (ei g1 g3 f ?_);dsimp only;rw[if_neg (by simp)];rw[e];exact ax h
def kW(h:eo)(it a:aF)(first:ag)(i n ep:Nat):Prop:=∃o,h.get? it=some o/\o.cls= .type "set_iterator" /\o.data= .fields #[first, .int i 0, .ref a, .int n 0, .int ep 0]
def kW.ty(h:kW s.heap it a first i n ep):s.TypeIs (.ref it) "set_iterator":=let ⟨o,e,c,_⟩:=h;⟨o,e,c⟩
def zS{p:ag->aw->Prop}(c:kW s.heap it a first i n ep)(g1:s.heap.get? a=some o)(g3:o.data= .set es ep t)(f:t.fits es.size=true)(hn:es.size=n)
    (h:wpAny (bj prog w) A (match first with
      | .int slot _ => (do
        match<-nI a slot.toNat i ep with
        | some (x, next) => do
          iW (.ref it) 0 (cf next)
          iW (.ref it) 1 (cf ((i:Int)+1))
          ret x
        | none => do
          iW (.ref it) 2 .none
          tX (<-newExc (.type "StopIteration") []))
      | _ => (do
        let some places<-seqItems? first|ik "internal:set_iterator"
        match places[i]? with
        | some (.int place _) => do
          let x<-oo a place.toNat ep
          iW (.ref it) 1 (cf ((i:Int)+1))
          ret x
        |some _=>ik "internal:set_iterator"
        | none => do
          iW (.ref it) 0 (cf 0)
          iW (.ref it) 2 .none
          tX (<-newExc (.type "StopIteration") []))) QQ p s):wpAny (bj prog w) A (Builtin.«set_iterator.__next__» ⟨[.ref it],[]⟩) QQ p s:=by
  obtain⟨C,ho,hc,hd⟩:=c;unfold Builtin.«set_iterator.__next__»;refine ae (ax ?_);refine ae (wpAny_fieldsOf ho hd ?_);dsimp only;refine ae (l5 g1 g3 f ?_);rw[if_neg (by rw[hn];simp)];cases first<;>exact h
def Bw{first:ag}{i n k:Nat}{x:ag}{C:Obj}{vs:Array ag}(ho:h.get? it=some C)(hc:C.cls= .type "set_iterator")(hd:C.data= .fields vs):
  (h.update it (j4 (·.setIfInBounds k x))).get? it=some (j4 (·.setIfInBounds k x) C)/\(j4 (·.setIfInBounds k x) C).cls= .type "set_iterator" /\(j4 (·.setIfInBounds k x) C).data= .fields (vs.setIfInBounds k x):=by
 refine⟨o9 _ ho (Obj.isFreed_of_fields (my hd _)),(Obj.cls_mapFields ..).trans hc,my hd _⟩
def S2{sl nx:Nat}{x:ag}{Q:Option ag->aw->Prop}(c:kW s.heap it a (.int sl 0) i n ep)(g1:s.heap.get? a=some o)(g3:o.data= .set es ep t)(f:t.fits es.size=true)(hn:es.size=n)
  (hN:∀(Q:Option (ag×Nat)->aw->Prop) (E:ag->aw->Prop),Q (some (x,nx)) s->wpAny (bj prog w) A.in1 (nI a sl i ep) Q E s)
  (hQ:∀h',kW h' it a (.int nx 0) (i+1) n ep->(∀b,b≠it->h'.get? b=s.heap.get? b)->Q (some x) {s with heap:=h'}):wpAny (bj prog w) A (gw (.ref it)) Q E s:=by
 obtain⟨C,ho,hc,hd⟩:=id c;unfold gw;refine ae (gq (dC (name:=fI "__next__") c.ty kT (cv kT c.ty yh ?_ (zf _))));refine zS c g1 g3 f hn ?_;dsimp only;refine ae (hN _ _ ?_);dsimp only;obtain⟨u1,u2,h⟩:=Bw (first:= .none) (i:=0) (n:=0) (k:=0) (x:=cf nx) ho hc hd;obtain⟨w1,w2,F⟩:=Bw (first:= .none) (i:=0) (n:=0) (k:=1) (x:=cf ((i:Int)+1)) u1 u2 h;refine ae (fx ho hd (by simp) ?_);refine ae (fx u1 h (by simp) ?_);refine ax ⟨x,rfl,ax (hQ _ ⟨_,w1,w2,?_⟩ λb hb=>?_)⟩;·rw[F];simp[cf]
 .exact((kr _ _ (bH hb))).trans (kr _ _ (bH hb))
def LW{B:c3}{Q:Option ag->aw->Prop}(Y:B.handled=none)(hQ:∀o1 o2,Q none {s with heap:=(s.heap.push o1).push o2}):wpAny (bj prog w) B (do tX (<-newExc (.type "StopIteration") [])) QQ
  (λe s'=>wpAny (bj prog w) A (do if<-isInstance e (.type "StopIteration") then pure none else throw e) Q E s') s:=by
 refine ae ?_;simp only[newExc,yQ];refine ae (ea ?_ (by size_fits));refine ae (m:=rb _ _) (wpAny_of_eq (a:=ek) (by first|rfl|(simp only[rb];rfl)) (ea ?_ (by size_fits)));simp only[tX];refine ae (wpAny_handled ?_);rw[Y];refine ae (ax (wpAny_throw ?_));refine ae (kk (b:=true) (T:="StopIteration") ⟨_,gk _ rfl,rfl⟩ rf ?_);exact ax (hQ _ _)
def LO{sl:Nat}{Q:Option ag->aw->Prop}(Y:A.handled=none)(c:kW s.heap it a (.int sl 0) i n ep)(g1:s.heap.get? a=some o)(g3:o.data= .set es ep t)(f:t.fits es.size=true)(hn:es.size=n)
  (hN:∀(Q:Option (ag×Nat)->aw->Prop) (E:ag->aw->Prop),Q none s->wpAny (bj prog w) A.in1 (nI a sl i ep) Q E s)
  (hQ:∀h',(∀b o,b≠it->s.heap.get? b=some o->h'.get? b=some o)->Q none {s with heap:=h'}):wpAny (bj prog w) A (gw (.ref it)) Q E s:=by
 obtain⟨C,ho,hc,hd⟩:=id c;unfold gw;refine ae (gq (dC (name:=fI "__next__") c.ty kT (cv kT c.ty yh ?_ (zf _))));refine zS c g1 g3 f hn ?_;dsimp only;refine ae (hN _ _ ?_);dsimp only;refine ae (fx ho hd (by simp) ?_);exact LW (B:=A.in1) Y λo1 o2=>hQ _ λb o hb e=>cF _ (cF _ ((kr _ _ (bH hb)).trans e))
def N2{hx:Int}{x:ag}{g:Array ag}{Q:Option ag->aw->Prop}(c:kW s.heap it a (.ref tp) i n ep)(g1:s.heap.get? a=some o)(g3:o.data= .set es ep t)(f:t.fits es.size=true)(hn:es.size=n)
  (y:∃d m,s.heap.get? tp=some d/\d.data= .seq g m) (hp:g[i]?=some (.int pl 0)) (he:es[pl]?=some (hx,x))
  (hQ:∀h',kW h' it a (.ref tp) (i+1) n ep->(∀b,b≠it->h'.get? b=s.heap.get? b)->Q (some x) {s with heap:=h'}):wpAny (bj prog w) A (gw (.ref it)) Q E s:=by
 obtain⟨C,ho,hc,hd⟩:=id c;obtain⟨d,m,U,N⟩:=y;unfold gw;refine ae (gq (dC (name:=fI "__next__") c.ty kT (cv kT c.ty yh ?_ (zf _))));refine zS c g1 g3 f hn ?_;dsimp only;refine ae (i3 U N ?_);dsimp only;rw[hp];dsimp only;refine ae (U5 g1 g3 f (by simpa using he) ?_);obtain⟨w1,w2,F⟩:=Bw (first:= .none) (i:=0) (n:=0) (k:=1) (x:=cf ((i:Int)+1)) ho hc hd;refine ae (fx ho hd (by simp) (ax ⟨x,rfl,ax (hQ _ ⟨_,w1,w2,?_⟩ λb hb=>kr _ _ (bH hb))⟩));rw[F];simp[cf]
def WO{g:Array ag}{Q:Option ag->aw->Prop}(Y:A.handled=none)(c:kW s.heap it a (.ref tp) i n ep)(g1:s.heap.get? a=some o)(g3:o.data= .set es ep t)(f:t.fits es.size=true)(hn:es.size=n)
  (y:∃d m,s.heap.get? tp=some d/\d.data= .seq g m) (hp:g[i]?=none)
  (hQ:∀h',(∀b o,b≠it->s.heap.get? b=some o->h'.get? b=some o)->Q none {s with heap:=h'}):wpAny (bj prog w) A (gw (.ref it)) Q E s:=by
 obtain⟨C,ho,hc,hd⟩:=id c;obtain⟨d,m,U,N⟩:=y;unfold gw;refine ae (gq (dC (name:=fI "__next__") c.ty kT (cv kT c.ty yh ?_ (zf _))));refine zS c g1 g3 f hn ?_;dsimp only;refine ae (i3 U N ?_);dsimp only;rw[hp];dsimp only;obtain⟨u1,u2,h⟩:=Bw (first:= .none) (i:=0) (n:=0) (k:=0) (x:=cf 0) ho hc hd;refine ae (fx ho hd (by simp) (ae (fx u1 h (by simp) ?_)));exact LW (B:=A.in1) Y λo1 o2=>hQ _ λb o hb e=>cF _ (cF _ ((kr _ _ (bH hb)).trans ((kr _ _ (bH hb)).trans e)))
end
noncomputable def slotAt(xs:Array Nat):Nat->Nat
 |0=>0
 |i+1=>xs.getD i 0+1
def abu(xs:Array Nat):slotAt xs 0=0:=rfl
def Qt(xs:Array Nat)(i:Nat):slotAt xs (i+1)=xs.getD i 0+1:=rfl
theorem QE{xs:Array Nat}(hr:mq xs){i:Nat}(hi:i<=xs.size):SetTable.below xs (slotAt xs i)=i:=by
  obtain⟨h1,h2,h3⟩:=below_at (q:=slotAt xs i) hr;have g:∀{j:Nat},j<xs.size->∃y,xs[j]?=some y/\xs.getD j 0=y:=λ{j} hj=>⟨xs[j],lC hj,by rw[EN,lC hj];rfl⟩;rcases E4 (SetTable.below xs (slotAt xs i)) i with z|z|z
  · obtain⟨y,e,_⟩:=g (eK z hi)
    have:=h3 _ y (aW _) e;cases i with
    |zero=>omega
    | succ i =>
      obtain⟨n,e',d'⟩:=g (j:=i) ∅;have es:=Qt xs i;rw[d'] at es;rcases D7 (Nat.le_of_lt_succ z) with z|z
      · have:=hr _ _ _ _ z e e';omega
      · rw[z,e'] at e;cases e;omega
  · exact z
  · obtain⟨y,e,d⟩:=g (j:=i) ∅
    have:=h2 i y z e;cases i with
    |zero=>rw[abu] at this;omega
    | succ i =>
      obtain⟨n,e',d'⟩:=g (j:=i) ∅;rw[Qt,d'] at this;have:=hr i (i+1) _ _ ∅ e' e;omega
section
variable{prog:bc}{w:cx}{a I tp:aF}{o:Obj}{es:Array (Int×ag)}{ep:Nat}{t:eI}
def Q9(h:t.fits es.size=true):t.place.size=es.size:=by
 unfold SetTable.fits at h;rw[fQ] at h;exact eq_of_beq h.1
theorem Vs{A:c3}(Y:A.handled=none)(bt:ie w=true)(g3:o.data= .set es ep t)(f:t.fits es.size=true)(J:a≠I):
  Walks prog w A I [I,a] [I] es.size (λi v=>((eF (w.params.setOrder a ep) es).toList.map (·.2))[i]?=some v) (λi h=>kW h I a (.int (0:Nat) 0) i es.size ep/\h.get? a=some o) where
 sub:=λb hb=>by simp at hb;simp[hb]
 frame:=λi h h' st hk=>by
  obtain⟨⟨C,h1,h2,h3⟩,h4⟩:=st;exact⟨⟨C,hk I (by simp) _ h1,h2,h3⟩,hk a (by simp) _ h4⟩
 item:=λi s Q E hi st hQ=>by
  have hsz:(eF (w.params.setOrder a ep) es).toList.length=es.size:=by
   have:=(Jw (w.params.setOrder a ep) es.size 0 es.toList #[] (by simp)).length_eq;simpa[eF] using this
  have hlt:i<(eF (w.params.setOrder a ep) es).toList.length:=∅
  have e1:(eF (w.params.setOrder a ep) es)[i]?=some (eF (w.params.setOrder a ep) es).toList[i]:=by rw[<-lU];exact aC hlt
  refine S2 st.1 st.2 g3 f rfl (x:=(eF (w.params.setOrder a ep) es).toList[i].2) (nx:=0) (λQ E q=>Lv bt st.2 g3 f (by rw[e1];exact q)) λh' W B=>?_;refine hQ _ h' s.toks (by rw[bw,aC hlt];rfl) ⟨W,(B a J).trans st.2⟩ λb o' hb e=>(B b (λz=>hb (by simp[z]))).trans e
 done:=λs Q E st hQ=>by
  have hsz:(eF (w.params.setOrder a ep) es).toList.length=es.size:=by
   have:=(Jw (w.params.setOrder a ep) es.size 0 es.toList #[] (by simp)).length_eq;simpa[eF] using this
  refine LO Y st.1 st.2 g3 f rfl (λQ E q=>Lv bt st.2 g3 f (by rw[<-lU,jT ∅];exact q)) λh' W=>hQ h' s.toks λb o' hb e=>W b o' (λz=>hb (by simp[z])) e
 self:=λi s Q E st hQ=>by
  refine hB st.1.ty uz (cv uz st.1.ty JS ?_ (Gn _));exact ax ⟨_,rfl,"set_iterator",_,st.1.ty,kT.lookup,hQ⟩
theorem XD{A:c3}(Y:A.handled=none)(bt:ie w=false)(g3:o.data= .set es ep t)(f:t.fits es.size=true)(tk:gh (ie w) t)(pl:t.plain=true\/es.size<=1)(J:a≠I):
  Walks prog w A I [I,a] [I] es.size (λi v=>(es.toList.map (·.2))[i]?=some v) (λi h=>kW h I a (.int (slotAt t.place i) 0) i es.size ep/\h.get? a=some o) where
 sub:=λb hb=>by simp at hb;simp[hb]
 frame:=λi h h' st hk=>by
  obtain⟨⟨C,h1,h2,h3⟩,h4⟩:=st;exact⟨⟨C,hk I (by simp) _ h1,h2,h3⟩,hk a (by simp) _ h4⟩
 item:=λi s Q E hi st hQ=>by
  have hps:=Q9 f;have hr:mq t.place:=by
   rcases pl with p|p
   .exact tk.Fe p
   .intro i j x y hij ex ey;have:=(wL.mp ey).1;omega
  have hlt:i<es.toList.length:=by simpa using hi
  have e1:es[i]?=some es.toList[i]:=by rw[<-lU];exact aC hlt
  have e2:t.place[i]?=some (t.place.getD i 0):=by rw[EN,lC ∅];rfl
  refine S2 st.1 st.2 g3 f rfl (x:=es.toList[i].2) (nx:=slotAt t.place (i+1)) (λQ E q=>Pa bt st.2 g3 f tk pl (by rw[QE hr ∅,e1,e2];exact q)) λh' W B=>?_;refine hQ _ h' s.toks (by rw[bw,aC hlt];rfl) ⟨W,(B a J).trans st.2⟩ λb o' hb e=>(B b (λz=>hb (by simp[z]))).trans e
 done:=λs Q E st hQ=>by
  have hps:=Q9 f;have hr:mq t.place:=by
   rcases pl with p|p
   .exact tk.Fe p
   .intro i j x y hij ex ey;have:=(wL.mp ey).1;omega
  refine LO Y st.1 st.2 g3 f rfl (λQ E q=>Pa bt st.2 g3 f tk pl (by rw[QE hr ∅,Jl (aW _)];exact q)) λh' W=>hQ h' s.toks λb o' hb e=>W b o' (λz=>hb (by simp[z])) e
 self:=λi s Q E st hQ=>by
  refine hB st.1.ty uz (cv uz st.1.ty JS ?_ (Gn _));exact ax ⟨_,rfl,"set_iterator",_,st.1.ty,kT.lookup,hQ⟩
theorem Vl{A:c3}(Y:A.handled=none)(g3:o.data= .set es ep t)(f:t.fits es.size=true)(hk:ks.Perm (aL es.size))(J:a≠I)(g:tp≠I):
    Walks prog w A I [I,a,tp] [I] es.size (λi v=>((ks.filterMap (es[·]?)).map (·.2))[i]?=some v) (λi h=>kW h I a (.ref tp) i es.size ep/\h.get? a=some o/\∃d m,h.get? tp=some d/\d.data= .seq (ks.map λ(k:Nat)=>cf k).toArray m) where
  sub:=λb hb=>by simp at hb;simp[hb]
  frame:=λi h h' st hk=>by
    obtain⟨⟨C,h1,h2,h3⟩,h4,d,m,h5,h6⟩:=st;exact⟨⟨C,hk I (by simp) _ h1,h2,h3⟩,hk a (by simp) _ h4,d,m,hk tp (by simp) _ h5,h6⟩
  item:=λi s Q E hi st hQ=>by
    have hlen:ks.length=es.size:=by rw[hk.length_eq];simp
    have y:∀k∈ks,k<es.size:=λk m=>by simpa using hk.mem_iff.mp m
    have c:i<ks.length:=∅
    have hki:=y ks[i] (cU c);have e1:es[ks[i]]?=some es[ks[i]]:=lC hki;have n:∀(l:List Nat),(∀k∈l,k<es.size)->∀j (hj:j<l.length),(l.filterMap (es[·]?))[j]?=es[l[j]]?:=by
      intro l;induction l with
      |nil=>intro _ j hj;simp at hj
      | cons b r ih =>
        intro hl j hj;have hb:=hl b (cN ..);rw[uq,lC hb];cases j with
        |zero=>simp[lC hb]
        |succ j=>simpa using ih (λk m=>hl k (cM _ m)) j (by simpa using hj)
    refine N2 st.1 st.2.1 g3 f rfl st.2.2 (pl:=ks[i]) (hx:=es[ks[i]].1) (x:=es[ks[i]].2) (by simp[aC c,cf]) e1 λh' W B=>?_;obtain⟨d,m,U,N⟩:=st.2.2;refine hQ _ h' s.toks ?_ ⟨W,(B a J).trans st.2.1,d,m,(B tp g).trans U,N⟩ λb o' hb e=>(B b (λz=>hb (by simp[z]))).trans e;rw[bw,n ks y i c,e1];rfl
  done:=λs Q E st hQ=>by
    have hlen:ks.length=es.size:=by rw[hk.length_eq];simp
    exact WO Y st.1 st.2.1 g3 f rfl st.2.2 (by simp;omega) λh' W=>hQ h' s.toks λb o' hb e=>W b o' (λz=>hb (by simp[z])) e
  self:=λi s Q E st hQ=>by
    refine hB st.1.ty uz (cv uz st.1.ty JS ?_ (Gn _));exact ax ⟨_,rfl,"set_iterator",_,st.1.ty,kT.lookup,hQ⟩
end
section
variable{prog:bc}{w:cx}{A:c3}{E:ag->aw->Prop}{s:aw}{a:aF}{o:Obj}{es:Array (Int×ag)}{ep:Nat}{t:eI}
theorem OC{α:Type}:∀l:List α,(aL l.length).filterMap (λi=>l[i]?)=l
  |[]=>rfl
  | x :: l => by
    have:=OC l;rw[eH,PD,uq,List.filterMap_map];simpa[n2] using this
def B0{a:Source}{Q:Nat->aw->Prop}(hn:n≠0)(h:∀i d',i<n->Q i {s with drawn:=d'}):wpAny (bj prog w) A (choose a n) Q E s:=λb p _=>⟨hn,h _ _ (An _ (mB hn))⟩
theorem Qv{α:Type}:∀(n:Nat) (xs:List α) (s:aw) (Q:List α->aw->Prop),xs.length<=n->(∀ks d',ks.Perm xs->Q ks {s with drawn:=d'})->wpAny (bj prog w) A (qc n xs) Q E s
  | 0, xs, s, Q, hl, h => by
    have:xs=[]:=wQ.mp ∅;subst this;unfold qc;exact ax (h [] s.drawn .nil)
  | n + 1, [], s, Q, hl, h => by
    unfold qc;exact ax (h [] s.drawn .nil)
  | n + 1, x :: xs, s, Q, hl, h => by
    unfold qc;refine ae (B0 (by simp) λi d' hi=>?_);rw[aC hi];dsimp only;refine ae (Qv n _ _ _ (by rw[G0 hi];simp at hl⊢;omega) λks d2 hk=>?_);exact ax (h _ d2 ((hk.cons _).trans (JW hi)))
def VD(g1:s.heap.get? a=some o)(g3:o.data= .set es ep t)(f:t.fits es.size=true){Q:Bool->aw->Prop}(h:Q (!ie w &&(!t.plain && decide (es.size>1))) s):wpAny (bj prog w) A (setDrawn a) Q E s:=by
 unfold setDrawn;refine ae (ei g1 g3 f ?_);dsimp only;unfold nP;refine ae (ae (eL (ax ?_)));exact ax h
def Lb(g1:s.heap.get? a=some o)(g3:o.data= .set es ep t)(f:t.fits es.size=true){Q:Nat->aw->Prop}(h:Q ep s):wpAny (bj prog w) A (setEpoch a) Q E s:=by
 unfold setEpoch;exact ae (ei g1 g3 f (ax h))
theorem Kj(hb:es.size<gd)(g1:s.heap.get? a=some o)(g2:o.ExactSet)(g3:o.data= .set es ep t)(f:t.fits es.size=true)(tk:gh (ie w) t)
    (hQ:∀(I:aF) (h':eo) d' (items:List ag) (fp:List aF) (qr:Nat->eo->Prop),(∀b o,s.heap.get? b=some o->h'.get? b=some o)->s.heap.objs.size<=I->(∀b∈fp,b=a\/s.heap.objs.size<=b)->I∈fp->(∀b∈fp,b<h'.objs.size)->items.Perm (es.toList.map (·.2))->
      (∀B:c3,B.handled=none->Walks prog w B I fp [I] items.length (λi v=>items[i]?=some v) qr)->qr 0 h'->Q (.ref I) {s with heap:=h',drawn:=d'}):wpAny (bj prog w) A (x6 (.ref a)) Q E s:=by
  have hT:s.TypeIs (.ref a) "set":=⟨o,g1,g2.1⟩;have hlt:=bN g1;refine hB hT Tf (cv Tf hT Pt ?_ (IW _));unfold Builtin.«frozenset.__iter__»;unfold t2 slotArgs;simp only[List.isEmpty_nil,Bool.not_true,FW,↓reduceIte,bind_assoc,qf,bne_self_eq_false];unfold tj tm;refine ae (ax ?_)
  try dsimp only
  refine ae (ax ?_);refine ae (ae (l5 g1 g3 f (ax ?_)));refine ae (VD g1 g3 f ?_);by_cases c:(!ie w &&(!t.plain && decide (es.size>1)))=true
  · rw[if_pos c]
    refine ae (Qv es.size (aL es.size) s _ (by simp) λks d' hk=>?_);unfold yQ;refine ae (ea ?_ ?_)
    rotate_left
    · have n:ks.length=es.size:=by rw[hk.length_eq];simp
      show(a3 (λ(i:Nat)=>cf i) ks).toArray.size<=sizeLine;rw[cY,ao,n];exact g5 hb
    have pR:=cF ({cls:= .type "tuple",data:= .seq (ks.map λ(i:Nat)=>cf i).toArray}:Obj) g1;refine ae (Lb (s:={s with heap:=_,drawn:=d'}) pR g3 f ?_);unfold newFields;refine ae (ea ?_);have n:ks.length=es.size:=by rw[hk.length_eq];simp
    have fin:=hQ;clear hQ;have C:(s.heap.push ({cls:= .type "tuple",data:= .seq (ks.map λ(i:Nat)=>cf i).toArray}:Obj)).objs.size=s.heap.objs.size+1:=lH ..;have j:(s.heap.push ({cls:= .type "tuple",data:= .seq (ks.map λ(i:Nat)=>cf i).toArray}:Obj)).get? s.heap.objs.size=some {cls:= .type "tuple",data:= .seq (ks.map λ(i:Nat)=>cf i).toArray}:=gk _ rfl;have h:∀b o,s.heap.get? b=some o->(s.heap.push ({cls:= .type "tuple",data:= .seq (ks.map λ(i:Nat)=>cf i).toArray}:Obj)).get? b=some o:=λb o e=>cF _ e;generalize l:s.heap.push ({cls:= .type "tuple",data:= .seq (ks.map λ(i:Nat)=>cf i).toArray}:Obj)=h1 at pR C j h⊢;have gI:(h1.push ({cls:= .type "set_iterator",data:= .fields #[.ref s.heap.objs.size,cf 0, .ref a,cf es.size,cf ep]}:Obj)).get? h1.objs.size=some {cls:= .type "set_iterator",data:= .fields #[.ref s.heap.objs.size,cf 0, .ref a,cf es.size,cf ep]}:=gk _ rfl;have gS:=cF ({cls:= .type "set_iterator",data:= .fields #[.ref s.heap.objs.size,cf 0, .ref a,cf es.size,cf ep]}:Obj) pR;have WH:=cF ({cls:= .type "set_iterator",data:= .fields #[.ref s.heap.objs.size,cf 0, .ref a,cf es.size,cf ep]}:Obj) j;have g:(h1.push ({cls:= .type "set_iterator",data:= .fields #[.ref s.heap.objs.size,cf 0, .ref a,cf es.size,cf ep]}:Obj)).objs.size=h1.objs.size+1:=lH ..;subst l;refine ax ⟨_,rfl,"set_iterator",_,⟨_,gI,rfl⟩,kT.lookup,?_⟩;have pp:(ks.filterMap (es[·]?)).Perm es.toList:=by
      have:=hk.filterMap (es[·]?);have e:(aL es.size).filterMap (es[·]?)=es.toList:=by
        have:=OC es.toList;simpa using this
      rwa[e] at this
    have hn:((ks.filterMap (es[·]?)).map (·.2)).length=es.size:=by rw[ao,pp.length_eq];simp
    have uM:=FA (o6 s.heap.objs.size) C.symm;refine fin _ _ d' ((ks.filterMap (es[·]?)).map (·.2)) [_,a,s.heap.objs.size] _ (λb o e=>cF _ (h b o e)) (lE uM) (λb m=>?_) (cN ..) (λb m=>?_) (pp.map _) (λB T=>by rw[hn];exact Vl T g3 f hk (dz (p6 hlt uM)) (dz uM)) ?_
    · rcases aY.mp m with e|m
      · exact .inr (by rw[e];exact lE uM)
      · rcases aY.mp m with e|m
        · exact .inl e
        · exact .inr (sX (aZ.mp m).symm)
    · refine FA ?_ g.symm
      rcases aY.mp m with e|m
      · rw[e];exact o6 _
      · rcases aY.mp m with e|m
        · rw[e];exact mK (p6 hlt uM)
        · rw[aZ.mp m];exact mK uM
    · exact⟨⟨_,gI,rfl,rfl⟩,gS,_,_,WH,rfl⟩
  · rw[if_neg c]
    refine ae (ax ?_);refine ae (Lb g1 g3 f ?_);unfold newFields;refine ae (ea ?_);have gI:(s.heap.push ({cls:= .type "set_iterator",data:= .fields #[cf 0,cf 0, .ref a,cf es.size,cf ep]}:Obj)).get? s.heap.objs.size=some {cls:= .type "set_iterator",data:= .fields #[cf 0,cf 0, .ref a,cf es.size,cf ep]}:=gk _ rfl;have gS:=cF ({cls:= .type "set_iterator",data:= .fields #[cf 0,cf 0, .ref a,cf es.size,cf ep]}:Obj) g1;have d:∀b∈[s.heap.objs.size,a],b=a\/s.heap.objs.size<=b:=λb m=>by
      rcases aY.mp m with e|m
      · exact .inr (sX e.symm)
      · exact .inl (aZ.mp m)
    have hsz:(s.heap.push ({cls:= .type "set_iterator",data:= .fields #[cf 0,cf 0, .ref a,cf es.size,cf ep]}:Obj)).objs.size=s.heap.objs.size+1:=lH ..;have k:∀b∈[s.heap.objs.size,a],b<(s.heap.push ({cls:= .type "set_iterator",data:= .fields #[cf 0,cf 0, .ref a,cf es.size,cf ep]}:Obj)).objs.size:=λb m=>by
      rw[hsz];rcases aY.mp m with e|m
      · rw[e];exact o6 _
      · rw[aZ.mp m];exact mK hlt
    refine ax ⟨_,rfl,"set_iterator",_,⟨_,gI,rfl⟩,kT.lookup,?_⟩;cases bt:ie w with
    | true =>
      have pp:(eF (w.params.setOrder a ep) es).toList.Perm es.toList:=by simpa[eF] using Jw (w.params.setOrder a ep) es.size 0 es.toList #[] (by simp)
      have hn:((eF (w.params.setOrder a ep) es).toList.map (·.2)).length=es.size:=by rw[ao,pp.length_eq];simp
      refine hQ _ _ s.drawn ((eF (w.params.setOrder a ep) es).toList.map (·.2)) [s.heap.objs.size,a] _ (λb o e=>cF _ e) (aW _) d (by simp) k (pp.map _) (λB T=>by rw[hn];exact Vs T bt g3 f (dz hlt)) ?_;exact⟨⟨_,gI,rfl,rfl⟩,gS⟩
    | false =>
      have pl:t.plain=true\/es.size<=1:=by
        rw[bt,rh,J5] at c;cases hp:t.plain with
        |true=>exact .inl rfl
        | false =>
          rw[hp,rh,J5,decide_eq_true_eq] at c;exact .inr ∅
      have hn:(es.toList.map (·.2)).length=es.size:=by simp
      refine hQ _ _ s.drawn (es.toList.map (·.2)) [s.heap.objs.size,a] _ (λb o e=>cF _ e) (aW _) d (by simp) k (.refl _) (λB T=>by rw[hn];exact XD T bt g3 f tk pl (dz hlt)) ?_;exact⟨⟨_,gI,rfl,rfl⟩,gS⟩
end
section
variable{prog:bc}{w:cx}{A:c3}{E:ag->aw->Prop}{s:aw}{a:aF}{o:Obj}{es:Array (Int×ag)}{ep:Nat}{t:eI}
def Z5{Q:Bool->aw->Prop}(hT:s.TypeIs (.ref a) "set")(h:Q false s):wpAny (bj prog w) A (ej (.ref a)) Q E s:=by
 unfold ej;refine ae (il hT PySem.F.slot_set_len.lookup ?_);generalize c:("set.__len__":String)=id0
 wp_delta
 rw[show splitId id0=some ("set","__len__") from by subst c;decide+kernel];subst c;refine ae (kk (b:=true) (T:="set") hT (by rw[i2];kernel_rfl) ?_);refine e6 (λz=>absurd z ⋯) λ_=>e6 (λ_=>?_) λz=>absurd (by decide+kernel) z;exact ae (i1 hT (ax h))
theorem Xc{items:List ag}{acc:Array ag}(h:ItemsOf (λi v=>items[i]?=some v) acc items.length):acc.toList=items:=by
 apply qo;intro i;by_cases hi:i<acc.size
 .have e:acc[i]?=some acc[i]:=lC hi;rw[lU,e,h.2 i _ e]
 .have:=h.1;rw[jT (by simp;omega),jT ∅]
def DT{Q:List ag->aw->Prop}(Y:A.handled=none)(hb:es.size<gd)(g1:s.heap.get? a=some o)(g2:o.ExactSet)(g3:o.data= .set es ep t)(f:t.fits es.size=true)(tk:gh (ie w) t)
  (hQ:∀h' d' tk' items,(∀b o,s.heap.get? b=some o->h'.get? b=some o)->s.heap.objs.size<=h'.objs.size->items.Perm (es.toList.map (·.2))->Q items {s with heap:=h',drawn:=d',toks:=tk'}):wpAny (bj prog w) A (xv (.ref a)) Q E s:=by
 have hlt:=bN g1;unfold xv;refine ae (lL (de Rp ?_));rw[l7 Q0 _];show wpAny _ A.in1 (xk []>>=λl=>again (.builtin "list.__iadd__" ⟨[l, .ref a],[]⟩)) _ _ s;refine ae (ea ?_);refine ax ⟨eh Ad _,de Lq ?_⟩;rw[l7 Ad _];have g:(s.heap.push ({cls:= .type "list",data:= .seq ([]:List ag).toArray}:Obj)).get? s.heap.objs.size=some {cls:= .type "list",data:= .seq ([]:List ag).toArray}:=gk _ rfl;have gA:=cF ({cls:= .type "list",data:= .seq ([]:List ag).toArray}:Obj) g1;have k:(s.heap.push ({cls:= .type "list",data:= .seq ([]:List ag).toArray}:Obj)).objs.size=s.heap.objs.size+1:=lH ..;show wpAny _ A.in1 (df (.ref s.heap.objs.size) (.ref a) (.ref s.heap.objs.size)) _ _ {s with heap:=s.heap.push ({cls:= .type "list",data:= .seq ([]:List ag).toArray}:Obj)};have i:∀b o,s.heap.get? b=some o->(s.heap.push ({cls:= .type "list",data:= .seq ([]:List ag).toArray}:Obj)).get? b=some o:=λb o e=>cF _ e;generalize s.heap.push ({cls:= .type "list",data:= .seq ([]:List ag).toArray}:Obj)=h1 at g gA k i⊢;unfold df;refine ae (i1 (T:="set") ⟨o,gA,g2.1⟩ ?_);have n1:fJ (.ref s.heap.objs.size) (.ref a)=false:=by
  show(s.heap.objs.size==a)=false;exact beq_eq_false_iff_ne.mpr (kO hlt)
 have Z:(dE "set"==dE "list")=false:=⋯
 have d:(dE "set"==dE "tuple")=false:=⋯
 simp only[n1,Z,d,p7,FW,if_false];refine ae (Kj (s:={s with heap:=h1}) hb gA g2 g3 f tk λI h2 d' items fp qr k1 k2 k3 k4 k5 pp W st=>?_);have gA2:=k1 _ _ gA;have Gr:=k1 _ _ g;refine ae (dA (Z5 (s:={s with heap:=h2,drawn:=d'}) ⟨o,gA2,g2.1⟩ ?_));have j:s.heap.objs.size<h1.objs.size:=FA (o6 _) k.symm;have nS:s.heap.objs.size∉fp:=λm=>by
  rcases k3 _ m with e|e
  .exact absurd e (kO hlt)
  .exact absurd (eK j e) (i7 _)
 have hil:items.length<=sizeLine:=by
  rw[pp.length_eq,ao,mj];exact g5 hb
 have key:∀(h3:eo) (c:Nat),qr 0 h3->(∀b o,b≠s.heap.objs.size->h2.get? b=some o->h3.get? b=some o)->h3.get? s.heap.objs.size=some {cls:= .type "list",data:= .seq #[] c}->
   codeAny (bj prog w) A (.builtin "list.extend.loop" ⟨[.ref s.heap.objs.size, .ref I, .ref s.heap.objs.size],[]⟩) (λr s'=>match r with
    | .ok (.ret v)=>wpAny (bj prog w) A (match v with| .ref x=>(do match(<-load x).data with| .seq xs _=>pure xs.toList|_=>ik "internal:collect")|_=>ik "internal:collect") Q E s'
    | .ok _=>False
    | .error e=>E e s') {s with heap:=h3,drawn:=d'}:=by
  intro h3 c st3 q1 q2;refine codeAny_extend_loopS ((W A.in1 Y).toS) hil _ nS _ items.length 0 _ #[] c rfl (gE _) st3 q2 (ItemsOf.nil _) λs' acc c' h q3 q4=>?_;refine ae (sr q3 (ax ?_));rw[Xc q4,Moved.eq_with h];refine hQ s'.heap d' s'.toks items (λb o e=>?_) ?_ pp
  .have nb:b≠s.heap.objs.size:=dz (bN e);refine h.heap b o (λm=>?_) (q1 b o nb (k1 b o (i b o e)));rcases aY.mp m with z|z
   .exact nb z
   .have z:=aZ.mp z;rw[z] at e;exact absurd (eK (p6 (bN e) j) k2) (i7 _)
  .exact lE (bN q3)
 refine e6 (λ_=>?_) λ_=>ax ⟨eh Fv _,key h2 _ st (λ_ _ _ e=>e) Gr⟩;refine ae (jE (ae ?_));show wpAny _ A.in1 (lh s.heap.objs.size (·.push .none)>>=λ_=>lh s.heap.objs.size (·.pop)) _ _ _;have u1:=o9 (cq (·.push ek)) Gr rfl;have u2:=o9 (cq (·.pop)) u1 rfl;refine ae (e7 Gr rfl (e7 (hz:=by seq_fits) u1 rfl ?_));have n:∀b o,b≠s.heap.objs.size->h2.get? b=some o->((h2.update s.heap.objs.size (cq (·.push ek))).update s.heap.objs.size (cq (·.pop))).get? b=some o:=λb o nb e=>(kr _ _ (bH nb)).trans ((kr _ _ (bH nb)).trans e);exact ax ⟨eh Fv _,key _ _ ((W A.in1 Y).frame 0 _ _ st λb m o e=>n b o (λz=>nS (z▸m)) e) n u2⟩
theorem R6{ks:List Int->Prop}:∀{vs:List ag},(∀v∈vs,∃k t,v= .int k t)->∃ns,gT vs ns
  |[],_=>⟨[], .nil⟩
  | v :: vs, h => by
    obtain⟨k,t,rfl⟩:=h v (cN ..);obtain⟨ns,hn⟩:=R6 (ks:=ks) λv m=>h v (cM _ m);exact⟨k::ns, .cons k t hn⟩
theorem Nn:∀{vs:List ag} {ns:List Int},gT vs ns->∀k,k∈ns↔∃t, .int k t∈vs
  |_,_, .nil,k=>by simp
  | _, _, .cons j t h, k => by
    rw[aY,Nn h k];constructor
    · rintro(rfl|⟨t',m⟩)
      · exact⟨_,cN ..⟩
      · exact⟨t',cM _ m⟩
    · rintro⟨t',m⟩
      rcases aY.mp m with e|m
      · cases e;exact .inl rfl
      · exact .inr ⟨t',m⟩
theorem Ee{S:Int->Bool}(Y:A.handled=none)(N:s.heap.SetOf (IK prog w) a S n)(hT:i8 (ie w) s.heap a)(d:n<64)
  (h : ∀ h' d' f (l : Addr) (out : List Value) (ns : List Int) (e : Nat), (∀ b o, s.heap.get? b = some o -> h'.get? b = some o) -> s.heap.objs.size <= l -> h'.get? l = some (seqObj "list" out.toArray e) -> IntsAre out ns -> ns.Pairwise (· <= ·) -> (∀ k, S k = true ↔ k ∈ ns) -> ns.length = n ->
   Q (.ref l) {s with heap:=h',drawn:=d',toks:=f}):wpAny (bj prog w) A (call (.builtin "sorted") [.ref a]) Q E s:=by
 obtain⟨o,es,ep,t,g1,g2,g3,l1,l2,r,i,sz⟩:=N;refine Lg kind_sorted plain_sorted entry_sorted (args_sorted1 _) ?_;unfold Builtin.«sorted»;refine ae (m:=checkCount "sorted" 1 1 _) (ax (ae ?_));refine DT (A:=A.in1) Y r g1 g2 g3 i (hT o es ep t g1 g3) λh1 d1 p items k1 k2 pp=>?_;have c:∀v∈items,∃k t,v= .int k t:=λv m=>by
  obtain⟨e,O,rfl⟩:=cL.mp (pp.mem_iff.mp m);obtain⟨⟨k,hk,_⟩,_⟩:=l1 e O;obtain⟨t,ht⟩:=wm hk;exact⟨k,t,ht⟩
 obtain⟨ns,hI⟩:=R6 (ks:=λ_=>True) c;have hlen:items.length=n:=by rw[pp.length_eq,ao,mj,sz]
 refine ae (t5 ?_);have g:(h1.push (lj "list" items.toArray 0)).get? h1.objs.size=some (lj "list" items.toArray 0):=gk _ rfl;refine ae (dA (cv rk ⟨_,g,rfl⟩ qk (rl g hI ∅ λout j a1 a2 y=>⟨_,rfl,?_⟩) (rn _)));obtain⟨e,he⟩:=ui (out:=out) g;refine ax ⟨_,rfl,h _ d1 p h1.objs.size out.toList j e (λb o q=>?_) k2 (by simpa using he) a1 y (λk=>?_) ?_⟩
 .have lb:=bN (k1 b o q);rw[rr (dz lb) (by rw[lH];exact mK lb)];exact cF _ (k1 b o q)
 .rw[a2.mem_iff,Nn hI,l2 k];constructor
  .rintro⟨e,m,q⟩;obtain⟨t,ht⟩:=wm q;exact⟨t,pp.mem_iff.mpr (ht▸cL.mpr ⟨e,m,rfl⟩)⟩
  .rintro⟨t,m⟩;obtain⟨e,O,q⟩:=cL.mp (pp.mem_iff.mp m);exact⟨e,O,by rw[q];exact tf _ _ _ _⟩
 .rw[a2.length_eq,<-hI.length,hlen]
end
noncomputable def u6(P:bc)(w:cx)(a:aF)(S:Int->Bool)(n:Nat):HO:= .ext λh=>h.SetOf (IK P w) a S n/\i8 (ie w) h a
def Inv.dr(I:Inv X pins σ H s)(d:Drawn):Inv X pins σ H {s with drawn:=d}:=
 ⟨I.ok,I.os,I.bare,I.base,I.loc,I.cell,I.free,I.kJ,I.pin,I.hok,I.len⟩
theorem Jq:∀{ns:List Int} {us:List ag},Vals (ns.map V.int) us->gT us ns
  |[],_, .nil=> .nil
  | n :: ns, _, .cons r t => by
    obtain⟨k,rfl⟩:=r;exact .cons n k (Jq t)
theorem DC:∀{us:List ag} {ns:List Int},gT us ns->Vals (ns.map V.int) us
 |_,_, .nil=> .nil
 |_,_, .cons k t h=> .cons ⟨t,rfl⟩ (DC h)
def agQ{σ:List Int}{k:Int}(h:σ.Nodup):(step_dedup σ k).Nodup:=by
 unfold step_dedup;split;·exact h
 .rename_i q
  rw[l9];refine⟨h,by simp,λx hx y hy=>?_⟩;rw[aZ.mp hy];intro e;subst e;exact q (by simp[hx])
theorem NV(val:Nat->Int):∀i,(gg val i).Nodup
 |0=>zd
 |i+1=>by rw[mx];exact agQ (NV val i)
theorem Nr:∀{ds ns:List Int},ds.Nodup->(∀k∈ds,k∈ns)->ns.length<=ds.length->ds.Perm ns
  | [], ns, _, _, hl => by
    have:ns=[]:=wQ.mp (by simpa using hl);rw[this]
  | d :: ds, ns, hd, hs, hl => by
    have hm:=hs d (cN ..);obtain⟨h1,h2⟩:=jn.mp hd;have hp:=List.perm_cons_erase hm;refine(z4 d (Nr h2 (λk hk=>?_) ?_)).trans hp.symm
    · rcases aY.mp (hp.mem_iff.mp (hs k (cM _ hk))) with e|e
      · subst e;exact absurd hk h1
      · exact e
    · have:=hp.length_eq;simp at this hl⊢;omega
def EC(P:bc)(w:cx)(K:PySem.W.Frag):List V->Hp->VK->Prop:=λxs H Q=>∃p,∃ns:List Int,xs=[.ref p]/\aV K H p (ns.map V.int)/\ns.length<=4000/\∀a (ms:List Int),H a=none->ms.Nodup->(∀k,k∈ms↔k∈ns)->Q (.ref a) (upd H a (u6 P w a (λk=>ms.any (· ==k)) ms.length))
def Dp(P:bc)(w:cx):List V->Hp->VK->Prop:=λxs H Q=>∃a,∃ms:List Int,xs=[.ref a]/\H a=some (u6 P w a (λk=>ms.any (· ==k)) ms.length)/\ms.Nodup/\ms.length<64/\
 ∀l (g:List Int),H l=none->g.Pairwise (· < ·)->(∀k,k∈g↔k∈ms)->Q (.ref l) (upd H l (.lst (g.map V.int)))
section
variable{X:Cx}
theorem YB(hc:X.calm=true):iF X (.type "set") (EC X.prog X.w X.K):=by
 intro pins s σ H xs us Q I rv h;obtain⟨p,ns,rfl,hp,hn,q⟩:=h;obtain⟨u,rfl,G⟩:=vals1 rv;cases G;obtain⟨its,g,a,hz⟩:=I.list hp;have hI:=Jq g;have hlen:=hI.length;refine RH (I.ok.hd hc) a.isList (by simpa using hI) (by rw[cY];unfold gd;omega) λh' tk O q2 q3=>?_;have n:∀k,k∈gg (λi=>ns.getD i 0) its.toArray.size↔k∈ns:=λk=>by
  have e:=firstMet_any (λi=>ns.getD i 0) its.toArray.size k;have e2:(aL its.toArray.size).map (λi=>ns.getD i 0)=ns:=by
   rw[cY,hlen];apply oP;·simp
   .intro i h1 h2;simp[br,aC h2]
  rw[e2] at e;have a1:∀(l:List Int),(l.any (· ==k))=true↔k∈l:=λl=>by
   rw[xo];exact⟨λ⟨x,m,z⟩=>(beq_iff_eq.mp z)▸m,λm=>⟨k,m,beq_self_eq_true _⟩⟩
  rw[<-a1,<-a1,e]
 have kp:∀b u,s.heap.get? b=some u->h'.get? b=some u:=λb u e=>q3 b u (bN e) e;have new:cK X.prog X.w (upd H s.heap.objs.size (u6 X.prog X.w s.heap.objs.size (λk=>(gg (λi=>ns.getD i 0) its.toArray.size).any (· ==k)) (gg (λi=>ns.getD i 0) its.toArray.size).length)) h' s.heap.objs.size (u6 X.prog X.w s.heap.objs.size (λk=>(gg (λi=>ns.getD i 0) its.toArray.size).any (· ==k)) (gg (λi=>ns.getD i 0) its.toArray.size).length):=by
  refine⟨⟨O,q2⟩,?_,λh1 h2 z k=>?_⟩;·obtain⟨o,_,_,_,ho,_⟩:=O;exact⟨o,ho⟩
  .obtain⟨⟨o,es,ep,t,ho,r⟩,c⟩:=z;exact⟨⟨o,es,ep,t,k o ho,r⟩,c.keep ho (k o ho)⟩
 exact⟨.ref s.heap.objs.size,_,I.laid (t':=tk) kp (aW _) new,rfl,q _ _ (I.hok.fresh (aW _)) (NV _ _) n⟩
theorem VQ(hc:X.calm=true):iF X (.builtin "sorted") (Dp X.prog X.w):=by
 intro pins s σ H xs us Q I rv h;obtain⟨a,ms,rfl,C,nd,d,q⟩:=h;obtain⟨u,rfl,G⟩:=vals1 rv;cases G;obtain⟨⟨O,q2⟩,_,_⟩:=I.hok a _ C;refine Ee (I.ok.hd hc) O q2 d λh' d' f l out ns e kp hl c hI pw hm hn=>?_;have a1:∀k,(ms.any (· ==k))=true↔k∈ms:=λk=>by
  rw[xo];exact⟨λ⟨x,m,z⟩=>(beq_iff_eq.mp z)▸m,λm=>⟨k,m,beq_self_eq_true _⟩⟩
 have hm':∀k,k∈ns↔k∈ms:=λk=>by rw[<-hm k,a1]
 have pp:=Nr nd (λk m=>(hm' k).mpr m) (sX hn);have b:ns.Nodup:=pp.nodup_iff.mp nd;have lt:ns.Pairwise (· < ·):=by
  have:=pw.and b;exact this.imp λ⟨x,y⟩=>∅
 have new:cK X.prog X.w (upd H l (.lst (ns.map V.int))) h' l (.lst (ns.map V.int)):=by
  refine⟨?_,out,e,DC hI,c⟩;rw[ao,hn];exact dP (lE d) ⋯
 exact⟨.ref l,_,(I.laid (t':=f) kp hl new).dr d',rfl,q _ _ (I.hok.fresh hl) lt hm'⟩
end
theorem BK{m:Int}(nd:ms.Nodup)(h:∀k∈ms,0<=k/\k<m):ms.length<=m.toNat:=by
 have:=uA nd (l₂:=(aL m.toNat).map λ(i:Nat)=>(i:Int)) λk hk=>by
  have:=h k hk;exact cL.mpr ⟨k.toNat,iQ.mpr ∅,∅⟩
 rwa[ao,kD] at this
theorem az.Kx{G:Gx}{ρ:Rh}{P:bc}{K:PySem.W.Frag}(h:Ev G ρ te λ_ x=>∃(ns:List Int),x= .list (ns.map .int)/\ns.length<=4000/\(∀k∈ns,0<=k/\k<63)/\∀g:List Int,g.Pairwise (· < ·)->(∀k,k∈g↔k∈ns)->Θ true (g.map .int)):
  az G ρ (ir (Dp P w) (bV (ir (EC P w K) (bV te cG)) cG)) Θ:=λnb σ H Q W z=>
 h nb σ H _ W λf v H1 x ⟨ns,ex,hn,hr,q⟩ s1 hv=>by
  subst ex;obtain⟨a,xs,rfl,I,hx,hd⟩:=hv.dW;have e:=AM hd;subst e;refine⟨a,ns,rfl, .of hx,∅,λb ms hb nd hm=>?_⟩;have j:ms.length<=63:=BK nd λk m=>hr k ((hm k).mp m);refine⟨b,ms,rfl,bx,nd,∅,λl g hl lt hm'=>?_⟩;have s2:Step G.B H1 (upd H1 b (u6 P w b (λk=>ms.any (· ==k)) ms.length)):= .same s1.2 (dB hb);exact az.fin (f:=true) W (s1.trans s2) hl (Br g) (q g lt λk=>(hm' k).trans (hm k)) z
def Ao(K:PySem.W.Frag):List V->Hp->VK->Prop:=λxs H Q=>∃p,∃ns:List Int,xs=[.ref p]/\aV K H p (ns.map V.int)/\Q (.int ns.sum) H
def mH(K:PySem.W.Frag):List V->Hp->VK->Prop:=λxs H Q=>∃p,∃bs:List Bool,xs=[.ref p]/\aV K H p (bs.map V.bl)/\Q (.bl (bs.all id)) H
section
variable{X:Cx}
def N4(hc:X.calm=true):iF X (.builtin "sum") (Ao X.K):=by
 intro pins s σ H xs us Q I rv h;obtain⟨p,ns,rfl,hp,q⟩:=h;obtain⟨u,rfl,G⟩:=vals1 rv;cases G;obtain⟨its,g,a,hz⟩:=I.list hp;have hI:=Jq g;obtain⟨ys,e⟩:=hI.allInts.items;have hn:=hI.numsOf;refine sum_intListG (xs:=ys) (I.ok.hd hc) (by rw[<-e];exact a.isList) λh' tk t' kp=>?_;have e2:preSum (numAt ys) ys.size=ns.sum:=by
  rw[preSum_eq,vg (by simp),<-nums_intItems,<-e,<-hn]
 rw[e2];exact⟨.int ns.sum,H,I.kept kp,⟨_,rfl⟩,q⟩
theorem pZ(hc:X.calm=true):iF X (.builtin "all") (mH X.K):=by
  intro pins s σ H xs us Q I rv h;obtain⟨p,bs,rfl,hp,q⟩:=h;obtain⟨u,rfl,G⟩:=vals1 rv;cases G;obtain⟨its,g,a,hz⟩:=I.list hp;have hl:=g.length;have hv:∀(i:Nat) (v:ag),its.toArray[i]?=some v->v= .bool (bs.getD i false):=λi v e=>by
    have hi:i<bs.length:=by
      have:=(wL.mp e).1;rw[ao] at hl;simp at this;omega
    obtain⟨u,hu,G⟩:=g.get (i:=i) (x:= .bl bs[i]) (by rw[bw,aC hi];rfl);rw[HU,hu] at e;cases e;rw[br,aC hi];exact G
  have ll:=a.isList;have hlt:p<s.heap.objs.size:=by obtain⟨o,e,_⟩:=ll;exact bN e
  refine call_all_walk (gN ll ⟨s.heap.objs.size,_,_,_,_,_,λi=>bs.getD i false,rfl,y4 (A:=X.A.in1) (I.ok.hd hc) _ p (dz hlt) its.toArray,⟨⟨_,gk _ rfl,rfl,rfl⟩,ll.push _⟩,λi v s Q E R hQ=>?_,λh' tk kp=>?_⟩);· rw[hv i v R];exact fm hQ
  · have e:(aL its.toArray.size).all (λi=>bs.getD i false)=bs.all id:=by
      have hs:its.toArray.size=bs.length:=by rw[ao] at hl;simp;omega
      rw[hs];clear hv hl g q hp hs hz;induction bs with
      |nil=>rfl
      | cons b r ih =>
        rw[eH,PD,pA,pA,Ec];simpa[n2] using congrArg (b && ·) ih
    rw[e];refine⟨.bl (bs.all id),H,I.kept λb o q=>kp b o (λm=>?_) (cF _ q),rfl,q⟩;have:=aZ.mp m;rw[this] at q;exact absurd (bN q) (i7 _)
end
section
variable{G:Gx}{ρ:Rh}{te:TE}{K:PySem.W.Frag}{Φ:Pd}
theorem Ev.sum(h:Ev G ρ te λ_ x=>∃ns:List Int,x= .list (ns.map .int)/\Φ true (.int ns.sum)):Ev G ρ (ir (Ao K) (bV te cG)) Φ:=λnb σ H Q W z=>
 h nb σ H _ W λf v H1 x ⟨ns,ex,q⟩ s1 hv=>by
  subst ex;obtain⟨a,xs,rfl,I,hx,hd⟩:=hv.dW;have e:=AM hd;subst e;exact⟨a,ns,rfl, .of hx,z true _ H1 _ q s1 (.int _)⟩
theorem K8{nb:aF->Prop}{H:Hp}:∀{is:List Bool} {xs:List V},af nb H (is.map ij) xs->xs=is.map V.bl
  |[],_,h=>by unfold a3 af at h;exact h
  | i :: is, _, h => by
    rw[bG] at h;unfold af at h;obtain⟨y,ys,rfl,h1,h2⟩:=h;unfold ai at h1;rw[bG,h1,K8 h2]
theorem Ev.all(h:Ev G ρ te λ_ x=>∃bs:List Bool,x= .list (bs.map .bool)/\Φ true (.bool (bs.all id))):Ev G ρ (ir (mH K) (bV te cG)) Φ:=λnb σ H Q W z=>
 h nb σ H _ W λf v H1 x ⟨bs,ex,q⟩ s1 hv=>by
  subst ex;obtain⟨a,xs,rfl,I,hx,hd⟩:=hv.dW;have e:=K8 hd;subst e;exact⟨a,bs,rfl, .of hx,z true _ H1 _ q s1 (.bl _)⟩
end
noncomputable def j8:PyData->String->Bool
 | .bool _,T=>T=="bool" ||T=="int"
 | .int _,T=>T=="int"
 | .str _,T=>T=="str"
 | .list _,T=>T=="list"
 | .tuple _,T=>T=="tuple"
 |_,_=>false
noncomputable def EY:PyData->String
 | .none=> "NoneType" | .bool _=> "bool" | .int _=> "int" | .str _=> "str" | .list _=> "list" | .tuple _=> "tuple" | .dict _=> "dict"
def Pp(ds:List PyData):j8 (.list ds) "list"=true/\j8 (.list ds) "tuple"=false:=⟨rfl,rfl⟩
def R9(ds:List PyData):j8 (.tuple ds) "list"=false/\j8 (.tuple ds) "tuple"=true:=⟨rfl,rfl⟩
def RI{K:PySem.W.Frag}{v:V}(h:ai nb H d v):jX K H v (.type (EY d)):=by
 cases d<;>unfold ai at h;·subst h;exact .aP
 .subst h;exact .bl _
 .subst h;exact .int _
 .subst h;exact .str _
 .obtain⟨a,xs,rfl,_,e,_⟩:=h;exact .lst e
 .obtain⟨a,xs,rfl,_,e,_⟩:=h;exact .tup e
 .obtain⟨a,xs,rfl,_,e,_⟩:=h;exact e.elim .dK λ⟨_,e⟩=> .OF e
def tB(T:String):Prop:=T="int" \/T="bool" \/T="list" \/T="tuple" \/T="str"
def Px{K:PySem.W.Frag}{T:String}(hT:tB T):PySem.W.kitOne K (.type (EY d)) (.type T)=some (j8 d T):=by
 rcases hT with rfl|rfl|rfl|rfl|rfl<;>cases d<;>(with_unfolding_all rfl)
theorem PU{K:PySem.W.Frag}{d:PyData}:∀{g:List String},(∀T∈g,tB T)->PySem.W.kitAny K (.type (EY d)) (g.map dE)=some (g.any (j8 d))
  |[],_=>rfl
  | T :: r, h => by
    rw[bG];unfold PySem.W.kitAny;rw[Px (h T (cN ..)),oq];cases j8 d T with
    |true=>rfl
    |false=>exact PU λT m=>h T (cM _ m)
def xG:List V->Hp->VK->Prop:=λxs H Q=>∃(x:V) (tp:aF) (g:List String) (nb:aF->Prop) (d:PyData),xs=[x, .ref tp]/\H tp=some (.tup (g.map V.ty))/\ai nb H d x/\(∀T∈g,tB T)/\Q (.bl (g.any (j8 d))) H
theorem MW:∀{g:List String} {us:List ag},Vals (g.map V.ty) us->us=g.map dE
 |[],_, .nil=>rfl
 |T::r,_, .cons h t=>by rw[bG,MW t,show _=dE T from h]
section
variable{X:Cx}
def QS:iF X (.builtin "isinstance") xG:=by
 intro pins s σ H xs us Q I rv h;obtain⟨x,tp,g,nb,d,rfl,ht,hd,h5,q⟩:=h;obtain⟨u,v,rfl,G,rv⟩:=rv.two;cases (show v=bo tp from rv);obtain⟨_,its,c,o,ho,hc,n,b⟩:=(show cK X.prog X.w H s.heap tp (.tup (g.map V.ty)) from I.hok tp _ ht);have e:=MW c;subst e;obtain⟨c0,d0,dt,sl⟩:=o;dsimp only at hc b;subst hc b;have fin:∀tk,EP X pins σ Q (.bool (g.any (j8 d))) {s with toks:=tk}:=λtk=>⟨.bl _,H,I.tok tk,rfl,q⟩;have ka:=PU (K:=X.K) (d:=d) h5;cases d<;>unfold ai at hd;·subst hd;cases (show u=ek from G);exact qZ PySem.W.kitx_none I.dX ec ho ka (λz=>nomatch z) fin
 .subst hd;cases (show u=fb _ from G);exact qZ PySem.W.kitx_bool I.dX ec ho ka (λz=>nomatch z) fin
 .subst hd;obtain⟨t,rfl⟩:=(show∃t,u=hV _ t from G);exact qZ PySem.W.kitx_int I.dX ec ho ka (λz=>nomatch z) fin
 .subst hd;obtain⟨t,rfl⟩:=(show∃t,u=i4 _ t from G);exact qZ PySem.W.kitx_str I.dX ec ho ka (λz=>nomatch z) fin
 .obtain⟨a,ys,rfl,_,L,_⟩:=hd;cases (show u=bo a from G);obtain⟨_,_,n,_,h1⟩:=(show cK X.prog X.w H s.heap a (.lst ys) from I.hok a _ L);exact qZ Eo I.dX ⟨_,h1,rfl⟩ ho ka (λz=>nomatch z) fin
 .obtain⟨a,ys,rfl,_,L,_⟩:=hd;cases (show u=bo a from G);obtain⟨_,_,_,o',h1,h2,_⟩:=(show cK X.prog X.w H s.heap a (.tup ys) from I.hok a _ L);exact qZ PySem.W.kitx_tuple I.dX ⟨o',h1,h2⟩ ho ka (λz=>nomatch z) fin
 .obtain⟨a,ys,rfl,_,L,_⟩:=hd;cases (show u=bo a from G);obtain⟨_,_,vs,_,dd⟩:=(show cK X.prog X.w H s.heap a (.dK ys) from L.ok I.hok);exact qZ zU I.dX dd.typeIs ho ka (λz=>nomatch z) fin
end
section
variable{G:Gx}{ρ:Rh}{ta tb te:TE}{K:PySem.W.Frag}{Φ:Pd}{T U:String}
def Ev.Bz(hT:tB T)(h:Ev G ρ te λ_ x=>Φ true (.bool (j8 x T))):Ev G ρ (ir (jF K) (bV te (bV (tC (.ty T)) cG))) Φ:=λnb σ H Q W z=>
 h nb σ H _ W λf v H1 d q s1 hv=>⟨v,T,_,_,rfl,RI hv,Px hT,z true _ H1 _ q s1 (.bl _)⟩
def Ev.UX(hT:tB T)(a:tB U)(h:Ev G ρ te λ_ x=>Φ true (.bool (j8 x T||j8 x U))):Ev G ρ (ir xG (bV te (bV (sA (bV (tC (.ty T)) (bV (tC (.ty U)) cG))) cG))) Φ:=λnb σ H Q W z=>
 h nb σ H _ W λf v H1 d q s1 hv=>by
  refine⟨by show 2<=sizeLine;decide,λp hp=>⟨v,p,[T,U],G.S nb f,d,rfl,bx,hv.keep (bP.of (dB hp)),λS m=>?_,?_⟩⟩
  .rcases aY.mp m with e|m
   .rw[e];exact hT
   .rw[aZ.mp m];exact a
  .rw[oq,oq,List.any_nil,p7];exact z true _ _ _ q (s1.trans (.same s1.2 (dB hp))) (.bl _)
def Ev.CK(h:Ev G ρ te λ_ x=>∃ds,(x= .list ds\/x= .tuple ds)/\Φ true (.int ds.length)):Ev G ρ (ir (fZ K) (bV te cG)) Φ:=λnb σ H Q W z=>
 h nb σ H _ W λf v H1 d ⟨ds,e,q⟩ s1 hv=>by
  rcases e with e|e
  .subst e;obtain⟨a,xs,rfl,n,hx,hd⟩:=hv.dW;exact⟨a,xs,rfl, .inl (.of hx),by rw[hd.length];exact z true _ H1 _ q s1 (.int _)⟩
  .subst e;obtain⟨a,xs,rfl,n,hx,hd⟩:=hv.ofT;exact⟨a,xs,rfl, .inr (.of hx),by rw[hd.length];exact z true _ H1 _ q s1 (.int _)⟩
def Ev.Ft(h:Ev G ρ ta λf x=>∃ds,(x= .list ds\/x= .tuple ds)/\Ev G ρ tb λ_ y=>∃k,y= .int k/\∃e,bE ds k=some e/\Φ f e):Ev G ρ (cQ (BL K) ta tb) Φ:=
 Ev.kQ (h.mono λf x ⟨ds,ex,q⟩=>q.mono λg y ⟨k,r,e,he,p⟩ nb σ H u v Q W hu hv z=>by
  subst r;rcases ex with ex|ex
  .subst ex;obtain⟨a,xs,rfl,n,hx,hd⟩:=hu.dW;obtain⟨w,hw,N⟩:=hd.bE he;exact .inl ⟨a,xs,k,w,rfl,hv.cC, .of hx,hw,z f _ H _ p (.refl W.aG) N⟩
  .subst ex;obtain⟨a,xs,rfl,n,hx,hd⟩:=hu.ofT;obtain⟨w,hw,N⟩:=hd.bE he;exact .inr (.inl ⟨a,xs,k,w,rfl,hv.cC, .of hx,hw,z f _ H _ p (.refl W.aG) N⟩))
end
def Callee.void{P:bc}{K:PySem.W.Frag}{x:Str}{st:eQ}{k:Nat}{ps:List Str}{f:aF}(F:bQ K x x st f fd)(b:Binds K fd ps [])(m:mg x=some (.ref f))(hv:∀vs H Q E,¬sp vs H Q E):Callee P w K mg base x k ps sp:=
 ⟨f,fd,⟨λvs H Q E h=>(hv vs H Q E h).elim,λA outer s H args us vs Q E _ _ _ _ h=>(hv vs H Q E h).elim⟩,b,F.kp,m⟩
section
variable{G:Gx}{ρ c8:Rh}{te:TE}{gt:TG}{n i:Nat}{it:Nat->PyData->Prop}{fi:Bool}{Θ:Bool->List PyData->Prop}{E:DE}
def Jt(os:List Int):fc (os.map aq)=true:=by
 unfold fc;rw[g6];intro x hx;obtain⟨y,_,rfl⟩:=cL.mp hx
 rfl
def jA.ints(P:Int->Prop)(ht:∀i d,it i d->Gv G c8 gt fi d λg=>Wk c8 g/\Ev G g te λ_ e=>∃r:Int,e= .int r/\P r)(h:∀os:List Int,os.length=n->(∀x∈os,P x)->Θ true (os.map .int)):jA G c8 n it fi gt sV te Θ:=by
 refine⟨false,λi ds=>ds.length=i/\∃os:List Int,ds=os.map .int/\∀x∈os,P x,⟨rfl,[],rfl,λ_ h=>nomatch h⟩,?_,?_⟩
 .rintro i d ds hd hl ⟨hl2,os,rfl,ho⟩;refine λnb σ H v Q W hv z=>ht i d hd nb σ H v Q W hv λM J ⟨w,q⟩ W'=>z M J ⟨w,Tv.rj (CM (q.mono λf e ⟨r,a,hr⟩=>⟨λz=>(by cases z),?_,os++[r],?_,λx hx=>?_⟩))⟩ W';·rw[fk,i9,hl2]
  .rw[a];simp
  .rcases dM.mp hx with h|h
   .exact ho x h
   .rw[aZ.mp h];exact hr
 .rintro ds hl ⟨hl2,os,rfl,ho⟩;rw[Jt,Jc];exact h os (by rw[ao] at hl2;exact hl2) ho
theorem jA.rel(φ:α->PyData)(fl:Bool)(P:Nat->α->Prop)(ht:∀i d,it i d->Gv G c8 gt fi d λg=>Wk c8 g/\Ev G g te λf e=>(fl=true->f=true)/\∃r:α,e=φ r/\P i r)
  (h:∀os:List α,os.length=n->(∀(i:Nat) x,os[i]?=some x->P i x)->Θ (fl||fc (os.map φ)) (os.map φ)):jA G c8 n it fi gt sV te Θ:=by
 refine⟨fl,λi ds=>ds.length=i/\∃os:List α,ds=os.map φ/\∀(i:Nat) x,os[i]?=some x->P i x,⟨rfl,[],rfl,λj x e=>by simp at e⟩,?_,?_⟩
 .rintro i d ds hd hl ⟨hl2,os,rfl,ho⟩;refine λnb σ H v Q W hv z=>ht i d hd nb σ H v Q W hv λM J ⟨w,q⟩ W'=>z M J ⟨w,Tv.rj (CM (q.mono λf e ⟨hf,r,a,hr⟩=>⟨hf,?_,os++[r],?_,λj x hj=>?_⟩))⟩ W';·rw[fk,i9,hl2]
  .rw[a];simp
  .rw[ao] at hl2;rcases E4 j os.length with h|h|h
   .exact ho j x (by rwa[jj h] at hj)
   .subst h;simp at hj;subst hj;rw[hl2];exact hr
   .rw[jT (by rw[fk,i9];omega)] at hj;cases hj
 .rintro ds hl ⟨hl2,os,rfl,ho⟩;exact h os (by rw[ao] at hl2;exact hl2) ho
def Sv.DR(h:∀a,E.nx (ρ.set i (.own a true []))):Sv G ρ (fV (qt cG) (fB i)) E:=Sv.sZ (az.lst (Av.nil ⟨⋯,λa=>h a⟩))
end
def iK{X:Cx}{K:PySem.W.Frag}{a:eB}{ta:TE}(B:X.K=K)(ha:PE X a ta)(he:∀whole,isTrue a X.env whole=(do let v<-whole;standAt a.pos;holding [v] (truthy v))):PT X a (Cq K ta):=by
 subst B;exact KE ha he
def gV{X:Cx}{K:PySem.W.Frag}{es:List eB}{k:Nat}{t:jV}{n:Nat}{pos:Pos}(B:X.K=K)(hc:X.calm=true)(h:xj X es t)(hn:(gL es X.env).length=n:=by rfl)(c:(gL es X.env).findIdx? (·.1)=none:=by rfl):PG X (.Tuple es k pos) (qM K n t):=by
 subst B;exact Mz hc h hn c
def Nj(ds:List PyData):du (.list ds) (.list [])=ds.isEmpty:=by cases ds<;>simp[du,eJ]
theorem Xi(cs:List aj):bp (cs.map cy)<=2/\bg (cs.map cy)=true:=by
  induction cs with
  |nil=>simp[bp,bg]
  | cons a r ih =>
    have h:=Pw a;simp[bp,er,bg,dk,ih.2,h.2.2];have:=ih.1;have:=h.2.1;omega
def Sv.tH{G:Gx}{ρ:Rh}{s:TS}{E:DE}(I:Rh->Prop)(h:Sv G ρ s {E with nx:=I})(hI:∀J,I J->E.nx J):Sv G ρ s E:=λnb σ H D W K=>h nb σ H D W ⟨λnb ρ σ H q W=>K.nx nb ρ σ H (hI ρ q) W,K.bk,K.ct,K.rt,K.rw⟩
def Wn(p:Int):Prop:=2<=p/\p<=10^60
theorem pick{k:Int}(h0:0<=k)(h1:k<L.length)(P:Int->Prop)(R:∀x∈L,P x):∃x,bE (L.map aq) k=some (.int x)/\P x:=by
 have hL:k.toNat<L.length:=∅
 exact⟨L[k.toNat],eu h0 (by rw[bw,aC hL];rfl),R _ (cU hL)⟩
def RJ(a b:aj)(wd:Wo):aQ (a++b) wd=aQ a wd+aQ b wd:=by
 unfold aQ;rw[bS,oS]
def pW(a:Int×Int)(b:aj)(wd:Wo):aQ (a::b) wd=gY wd a+aQ b wd:=by
 unfold aQ;rw[bG,lB]
theorem NI:∀xs ys:List Int,eJ (xs.map aq) (ys.map aq)=decide (xs=ys)
  |[],[]=>by simp[eJ]
  |[],y::ys=>by simp[eJ]
  |x::xs,[]=>by simp[eJ]
  | x :: xs, y :: ys => by
    simp only[bG,eJ,NI xs ys];have:du (.int x) (.int y)=decide (x=y):=by rw[jS];simp[du]
    rw[this,jS];simp
def O9(xs ys:List Int):du (.list (xs.map .int)) (.list (ys.map .int))=decide (xs=ys):=by
 simp only[du];exact NI xs ys
def shaped_ints(xs:List Int):cH (.list (xs.map .int))=true:=by
 have h:=Xy (xs.map some);have e:(xs.map some).map cT=xs.map aq:=by rw[j7];rfl
 rw[e] at h;unfold cH;simp[dk,er,h.1,h.2]
noncomputable def oz(p:Int)(xs:List Int)(a:Int)(ys:List Int)(b:Int):List Int:=vc (λx y=>(a*x+b*y)%p) xs ys
def sj{w:List Int}(h:w[pr.1.toNat]?=some x):gY (w.map some) pr=pr.2*x:=by
 unfold gY;rw[bw,h];rfl
theorem PM{p a b:Int}{xs ys:List Int}(hl:xs.length=ys.length):∀{prs:aj},(∀pr∈prs,0<=pr.1/\pr.1<xs.length)->
    aQ prs ((oz p xs a ys b).map some)%p=(a*(aQ prs (xs.map some)%p)+b*(aQ prs (ys.map some)%p))%p
  |[],_=>by simp[aQ]
  | pr :: prs, h => by
    have ih:=PM (p:=p) (a:=a) (b:=b) hl (prs:=prs) λq hq=>h q (cM _ hq);obtain⟨h0,h1⟩:=h pr (cN ..);have k1:pr.1.toNat<xs.length:=∅
    have k2:pr.1.toNat<ys.length:=∅
    have e1:=sj (w:=xs) (aC k1);have e2:=sj (w:=ys) (aC k2);have e3:gY ((oz p xs a ys b).map some) pr=pr.2*((a*xs[pr.1.toNat]+b*ys[pr.1.toNat])%p):=by
      refine sj ?_;unfold oz;rw[Bo,aC k1,aC k2]
    rw[pW,pW,pW,e1,e2,e3];generalize xs[pr.1.toNat]=x;generalize ys[pr.1.toNat]=y;generalize aQ prs ((oz p xs a ys b).map some)=M at*;generalize aQ prs (xs.map some)=A at*;generalize aQ prs (ys.map some)=B at*;have m1:=jY M p;have m2:=jY (a*(A%p)+b*(B%p)) p;have m3:=jY A p;have m4:=jY B p;have m5:=jY (a*x+b*y) p;have m6:=jY (pr.2*x+A) p;have m7:=jY (pr.2*y+B) p;generalize pr.2=f at*;generalize M/p=q1 at*;generalize (a*(A%p)+b*(B%p))/p=q2 at*;generalize A/p=q3 at*;generalize B/p=q4 at*;generalize (a*x+b*y)/p=q5 at*;generalize (f*x+A)/p=q6 at*;generalize (f*y+B)/p=q7 at*;generalize (a*x+b*y)%p=r5 at*;generalize (f*x+A)%p=r6 at*;generalize (f*y+B)%p=r7 at*;generalize A%p=r3 at*;generalize B%p=r4 at*;have key:f*r5+M=a*r6+b*r7+p*(a*q6+b*q7-f*q5+q1-q2-a*q3-b*q4):=by
      have e5:r5=a*x+b*y-p*q5:=∅
      have d:r6=f*x+A-p*q6:=∅
      have e:r7=f*y+B-p*q7:=∅
      have c:M=a*r3+b*r4-p*q2+p*q1:=∅
      have i:A=p*q3+r3:=∅
      have g:B=p*q4+r4:=∅
      rw[e5,d,e,c,i,g]
      grind
    rw[key,uT]
def RY(K:PySem.W.Frag)(te:TE)(b:TO):TE:=λσ H Q=>te σ H λx H1=>b σ H1 λk H2=>k=some (-1)/\∃a xs,x= .ref a/\aV K H2 a xs/\∀p,H2 p=none->Q (.ref p) (upd H2 p (.lst xs.reverse))
theorem af.rev{nb:aF->Prop}{H:Hp}:∀{ds:List PyData} {xs:List V},af nb H ds xs->af nb H ds.reverse xs.reverse
  |[],xs,h=>by unfold af at h;subst h;exact .nil
  | d :: ds, xs, h => by
    unfold af at h;obtain⟨y,ys,e,h1,h2⟩:=h;subst e;rw[n3,n3];exact af.append (af.rev h2) (.cons h1 .nil)
section
variable{G:Gx}{ρ:Rh}{Φ:Pd}{ta tb te:TE}{K:PySem.W.Frag}
theorem az.rev{b:TO}{Θ:Bool->List PyData->Prop}(h:Ev G ρ te λf x=>∃ds,x= .list ds/\Ov G ρ b λo=>o=some (-1)/\Θ (f||fc ds.reverse) ds.reverse):az G ρ (RY K te b) Θ:=λnb σ H Q W z=>
 h nb σ H _ W λf v H1 d ⟨ds,e,q⟩ s1 hv=>q nb σ H1 _ (W.step s1) λo H2 ⟨c,q2⟩ s2=>by
  subst e;obtain⟨a,xs,rfl,n,hx,hd⟩:=(hv.keep s2.dj).dW;exact⟨c,a,xs,rfl, .of hx,λp hp=>az.fin W (s1.trans s2) hp hd.rev q2 z⟩
theorem Ev.rev{b:TO}(h:Ev G ρ te λf x=>∃ds,x= .list ds/\Ov G ρ b λo=>o=some (-1)/\Φ (f||fc ds.reverse) (.list ds.reverse)):Ev G ρ (RY K te b) Φ:=(az.rev (Θ:=λf ds=>Φ f (.list ds)) h).ev
def ur{K:PySem.W.Frag}(B:X.K=K):dZ X (dc .In) (wB K false):=by subst B;exact UQ
def Zq{K:PySem.W.Frag}(B:X.K=K):dZ X (dc .NotIn) (wB K true):=by subst B;exact IM
def Ev.rA{b:Bool}(h:Ev G ρ ta λ_ x=>∃k:Int,x= .int k/\Ev G ρ tb λ_ y=>∃ns:List Int,y= .list (ns.map .int)/\Φ true (.bool (decide (k∈ns) !=b))):Ev G ρ (cQ (wB K b) ta tb) Φ:=λnb σ H Q W z=>
 h nb σ H _ W λf v H1 d ⟨k,e,q⟩ s1 hv=>q nb σ H1 _ (W.step s1) λg u H2 d2 ⟨ns,e2,p⟩ s2 hu=>by
  subst e e2;have hk:=hv.cC;subst hk;obtain⟨a,xs,rfl,I,hx,hd⟩:=hu.dW;have ex:=AM hd;subst ex;refine⟨a,ns.map V.int,rfl, .inl (.of hx),rfl,?_,?_⟩
  .rw[g6];intro x hx;obtain⟨o,_,rfl⟩:=cL.mp hx
   rfl
  .have e:t7 (V.int k) (ns.map V.int)=decide (k∈ns):=by
    unfold t7;rw[List.any_map,jS,xo,decide_eq_true_eq];constructor
    .rintro⟨o,m,h⟩;have:o=k:=eq_of_beq h;exact this▸m
    .intro m;exact⟨k,m,beq_self_eq_true k⟩
   have e2:(if b=true then !t7 (V.int k) (ns.map V.int) else t7 (V.int k) (ns.map V.int))=(decide (k∈ns) !=b):=by
    rw[e];cases b<;>simp
   rw[e2];exact z true _ H2 _ p (s1.trans s2) (.bl _)
end
end L2
variable{cs:List L2.aj}{wd:L2.Wo}{prs:L2.aj}{ρ:L2.Rh}{G:L2.Gx}{Φ:L2.Pd}
namespace PC
def aU(n:Nat):Prop:=2<=n/\∀d,d∣n->d=1\/d=n
noncomputable def tr(q:Nat):Nat->Nat->Bool
 |0,_=>false
 |f+1,d=>if q<d*d then true else if q%d=0 then false else tr q f (d+1)
theorem OS{q:Nat}:∀{f d:Nat},tr q f d=true->∀e,d<=e->e*e<=q->q%e≠0
  |0,_,h=>by simp[tr] at h
  | f + 1, d, h => by
    intro e hde hee;unfold tr at h;by_cases h1:q<d*d
    · have:=ru hde hde
      omega
    · rw[if_neg h1] at h
      by_cases h2:q%d=0;· rw[if_pos h2] at h;cases h
      · rw[if_neg h2] at h
        by_cases h3:d=e;· rw[<-h3];exact h2
        · exact OS h e ∅ hee
theorem N5{q:Nat}(h2:2<=q)(h:∀e,2<=e->e*e<=q->q%e≠0):aU q:=by
 refine⟨h2,λd hd=>?_⟩;obtain⟨e,he⟩:=hd;by_cases d1:d=1;·exact .inl d1
 by_cases e1:e=1;·right;rw[he,e1,G8]
 exfalso;have d0:d≠0:=λz=>by rw[z,GQ] at he;omega
 have e0:e≠0:=λz=>by rw[z,vd] at he;omega
 by_cases C:d<=e
 .refine h d ∅ (by rw[he];exact Nat.mul_le_mul_left d C) ?_;rw[he];exact Nat.mul_mod_right d e
 .refine h e ∅ (by rw[he];exact Nat.mul_le_mul_right e ∅) ?_;rw[he];exact Nat.mul_mod_left d e
def dg(f:Nat){q:Nat}(h2:2<=q)(h:tr q f 2=true):aU q:=N5 h2 (OS h)
noncomputable def pw(N:Nat):Nat->Nat->Nat->Nat->Nat
 |0,_,_,acc=>acc
 |f+1,e,g,acc=>pw N f (e/2) (g*g%N) (if e%2=1 then acc*g%N else acc)
theorem N7{N:Nat}:∀(f e g acc:Nat),e<2^f->pw N f e g acc%N=acc*g^e%N
  | 0, e, g, acc, h => by
    have:e=0:=by simp at h;exact h
    subst this;simp[pw]
  | f + 1, e, g, acc, h => by
    have h2:e/2<2^f:=by rw[Nat.pow_succ] at h;omega
    unfold pw;rw[N7 f _ _ _ h2];have e2:g^e=(g*g)^(e/2)*g^(e%2):=by
      conv=>lhs;rw[<-GN e 2]
      rw[Ae,xI,Nat.pow_two]
    have m1:(g*g%N)^(e/2)%N=(g*g)^(e/2)%N:=(x2 _ _ _).symm;rw[e2];by_cases ho:e%2=1
    · rw[if_pos ho,ho,Nat.pow_one,oF,m1,JN,<-oF]
      congr 1
      rw[vv,uN g]
    · have d:e%2=0:=∅
      rw[if_neg ho,d,vi,G8,oF,m1,<-oF]
def TM{P:Nat->Prop}:∀n,P n->∃m,P m/\∀k,k<m->¬P k:=by
  intro n;induction n using Nat.strongRecOn with
  | _ n ih =>
    intro h;by_cases hk:∃k,k<n/\P k
    · obtain⟨k,a,s⟩:=hk
      exact ih k a s
    · exact⟨n,h,λk a s=>hk ⟨k,a,s⟩⟩
theorem MR:∀(n:Nat) (f:Nat->Nat),(∀i,i<n+1->f i<n)->∃i j,i<j/\j<n+1/\f i=f j
  |0,f,h=>absurd (h 0 ∅) ∅
  | n + 1, f, h => by
    by_cases he:∃i,i<n+1/\f i=f (n+1)
    · obtain⟨i,h1,h2⟩:=he
      exact⟨i,n+1,h1,∅,h2⟩
    · have J:∀i,i<n+1->f i≠f (n+1):=λi hi e=>he ⟨i,hi,e⟩
      have wR:=h (n+1) ∅
      obtain⟨i,j,h1,h2,h3⟩:=MR n (λi=>if f i=n then f (n+1) else f i) (λi hi=>by
        have g1:=h i ∅;have g2:=J i hi;by_cases c:f i=n
        · simp only[c,if_true]
          have:f (n+1)≠n:=λz=>g2 (c.trans z.symm);omega
        · simp only[c,if_false]
          omega)
      refine⟨i,j,h1,∅,?_⟩;have gi:=J i ∅;have gj:=J j ∅;by_cases b:f i=n
      · by_cases a:f j=n
        · rw[b,a]
        · simp only[b,a,if_true,if_false] at h3
          exact absurd h3.symm gj
      · by_cases a:f j=n
        · simp only[b,a,if_true,if_false] at h3
          exact absurd h3 gi
        · simpa only[b,a,if_false] using h3
noncomputable def l8:List (Nat×Nat)->Nat
 |[]=>1
 |qe::r=>Nat.lcm (qe.1^qe.2) (l8 r)
theorem Po{o:Nat}:∀{fs:List (Nat×Nat)},(∀qe∈fs,qe.1^qe.2∣o)->l8 fs∣o
 |[],_=>⟨o,by simp[l8]⟩
 |qe::r,h=>Nat.lcm_dvd (h qe cN) (Po λx hx=>h x (cM _ hx))
def Fm{q:Nat}(hq:aU q)(h:¬q∣m):kb q m:=by
 rcases hq.2 _ (Nat.gcd_dvd_left q m) with e|e
 .exact e
 .exact absurd (e▸Nat.gcd_dvd_right q m) h
def Ha{q:Nat}(h:kb q m)(e:Nat):kb (q^e) m:=vW e h
def Pl(a b c d:Nat):(a%d)*(b%d)%d*(c%d)%d=a*b*c%d:=by
 rw[<-oF a b,<-oF (a*b) c]
theorem NP{N g d:Nat}{fs:List (Nat×Nat)}(hN:2<=N)(hd:d∣N)(d1:1<d)(h1:g^(N-1)%N=1%N)
  (hq:∀qe∈fs,aU qe.1/\qe.1^qe.2∣N-1/\x3 (g^((N-1)/qe.1)%N+(N-1)) N=1):l8 fs<d:=by
 have n:∀{a b:Nat},a%N=b%N->a%d=b%d:=λ{a b} e=>by
  rw[<-FG a hd,e,FG b hd]
 have one:1%d=1:=oT d1;have f1:g^(N-1)%d=1:=by rw[n h1,one]
 obtain⟨o,⟨A,o1⟩,y⟩:=TM (P:=λk=>0<k/\g^k%d=1) (N-1) ⟨∅,f1⟩;have l:∀q r:Nat,g^(o*q+r)%d=g^r%d:=λq r=>by
  rw[Ae,xI,oF,x2,o1,Nat.one_pow,one,Ia,JN]
 have v:∀k,g^k%d=1->o∣k:=λk hk=>by
  have e:=GN k o;rw[<-e,l] at hk;by_cases h0:k%o=0;·exact Ou h0
  .exact absurd ⟨∅,hk⟩ (y (k%o) (An _ A))
 have od:=v _ f1;have h:l8 fs∣o:=Po λqe p=>by
  obtain⟨B,⟨c,hc⟩,G⟩:=hq qe p;obtain⟨m,hm⟩:=od;by_cases D:qe.1∣m
  .exfalso;obtain⟨O,hm'⟩:=D;have q0:0<qe.1:=by have:=B.1;omega
   have x:(N-1)/qe.1=o*O:=by
    rw[hm,hm',show o*(qe.1*O)=qe.1*(o*O) by rw[<-vv,uN o,vv],Nat.mul_div_cancel_left _ q0]
   have e1:g^((N-1)/qe.1)%d=1:=by
    have:=l O 0;rw[JD,vi,one] at this;rw[x];exact this
   have e2:d∣g^((N-1)/qe.1)%N+(N-1):=by
    have e3:(g^((N-1)/qe.1)%N)%d=1:=by rw[FG _ hd];exact e1
    obtain⟨k,hk⟩:=hd;have e4:=GN (g^((N-1)/qe.1)%N) d;rw[e3] at e4;refine⟨(g^((N-1)/qe.1)%N)/d+k,?_⟩;rw[Nat.mul_add,<-hk];omega
   have e5:=Nat.dvd_gcd e2 hd;rw[G] at e5;have:=ES ∅ e5;omega
  .have cp:=Ha (Fm B D) qe.2;have F:qe.1^qe.2∣o*m:=⟨c,by rw[<-hm];exact hc⟩;exact cp.dvd_of_dvd_mul_right F
 have t:o<d:=by
  refine Nat.lt_of_not_le λC=>?_;have f:∀i,i<=N-1->(g^i%d)*(g^(N-1-i)%d)%d=1:=λi hi=>by
   rw[<-oF,<-Ae,show i+(N-1-i)=N-1 by omega];exact f1
  have E:o<=N-1:=ES ∅ od;have pos:∀i,i<o->0<g^i%d:=λi hi=>by
   refine mB λz=>?_;have:=f i ∅;rw[z,GQ,Nat.zero_mod] at this;cases this
  obtain⟨i,j,h1,h2,h3⟩:=MR (d-1) (λi=>g^i%d-1) (λi hi=>by
   have a1:=pos i ∅;have a2:=An (g^i) (show d>0 by omega);omega)
  have pi:=pos i ∅;have pj:=pos j ∅;have e:g^i%d=g^j%d:=∅
  have s:g^j=g^i*g^(j-i):=by rw[<-Ae,show i+(j-i)=j by omega]
  have u:=f i ∅;have k1:g^(j-i)%d=1:=by
   have w:(g^i%d)*(g^(N-1-i)%d)%d*(g^(j-i)%d)%d=(g^j%d)*(g^(N-1-i)%d)%d:=by
    rw[Pl,<-oF (g^j),s]
    congr 1
    rw[vv,vv,uN (g^(N-1-i))]
   rw[u,Ia,JN,<-e,u] at w;exact w
  exact y (j-i) ∅ ⟨∅,k1⟩
 exact BI (ES A h) t
theorem W5{N g:Nat}(fs:List (Nat×Nat))(hN:2<=N)(h1:g^(N-1)%N=1%N)
  (hq:∀qe∈fs,aU qe.1/\qe.1^qe.2∣N-1/\x3 (g^((N-1)/qe.1)%N+(N-1)) N=1) (X:N<(l8 fs+1)*(l8 fs+1)):aU N:=by
 refine⟨hN,λd hd=>?_⟩;obtain⟨e,he⟩:=id hd;by_cases d1:d=1;·exact .inl d1
 by_cases e1:e=1;·right;rw[he,e1,G8]
 exfalso;have d0:d≠0:=λz=>by rw[z,GQ] at he;omega
 have e0:e≠0:=λz=>by rw[z,vd] at he;omega
 have b1:=NP hN hd ∅ h1 hq;have b2:=NP hN ⟨d,by rw[he,uN]⟩ (show 1<e by omega) h1 hq;have:=ru (show l8 fs+1<=d from b1) (show l8 fs+1<=e from b2);omega
noncomputable def O2(N g:Nat)(fs:List (Nat×Nat)):Bool:=
 decide (2<=N) && decide (N<2^140) &&(pw N 140 (N-1) g 1%N==1) && fs.all (λqe=>((N-1)%qe.1^qe.2==0) &&(x3 (pw N 140 ((N-1)/qe.1) g 1%N+(N-1)) N==1)) && decide (N<(l8 fs+1)*(l8 fs+1))
theorem eW{N:Nat}(g:Nat)(fs:List (Nat×Nat))(hp:∀qe∈fs,aU qe.1)(h:O2 N g fs=true):aU N:=by
 unfold O2 at h;simp only[fQ,decide_eq_true_eq,beq_iff_eq,g6] at h;obtain⟨⟨⟨⟨h1,h2⟩,h3⟩,h4⟩,h5⟩:=h;have P:∀e,e<=N-1->pw N 140 e g 1%N=g^e%N:=λe he=>by
  rw[N7 140 e g 1 ∅,Ia]
 refine W5 (g:=g) fs h1 (by rw[<-P _ (aW _),h3,oT ∅]) (λqe p=>?_) h5;obtain⟨g1,g2⟩:=h4 qe p;refine⟨hp qe p,Ou g1,?_⟩;rw[<-P _ (Nat.div_le_self _ _)];exact g2
def GZ:aU 2:=dg 4 ⋯ (by decide+kernel)
def VG:aU 3:=dg 4 ⋯ (by decide+kernel)
def L4:aU 5:=dg 5 ⋯ (by decide+kernel)
def D4:aU 7:=dg 5 ⋯ (by decide+kernel)
def Wr:aU 11:=dg 6 ⋯ (by decide+kernel)
def F1:aU 101:=dg 13 ⋯ (by decide+kernel)
def FK:aU 10007:=dg 103 ⋯ (by decide+kernel)
def afV:aU 65537:=dg 259 ⋯ (by decide+kernel)
def Vx:aU 1000003:=dg 1003 ⋯ (by decide+kernel)
def ID:aU 17:=dg 7 ⋯ (by decide+kernel)
def IH:aU 998244353:=eW 3 [(17,1),(7,1),(2,23)] (λqe h=>by
 simp only[aY,dR,or_false] at h;rcases h with rfl|rfl|rfl
 .exact ID
 .exact D4
 .exact GZ) (by decide+kernel)
def Md:aU 148721:=dg 388 ⋯ (by decide+kernel)
def Ug:aU 500000003:=eW 2 [(148721,1)] (λqe h=>by
 simp only[aY,dR,or_false] at h;subst h;exact Md) (by decide+kernel)
def UM:aU 1000000007:=eW 2 [(500000003,1)] (λqe h=>by
 simp only[aY,dR,or_false] at h;subst h;exact Ug) (by decide+kernel)
def Oa:aU 331:=dg 21 ⋯ (by decide+kernel)
def Np:aU 151:=dg 15 ⋯ (by decide+kernel)
def UD:aU 2147483647:=eW 3 [(331,1),(151,1)] (λqe h=>by
 simp only[aY,dR,or_false] at h;rcases h with rfl|rfl
 .exact Oa
 .exact Np) (by decide+kernel)
def Jn:aU 250049:=dg 503 ⋯ (by decide+kernel)
def ZM:aU 26005097:=eW 2 [(250049,1)] (λqe h=>by
 simp only[aY,dR,or_false] at h;subst h;exact Jn) (by decide+kernel)
def HJ:aU 1000000000039:=eW 2 [(26005097,1)] (λqe h=>by
 simp only[aY,dR,or_false] at h;subst h;exact ZM) (by decide+kernel)
def Vc:aU 234931:=dg 487 ⋯ (by decide+kernel)
def QR:aU 8740842787:=eW 2 [(234931,1)] (λqe h=>by
 simp only[aY,dR,or_false] at h;subst h;exact Vc) (by decide+kernel)
def TH:aU 52445056723:=eW 2 [(8740842787,1)] (λqe h=>by
 simp only[aY,dR,or_false] at h;subst h;exact QR) (by decide+kernel)
def Tn:aU 1000000000000000003:=eW 2 [(52445056723,1)] (λqe h=>by
 simp only[aY,dR,or_false] at h;subst h;exact TH) (by decide+kernel)
def PK:aU 15331:=dg 126 ⋯ (by decide+kernel)
def WA:aU 2131:=dg 49 ⋯ (by decide+kernel)
def XA:aU 5594472617641:=eW 2 [(15331,1),(2131,1)] (λqe h=>by
 simp only[aY,dR,or_false] at h;rcases h with rfl|rfl
 .exact PK
 .exact WA) (by decide+kernel)
def Qk:aU 18446744073709551557:=eW 2 [(5594472617641,1)] (λqe h=>by
 simp only[aY,dR,or_false] at h;subst h;exact XA) (by decide+kernel)
def PL:aU 1321:=dg 39 ⋯ (by decide+kernel)
def Vg:aU 61:=dg 10 ⋯ (by decide+kernel)
def Nw:aU 2305843009213693951:=eW 3 [(1321,1),(331,1),(151,1),(61,1)] (λqe h=>by
 simp only[aY,dR,or_false] at h;rcases h with rfl|rfl|rfl|rfl
 .exact PL
 .exact Oa
 .exact Np
 .exact Vg) (by decide+kernel)
def UK:aU 8707:=dg 96 ⋯ (by decide+kernel)
def Si:aU 1913:=dg 46 ⋯ (by decide+kernel)
def Wg:aU 2931542417:=eW 3 [(8707,1),(1913,1)] (λqe h=>by
 simp only[aY,dR,or_false] at h;rcases h with rfl|rfl
 .exact UK
 .exact Si) (by decide+kernel)
def Wb:aU 2113:=dg 48 ⋯ (by decide+kernel)
def Xd:aU 683:=dg 29 ⋯ (by decide+kernel)
def TV:aU 618970019642690137449562111:=eW 3 [(2931542417,1),(2113,1),(683,1)] (λqe h=>by
 simp only[aY,dR,or_false] at h;rcases h with rfl|rfl|rfl
 .exact Wg
 .exact Wb
 .exact Xd) (by decide+kernel)
def D6:aU 1097:=dg 36 ⋯ (by decide+kernel)
def XQ:aU 131:=dg 14 ⋯ (by decide+kernel)
def HE:aU 67254877:=eW 2 [(1097,1),(131,1)] (λqe h=>by
 simp only[aY,dR,or_false] at h;rcases h with rfl|rfl
 .exact D6
 .exact XQ) (by decide+kernel)
def Wi:aU 28059810762433:=eW 3 [(67254877,1)] (λqe h=>by
 simp only[aY,dR,or_false] at h;subst h;exact HE) (by decide+kernel)
def IV:aU 53:=dg 10 ⋯ (by decide+kernel)
def ZF:aU 37:=dg 9 ⋯ (by decide+kernel)
def VU:aU 13:=dg 6 ⋯ (by decide+kernel)
def Dh:aU 20394401:=eW 3 [(53,1),(37,1),(13,1)] (λqe h=>by
 simp only[aY,dR,or_false] at h;rcases h with rfl|rfl|rfl
 .exact IV
 .exact ZF
 .exact VU) (by decide+kernel)
def WD:aU 162259276829213363391578010288127:=eW 3 [(28059810762433,1),(20394401,1)] (λqe h=>by
 simp only[aY,dR,or_false] at h;rcases h with rfl|rfl
 .exact Wi
 .exact Dh) (by decide+kernel)
def Uu:aU 699053:=dg 839 ⋯ (by decide+kernel)
def ada:aU 77158673929:=eW 3 [(699053,1)] (λqe h=>by
 simp only[aY,dR,or_false] at h;subst h;exact Uu) (by decide+kernel)
def X6:aU 649657:=dg 809 ⋯ (by decide+kernel)
def agj:aU 92737:=dg 307 ⋯ (by decide+kernel)
def Kt:aU 170141183460469231731687303715884105727:=eW 3 [(77158673929,1),(649657,1),(92737,1)] (λqe h=>by
 simp only[aY,dR,or_false] at h;rcases h with rfl|rfl|rfl
 .exact ada
 .exact X6
 .exact agj) (by decide+kernel)
def Ll:aU 7963:=dg 92 ⋯ (by decide+kernel)
def SF:aU 3011:=dg 57 ⋯ (by decide+kernel)
def Yr:aU 575438233:=eW 2 [(7963,1),(3011,1)] (λqe h=>by
 simp only[aY,dR,or_false] at h;rcases h with rfl|rfl
 .exact Ll
 .exact SF) (by decide+kernel)
def Hb:aU 52316542391429:=eW 2 [(575438233,1)] (λqe h=>by
 simp only[aY,dR,or_false] at h;subst h;exact Yr) (by decide+kernel)
def G2:aU 104633084782859:=eW 2 [(52316542391429,1)] (λqe h=>by
 simp only[aY,dR,or_false] at h;subst h;exact Hb) (by decide+kernel)
def Dw:aU 179:=dg 16 ⋯ (by decide+kernel)
def Zx:aU 31:=dg 8 ⋯ (by decide+kernel)
def T2:aU 7935071:=eW 2 [(179,1),(31,1)] (λqe h=>by
 simp only[aY,dR,or_false] at h;rcases h with rfl|rfl
 .exact Dw
 .exact Zx) (by decide+kernel)
def WE:aU 15870143:=eW 2 [(7935071,1)] (λqe h=>by
 simp only[aY,dR,or_false] at h;subst h;exact T2) (by decide+kernel)
def acL:aU 401321030361983486780957614729:=eW 2 [(104633084782859,1),(15870143,1)] (λqe h=>by
 simp only[aY,dR,or_false] at h;rcases h with rfl|rfl
 .exact G2
 .exact WE) (by decide+kernel)
def W7:aU 1000000000000000000000000000000000000003:=eW 2 [(401321030361983486780957614729,1)] (λqe h=>by
 simp only[aY,dR,or_false] at h;subst h;exact acL) (by decide+kernel)
def ZC:aU 25733:=dg 163 ⋯ (by decide+kernel)
def Lx:aU 1151:=dg 36 ⋯ (by decide+kernel)
def TL:aU 4916701379:=eW 2 [(25733,1),(1151,1)] (λqe h=>by
 simp only[aY,dR,or_false] at h;rcases h with rfl|rfl
 .exact ZC
 .exact Lx) (by decide+kernel)
def Hd:aU 83:=dg 12 ⋯ (by decide+kernel)
def JB:aU 23:=dg 7 ⋯ (by decide+kernel)
def agN:aU 1676254721:=eW 5 [(83,1),(23,1),(7,3)] (λqe h=>by
 simp only[aY,dR,or_false] at h;rcases h with rfl|rfl|rfl
 .exact Hd
 .exact JB
 .exact D4) (by decide+kernel)
def YJ:aU 149927568276670622397029177:=eW 2 [(4916701379,1),(1676254721,1)] (λqe h=>by
 simp only[aY,dR,or_false] at h;rcases h with rfl|rfl
 .exact TL
 .exact agN) (by decide+kernel)
def K5:aU 9999999999999999999999999999999999999983:=eW 2 [(149927568276670622397029177,1)] (λqe h=>by
 simp only[aY,dR,or_false] at h;subst h;exact YJ) (by decide+kernel)
end PC
namespace L2
open PC
def gc(p:Int):Prop:=2<=p/\∀d:Int,0<d->d∣p->d=1\/d=p
theorem gP(h:aU n):gc (n:Int):=by
 refine⟨by have:=h.1;omega,λd d0 hd=>?_⟩;obtain⟨k,rfl⟩:=Pb (Int.le_of_lt d0);rcases h.2 k (Int.natCast_dvd_natCast.mp hd) with e|e
 .left;rw[e];rfl
 .right;rw[e]
theorem ZY(h2:2<=p)(h:xH p):gc p:=by
 obtain⟨n,rfl⟩:=Pb (show 0<=p by omega);refine gP (N5 ∅ λe e1 e2 e3=>?_);refine h (e:Int) ∅ (by rw[<-p3];exact Int.ofNat_le.mpr e2) ?_;have:=congrArg (Nat.cast:Nat->Int) e3;simpa using this
def Ci:∀p∈yi,gc p:=by
 intro p hp;simp only[yi,aY,dR,or_false] at hp;rcases hp with rfl|rfl|rfl|rfl|rfl|rfl|rfl|rfl|rfl|rfl|rfl|rfl|rfl|rfl|rfl|rfl|rfl|rfl|rfl|rfl|rfl|rfl
 .exact gP GZ
 .exact gP VG
 .exact gP L4
 .exact gP D4
 .exact gP GZ
 .exact gP Wr
 .exact gP F1
 .exact gP FK
 .exact gP afV
 .exact gP Vx
 .exact gP IH
 .exact gP UM
 .exact gP UD
 .exact gP HJ
 .exact gP Tn
 .exact gP Qk
 .exact gP Nw
 .exact gP TV
 .exact gP WD
 .exact gP Kt
 .exact gP W7
 .exact gP K5
def Am:Sp:=λvs H Q _=>∃p b:Int,vs=[.int p, .int b]/\gc p/\p<10^40/\b%p≠0/\∀u:Int,0<=u->u<p->(∃k,u*b=1+p*k)->Q (.int u) H
def G1:Sp:=λvs H Q _=>∃p a b:Int,vs=[.int p, .int a, .int b]/\gc p/\p<10^40/\b%p≠0/\ -(10^61)<=a/\a<=10^61/\∀x:Int,0<=x->x<p->(∃k,b*x-a=p*k)->Q (.int x) H
end L2
namespace L2
def af.three{a b c:PyData}(h:af nb H [a,b,c] vs):∃x y z,vs=[x,y,z]/\ai nb H a x/\ai nb H b y/\ai nb H c z:=by
 unfold af at h;obtain⟨x,ys,rfl,h1,h⟩:=h;unfold af at h;obtain⟨y,zs,rfl,h2,h⟩:=h;unfold af at h;obtain⟨z,ws,rfl,h3,h⟩:=h;unfold af at h;subst h;exact⟨x,y,z,rfl,h1,h2,h3⟩
def Ev.over(h:Av G ρ t λes=>∃p a b:Int,es.map (·.2)=[.int p, .int a, .int b]/\gc p/\p<10^40/\b%p≠0/\ -(10^61)<=a/\a<=10^61/\∀x:Int,0<=x->x<p->(∃k,b*x-a=p*k)->Φ true (.int x)):
  Ev G ρ (iS G1 [] E0 t) Φ:=λnb σ H Q W z=>
 h nb σ H _ W λes vs H1 ⟨p,a,b,e,h1,h2,h3,h4,h5,q⟩ s1 O=>by
  have hd:=O.all (f:=false) (λz=>by cases z);rw[e] at hd;obtain⟨x,y,w,rfl,d1,d2,d3⟩:=hd.three;rw[d1.cC,d2.cC,d3.cC];exact⟨p,a,b,rfl,h1,h2,h3,h4,h5,λx x1 B u=>z true _ H1 _ (q x x1 B u) s1 (.int x)⟩
theorem Zi{a b:Int}(hp:gc p)(h:p∣a*b)(ha:¬p∣a):p∣b:=by
 have p2:=hp.1;have g1:((kd a p:Nat):Int)∣p:=n4 ..;have g2:((kd a p:Nat):Int)∣a:=oW ..;have T:0<((kd a p:Nat):Int):=by
  have:kd a p≠0:=λz=>by have:=(Sj.mp z).2;omega
  omega
 rcases hp.2 _ T g1 with e|e
 .have c:kb p.natAbs a.natAbs:=by
   show x3 p.natAbs a.natAbs=1;have:kd a p=1:=∅
   rw[Nat.gcd_comm];exact this
  have h':p.natAbs∣b.natAbs*a.natAbs:=by rw[uN,<-Ka];exact BV.mpr h
  exact BV.mp (c.dvd_of_dvd_mul_right h')
 .rw[e] at g2;exact absurd g2 ha
theorem Wl{a b:Int}(ha:0<=a)(d:a<p)(hb:0<=b)(c:b<p)(h:p∣a-b):a=b:=by
 obtain⟨k,e⟩:=h;rcases AJ k 0 with z|z|z
 .have:p*k<=p*(-1):=oA ∅ ∅;omega
 .subst z;omega
 .have:p*1<=p*k:=oA ∅ ∅;omega
section
variable{X:Cx}{pins:List (aF×Obj)}{σ:List (Option V)}{H:Hp}{s:aw}{h':eo}
def Inv.YD{e T:aF}{o:HO}(I:Inv X pins σ H s)(k:∀b u,b≠e->b≠it->s.heap.get? b=some u->h'.get? b=some u)(fe:jC X pins H e)(fi:jC X pins H it)(hT:s.heap.objs.size<=T)(j:T≠e)(M:T≠it)
  (le:∃u,s.heap.get? e=some u) (li:∃u,s.heap.get? it=some u) (new:cK X.prog X.w (upd H T o) h' T o):Inv X pins σ (upd H T o) {s with heap:=h',toks:=t'}:=by
 have hn:=I.hok.fresh hT;obtain⟨e0,e1,e2,e3,e4,e5⟩:=fe;obtain⟨i0,B,A,l,a,d⟩:=fi;have ne:∀b u,H b=some u->b≠e:=λb u q z=>by rw[z,e0] at q;cases q
 have ni:∀b u,H b=some u->b≠it:=λb u q z=>by rw[z,i0] at q;cases q
 have F:∀b u,H b=some u->b≠T:=λb u q z=>by rw[z,hn] at q;cases q
 refine I.step (g':=s.gens) (d':=s.drawn) (ch:=[e,it]) (λb hb=>?_) (λb o _ _ hc q _=>k b o (λz=>hc (by simp[z])) (λz=>hc (by simp[z])) q) (λb o _ _ hc q _=>⟨o.slots,k b o (λz=>hc (by simp[z])) (λz=>hc (by simp[z])) q⟩)
  (λb o hc q n=>?_) (λb o hc q=>⟨o,k b o (λz=>hc (by simp[z])) (λz=>hc (by simp[z])) q⟩) (λb xs q=>by rw[aH (F b _ q)];exact q) (λb o u q=>by rw[aH (F b _ q)];exact q) (λb ps q=>⟨#[],by rw[aH (F b _ q),q];simp⟩) (λm hm=>?_) (λb u q=>?_) I.bare
 .rcases(show b=e\/b=it by simpa using hb) with z|z
  .subst z;exact⟨e3,e1,e4,e5⟩
  .subst z;exact⟨l,B,a,d⟩
 .rw[aH (λz=>absurd (eK (bN q) (by rw[z];exact hT)) (i7 _))];exact n
 .obtain⟨o,es,ep,ho,r⟩:=hm;exact⟨o,es,ep,k _ o (bH e1) (bH B) ho,r⟩
 .by_cases hb:b=T;·subst hb;rw[bx] at q;cases q;exact new
  .rw[aH hb] at q;refine(I.hok b u q).stay (λc v hc z=>?_) (λc z=>by rw[aH (F c _ z)];exact z) λc xs z=>by rw[aH (F c _ z)];exact z
   rcases hc with y|y
   .subst y;exact k _ v (ne _ u q) (ni _ u q) z
   .exact k c v (ne c _ y) (ni c _ y) z
def Inv.Oc{e:aF}(I:Inv X pins σ H s)(k:∀b u,b≠e->b≠it->s.heap.get? b=some u->h'.get? b=some u)(fe:jC X pins H e)(fi:jC X pins H it):Inv X pins σ H {s with heap:=h',toks:=t'}:=by
 obtain⟨e0,e1,e2,e3,e4,e5⟩:=fe;obtain⟨i0,B,A,l,a,d⟩:=fi;have ne:∀b u,H b=some u->b≠e:=λb u q z=>by rw[z,e0] at q;cases q
 have ni:∀b u,H b=some u->b≠it:=λb u q z=>by rw[z,i0] at q;cases q
 refine I.step (g':=s.gens) (d':=s.drawn) (ch:=[e,it]) (λb hb=>?_) (λb o _ _ hc q _=>k b o (λz=>hc (by simp[z])) (λz=>hc (by simp[z])) q) (λb o _ _ hc q _=>⟨o.slots,k b o (λz=>hc (by simp[z])) (λz=>hc (by simp[z])) q⟩)
  (λ_ _ _ _ n=>n) (λb o hc q=>⟨o,k b o (λz=>hc (by simp[z])) (λz=>hc (by simp[z])) q⟩) (λ_ _ q=>q) (λ_ _ _ q=>q) (λb ps q=>⟨#[],by rw[q];simp⟩) (λm hm=>?_) (λb u q=>?_) I.bare
 .rcases(show b=e\/b=it by simpa using hb) with z|z
  .subst z;exact⟨e3,e1,e4,e5⟩
  .subst z;exact⟨l,B,a,d⟩
 .obtain⟨o,es,ep,ho,r⟩:=hm;exact⟨o,es,ep,k _ o (bH e1) (bH B) ho,r⟩
 .refine(I.hok b u q).stay (λc v hc z=>?_) (λc z=>z) λc xs z=>z;rcases hc with y|y
  .subst y;exact k _ v (ne _ u q) (ni _ u q) z
  .exact k c v (ne c _ y) (ni c _ y) z
end
noncomputable def rN(K:PySem.W.Frag)(a:aF):It:=
 ⟨λi H=>∃xs x,aV K H a xs/\xs[i]?=some x,λi H x H'=>∃p y,x= .ref p/\H p=none/\(∀xs,aV K H a xs->xs[i]?=some y)/\H'=upd H p (.tup [.int i,y]),λi H=>∃xs,aV K H a xs/\xs.length=i⟩
theorem VY{P:bc}{K:PySem.W.Frag}{f:List eB}{k:Nat}(a e it:aF)(m:e≠it):
  Turn P w K (.Tuple f k pos) (rN K a) [e,it] e (λi h=>(∃old,IsEnum h e it i old)/\h.IsListIter it a i) where
 mem:=by simp
 obj:=λi h st b hb=>by
  obtain⟨⟨old,s1⟩,⟨o,e1,c,d⟩⟩:=st;rcases(show b=e\/b=it by simpa using hb) with z|z
  .subst z
   exact⟨_,s1,λv z=>by
    have z':pG _=ml v:=z;cases z'⟩
  .subst z;exact⟨o,e1,λv z=>by rw[d] at z;cases z⟩
 keep:=λi h h' st k=>⟨let ⟨old,s1⟩:=st.1;⟨old,k e (by simp) _ s1⟩,st.2.at λo q=>k it (by simp) o q⟩
 item:=by
  intro X hP hw hK hc i pins s σ H E I hf st hg;subst hP hw hK;obtain⟨xs,x,hq,hx⟩:=hg;obtain⟨its,rv,p,hz⟩:=I.list hq;obtain⟨u,hu,G⟩:=rv.get hx;have fe:=hf e (by simp);have fi:=hf it (by simp);obtain⟨⟨old,s1⟩,s2⟩:=st;obtain⟨n,l1,l2,r⟩:=id p.isList;obtain⟨C,B,A,l⟩:=id s2;have y:a≠e:=λz=>by
   subst z;rw[s1] at l1;cases l1
   exact absurd l2 (by simp)
  have D:a≠it:=λz=>by
   subst z;rw[B] at l1;cases l1
   rw[A] at l2;exact absurd l2 (by simp)
  have W:=o3 (prog:=X.prog) (w:=X.w) (I.ok.hd hc) e it a m y D its.toArray;have hi:i<its.toArray.size:=by
   have:=(aO.mp hu).1;simpa using this
  refine W.item i s _ _ hi ⟨⟨old,s1⟩,s2,p.isList⟩ λT vals h' tk hv hT GW J kp=>⟨.ref T,rfl,?_⟩;refine W.go f k pos i T _ _ _ J λh'' g Q=>?_;obtain⟨t,Y,L,R⟩:=hv;have O:Y=u:=by
   have:its.toArray[i]?=some u:=by simpa using hu
   rw[L] at this;exact fP this
  subst O R;have Du:=W.apart i T h' J;obtain⟨_,_,_,j,M⟩:=J;obtain⟨V,U,N,F,t3⟩:=GW;have t1':=Q T V Du U;refine⟨.ref T,upd H T (.tup [.int i,x]),I.YD (λb v h1 h2 q=>Q b v (by simp[h1,h2]) (kp b v (by simp[h1,h2]) q)) fe fi hT j M ⟨_,s1⟩ ⟨_,B⟩ ?_,rfl,⟨T,x,rfl,I.hok.fresh hT,λys hy=>by rw[I.AN hy hq];exact hx,rfl⟩,⟨g.1,g.2.1⟩,λb hb=>?_⟩;·exact⟨by show 2<=sizeLine;decide,[.int i t,Y], .cons ⟨t,rfl⟩ (.cons G .nil),V,t1',N,F,t3⟩
  .rw[aH,(hf b hb).1];rcases(show b=e\/b=it by simpa using hb) with z|z
   .rw[z];exact bH j
   .rw[z];exact bH M
 done:=by
  intro X hP hw hK hc i pins s σ H E I hf st hg;subst hP hw hK;obtain⟨xs,hq,hx⟩:=hg;obtain⟨its,rv,p,hz⟩:=I.list hq;have fe:=hf e (by simp);have fi:=hf it (by simp);obtain⟨⟨old,s1⟩,s2⟩:=st;obtain⟨n,l1,l2,r⟩:=id p.isList;obtain⟨C,B,A,l⟩:=id s2;have hl:=rv.length;have y:a≠e:=λz=>by
   subst z;rw[s1] at l1;cases l1
   exact absurd l2 (by simp)
  have D:a≠it:=λz=>by
   subst z;rw[B] at l1;cases l1
   rw[A] at l2;exact absurd l2 (by simp)
  have W:=o3 (prog:=X.prog) (w:=X.w) (I.ok.hd hc) e it a m y D its.toArray;have hn:its.toArray.size=i:=by rw[cY];omega
  refine W.done s _ _ (by rw[hn];exact⟨⟨old,s1⟩,s2,p.isList⟩) λh' tk kp=>⟨rfl,?_⟩;exact I.Oc (λb v h1 h2 q=>kp b v (by simp[h1,h2]) q) fe fi
 self:=λ_ _ _ _ _ st h=>let ⟨old,s1⟩:=st.1;jL s1 h
def xx(K:PySem.W.Frag)(tl:TE):TI:=λσ H R=>tl σ H λx H1=>∃a,x= .ref a/\(∃xs,aV K H1 a xs)/\R (rN K a) H1
def vN{X:Cx}{K:PySem.W.Frag}{f:List eB}{k:Nat}{tpos:Pos}{l:eB}{tl:TE}{p pos:Pos}(B:X.K=K)(hg:Gl X "enumerate")(hm:X.mg "enumerate"=none)(hl:PE X l tl)(hs:cc [l] X.env=[(false,eval l X.env)]:=by rfl):
    PI X (.Tuple f k tpos) (.Call (.Name "enumerate" p) [l] [] pos) (xx K tl):=by
  subst B;intro pins s σ H R I h;have ha:PA X [l] (bV tl cG):=aa hl ak (by rw[hs];rfl);refine y7 (nU I hg hm rE (qR (aT (ha pos pins s σ H (λvs H1=>match vs with|[x]=>∃a,x= .ref a/\(∃xs,aV X.K H1 a xs)/\R (rN X.K a) H1|_=>False) I h) λus s1 ⟨vs,H1,I1,M,O⟩=>?_) hs rfl));cases M with
  |nil=>exact O.elim
  | cons r n =>
    cases n with
    |cons _ _=>exact O.elim
    |nil=>
    obtain⟨a,e2,⟨xs,hq⟩,q⟩:=O;subst e2;cases r;obtain⟨its,rv,p,hz⟩:=I1.list hq;obtain⟨m,hn,_⟩:=I1.loc;refine enum_rows (h₀:={objs:= #[]}) (L:=X.env.locals) (m:=m) ⟨hn,λb o z=>?_,gE _⟩ p.isList λh' e1 e2 e3 e4 kp ne n1 Z _ _=>?_;· cases z
    refine jL e1 ?_;have I2:Inv X pins σ H1 {s1 with heap:=h'}:=I1.kept (t':=s1.toks) kp;refine⟨s1.heap.objs.size+1,[s1.heap.objs.size+1,s1.heap.objs.size],_,_,H1,rfl,I2,VY a _ _ ne,⟨⟨_,e1⟩,e2⟩,λb hb=>?_,q⟩;rcases(show b=s1.heap.objs.size+1\/b=s1.heap.objs.size by simpa using hb) with z|z
    · subst z;exact I1.qU (qQ _) (I1.hok.fresh (qQ _))
    · subst z;exact I1.qU (aW _) (I1.hok.fresh (aW _))
theorem R.Yq{K:PySem.W.Frag}{g:TG}{d:Hp->Prop}(Pv:Nat->qr->Hp->Prop)(h0:Pv 0 σ H)(hl:∀i σ H,i<=xs.length->Pv i σ H->aV K H a xs)
  (hs:∀i x σ H p,xs[i]?=some x->Pv i σ H->H p=none->g (.ref p) σ (upd H p (.tup [.int i,x])) λc H2=>tc c H2 λb H3=>if b=true then te c H3 λv H4=>∃ys,H4 acc=some (.lst ys)/\ys.length<sizeLine/\Pv (i+1) c (upd H4 acc (.lst (ys++[v]))) else Pv (i+1) c H3)
  (hd:∀σ H,Pv xs.length σ H->d H):qD (rN K a) g tc te acc d σ H:=by
 refine⟨λi m σ H=>m=xs.length-i/\i<=xs.length/\Pv i σ H,⟨xs.length,by simp,gE _,h0⟩,?_⟩;rintro i m σ H ⟨rfl,hi,p⟩;have q:=hl i σ H hi p;by_cases hlt:i<xs.length
 .refine .inr ⟨⟨xs,xs[i],q,by simp[hlt]⟩,Pv (i+1),λM H' j=>⟨xs.length-(i+1),∅,rfl,hlt,j⟩,λx H' y=>?_⟩;obtain⟨pp,y,e,hn,hy,e2⟩:=y;subst e e2;exact hs i y σ H pp (hy xs q) p hn
 .have e:i=xs.length:=∅
  subst e;exact .inl ⟨⟨xs,q,rfl⟩,hd σ H p⟩
section
variable{G:Gx}{ρ c8:Rh}{te:TE}{s:TS}{gt:TG}{E:DE}{K:PySem.W.Frag}{Θ:Bool->List PyData->Prop}{tc:TT}{mp:List (Option Nat)}
theorem Sv.SJ(h:Ev G ρ te λf x=>∃ds,x= .list ds/\∀v,sG (G.hd f (.list ds) v) ρ ds.length (λi d=>∃e,ds[i]?=some e/\d= .tuple [.int i,e]) f gt s E):Sv G ρ (qj (xx K te) gt s) E:=λnb σ H D W KK=>
 h nb σ H _ W λf v H1 x ⟨ds,ex,q⟩ s1 hv=>by
  subst ex;obtain⟨I,h0,ht,he⟩:=q v;have W1:=(W.step s1).hd hv;obtain⟨a,xs,rfl,n,hx,hd⟩:=hv.dW;have key:∀{nb J σ H},Wd (G.hd f (.list ds) (.ref a)) nb J σ H->∃xs,H a=some (.lst xs)/\af (G.S nb f) H ds xs:=λW=>by
   obtain⟨r,t,e',_,h',d'⟩:=W.jb.2.dW;cases e';exact⟨t,h',d'⟩
  refine⟨a,rfl,⟨xs, .of hx⟩,?_⟩;refine⟨λi m σ H=>m=ds.length-i/\i<=ds.length/\∃nb J,I i J/\Wd (G.hd f (.list ds) (.ref a)) nb J σ H,⟨ds.length,by simp,gE _,nb,ρ,h0,W1⟩,?_⟩;rintro i m σ H ⟨rfl,hi,nb,J,hI,W⟩;obtain⟨ys,hy,N⟩:=key W;have hl:=N.length;by_cases hlt:i<ds.length
  .refine .inr ⟨⟨ys,ys[i]'∅, .of hy,aC _⟩,λσ H=>∃nb J,I (i+1) J/\Wd (G.hd f (.list ds) (.ref a)) nb J σ H,λM H' q=>⟨ds.length-(i+1),∅,rfl,hlt,q⟩,λx H' y=>?_⟩;obtain⟨p,y,e,hn,hz,e2⟩:=y;subst e e2;have hx:=hz ys (.of hy);obtain⟨Y,L,dx⟩:=N.get (aC hlt);rw[hx] at L;cases L
   have st:Step (G.hd f (.list ds) (.ref a)).B H (upd H p (.tup [.int i,y])):= .same W.aG (dB hn);refine ht i _ J ⟨_,aC hlt,rfl⟩ hI nb σ _ _ _ (W.step st) (.tup (W.fresh hn) bx (.cons (.int _) (.cons (dx.keep st.dj) .nil))) λc g q W2=>q nb c _ _ W2 ?_;exact⟨λnb ρ σ H q W=>⟨nb,ρ,q,W⟩,λnb ρ σ H q W=>KK.nx nb ρ σ H q W.jb.1,λnb ρ σ H q W=>⟨nb,ρ,q,W⟩,λnb ρ σ f v H d q W hv=>KK.rt nb ρ σ f v H d q W.jb.1 hv,λnb ρ σ v H q W=>KK.rw nb ρ σ v H q W.jb.1⟩
  .have e:i=ds.length:=∅
   subst e;exact .inl ⟨⟨ys, .of hy,∅⟩,KK.nx nb J σ H (he J hI) W.jb.1⟩
theorem az.RX(hm:(mp.filterMap id).Nodup)(u:mY mp ρ=c8)(h:Ev G ρ t0 λfi x=>∃es,x= .list es/\es.length<=10000/\∀v,jA (G.hd fi (.list es) v) c8 es.length (λi d=>∃e,es[i]?=some e/\d= .tuple [.int i,e]) fi gt tc te Θ):az G ρ (mF (xx K t0) gt tc te mp) Θ:=λnb σ H Q W z=>
 h nb σ H _ W λfi v H1 x ⟨es,ex,hn,q⟩ s1 hv=>by
  subst ex;obtain⟨fl,I,h0,ht,he⟩:=q v;have W0:=(W.step s1).hd hv;obtain⟨a,xs,rfl,n,hx,hd⟩:=hv.dW;refine⟨a,rfl,⟨xs, .of hx⟩,λacc k=>?_⟩;have C:Wd (G.hd fi (.list es) (.ref a)) nb c8 (L2.iA mp σ) H1:=by rw[<-u];exact W0.iA hm
  have W1:=C.more k (o:= .lst []);have hN:=NB.new s1.2 k;have hno:=B4 C k;have A:Step G.B H1 (upd H1 acc (.lst [])):= .same s1.2 (dB k);have D:NB G.B a:=jl λz=>n (.inr (.inr (.inl z)));refine R.Yq (xs:=xs) (λi σ H=>∃ds ys,Wd (G.hd fi (.list es) (.ref a)) (λx=>nb x\/x=acc) c8 σ H/\Step G.B H1 H/\H acc=some (.lst ys)/\af (G.S (λx=>nb x\/x=acc) fl) H ds ys/\ds.length<=i/\I i ds/\H a=some (.lst xs)) ⟨[],[],W1,A,bx, .nil,aW _,h0,A.1 _ _ D hx⟩ ?_ ?_ ?_
  .rintro i σ H hi ⟨ds,ys,W,st,_,_,_,_,ha⟩;exact .of ha
  .rintro i x σ H p hi ⟨ds,ys,W,st,hy,l,hl,hI,ha⟩ hp;obtain⟨r,t,e',_,h',d'⟩:=W.jb.2.dW;cases e';rw[ha] at h';cases h'
   have hil:i<es.length:=by have:=(aO.mp hi).1;have:=d'.length;omega
   obtain⟨Y,L,dx⟩:=d'.get (aC hil);rw[hi] at L;cases L
   have P:Step (G.hd fi (.list es) (.ref a)).B H (upd H p (.tup [.int i,x])):= .same W.aG (dB hp);have E:acc≠p:=λz=>by subst z;rw[hp] at hy;cases hy
   have b:a≠p:=λz=>by subst z;rw[hp] at ha;cases ha
   refine zY (G:=G.hd fi (.list es) (.ref a)) hn hil (W.step P) (.inr rfl) hN hno (st.trans P) k (by rw[aH E];exact hy) (l.keep P.dj) hl (.tup (W.fresh hp) bx (.cons (.int _) (.cons (dx.keep P.dj) .nil))) (ht i _ ds ⟨_,aC hil,rfl⟩ hl hI) λM H' w t W' g L l hl' s=>⟨w,t,W',g,L,l,hl',s,g.1 _ _ D hx⟩
  .rintro σ H' ⟨ds,ys,W',st,hy,l,hl,hI,_⟩;rw[hd.length] at hl hI;exact B9 W s1 k st hy l (he ds hl hI) z
end
section
variable{G:Gx}{ρ:Rh}{Φ:Pd}{te:TE}{t:TA}{i n:Nat}{f:Bool}{ds:List PyData}{Θ:List PyData->Prop}
def Ev.tupS(h:Av G ρ t λes=>es.length<=10000/\Φ (kI es||fc (es.map (·.2))) (.tuple (es.map (·.2)))):Ev G ρ (sA t) Φ:=λnb σ H Q W z=>
 h nb σ H _ W λes vs H1 ⟨hl,p⟩ s1 O=>⟨dP (by rw[O.len];exact hl) ⋯,λa ha=>z _ _ _ _ p (s1.trans (.same (W.step s1).aG (dB ha))) (by
  cases hs:fc (es.map (·.2)) with
  |true=>rw[Jc];exact .tup ((W.step s1).fresh ha) bx ((O.all (f:=false) λz=>by cases z).jH hs)
  |false=>rw[p7];exact .tup ((W.step s1).fresh ha) bx ((O.all λz=>z).keep (bP.of (dB ha))))⟩
theorem Ev.Dx(h:Ev G ρ te λ_ x=>∃n:Int,x= .int n/\2<=n/\n<=10002/\∀r:Int,gc r->r<10^40->Φ true (.int r)):Ev G ρ (iS EO [] E0 (bV te cG)) Φ:=λnb σ H Q W z=>
 h nb σ H _ W λf v H1 d ⟨n,e,h1,h2,p⟩ s1 hv=>by
  subst e;exact⟨n,by rw[hv.cC];rfl,h1,h2,λr H' A M U w=>z true _ H' _ (p r (ZY M w) ∅) (s1.trans (.same (W.step s1).aG A)) (.int r)⟩
theorem Ev.str{x:Str}(h:Φ true (.str x)):Ev G ρ (tC (.str x)) Φ:=λnb σ H Q W z=>z true _ H _ h (.refl W.aG) (by unfold ai;rfl)
end
theorem Eu.fin{b L lt t:Int}(h:Eu p b L lt 0 t)(hp:gc p)(hb:b%p≠0):∃k,lt%p*b=1+p*k:=by
 obtain⟨g1,g2⟩:=h.dv L (Int.dvd_refl L) (Int.dvd_zero L);have m1:=iw b (show p≠0 by have:=hp.1;omega);have m2:=g7 b (show 0<p by have:=hp.1;omega);have hL:L=1:=by
  rcases hp.2 L h.l0 g1 with e|e
  .exact e
  .exfalso;rw[e] at g2;have:=uj ∅ g2;omega
 obtain⟨k,hk⟩:=h.lc;have e:=jY lt p;refine⟨-k-lt/p*b,?_⟩;have e2:lt%p=lt-p*(lt/p):=∅
 rw[e2,xt,kG,xp,nF];omega
noncomputable def sol(p b a:Int):Int:=open Classical in if h:∃x,0<=x/\x<p/\∃k,b*x-a=p*k then o4 h else 0
theorem Gg{b a:Int}(hp:gc p)(hb:b%p≠0)(h0:0<=x)(h1:x<p)(hx:∃k,b*x-a=p*k):x=sol p b a:=by
 have ex:∃x,0<=x/\x<p/\∃k,b*x-a=p*k:=⟨x,h0,h1,hx⟩;unfold sol;rw[dif_pos ex];obtain⟨T,g1,u,hk'⟩:=N6 ex;generalize o4 ex=y at*;obtain⟨k,hk⟩:=hx;refine Wl h0 h1 T g1 (Zi hp (a:=b) ⟨k-u,?_⟩ λz=>hb (rD z));rw[kG,kG];omega
theorem SO{b a:Int}(hp:0<p):0<=sol p b a/\sol p b a<p:=by
 unfold sol;split
 .rename_i h
  obtain⟨T,g1,_⟩:=N6 h;exact⟨T,g1⟩
 .omega
noncomputable def eG(wd:Wo)(prs:aj):aj:=prs.filter λpr=>wd[pr.1.toNat]?==some none
def KJ:eG wd (prs++[pr])=if wd[pr.1.toNat]?=some none then eG wd prs++[pr] else eG wd prs:=by
 unfold eG;rw[jx];by_cases c:wd[pr.1.toNat]?=some none;·rw[if_pos c,qC (by rw[c];rfl)];rfl
 .rw[if_neg c,qy (by simpa using c)];simp
noncomputable def fE(p:Int)(prs:aj)(rest:Int)(wd:Wo):Option (Int×Int):=match eG wd prs with
 |[pr]=>some (pr.1,sol p pr.2 (rest-aQ prs wd%p))
 |_=>none
noncomputable def LJ:Option (Int×Int)->PyData
 |none=> .none
 |some pr=>Ap pr
noncomputable def fU(wd:Wo):List Int:=((aL wd.length).filter λi=>wd[i]?==some none).map λ(i:Nat)=>(i:Int)
def Hu(p:Int)(prs:aj):Prop:=∀pr∈prs,pr.2%p≠0
def jW(p:Int)(cs:List aj)(m:Nat):Prop:=gc p/\p<10^40/\cs.length<=1000/\∀prs∈cs,prs.length<=1000/\vq prs m/\Hu p prs
theorem jW.at{c:Int}(h:jW p cs m)(h0:0<=c)(h1:c<cs.length):∃prs,cs[c.toNat]?=some prs/\cs.getD c.toNat []=prs/\prs.length<=1000/\vq prs m/\Hu p prs:=by
 have hc:c.toNat<cs.length:=∅
 refine⟨cs[c.toNat],aC hc,?_,h.2.2.2 _ (cU hc)⟩;rw[br,aC hc];rfl
noncomputable abbrev dN:=Int×Int×Int
noncomputable abbrev zB(m:dN):PyData:= .tuple [.int m.1, .int m.2.1, .int m.2.2]
noncomputable def uR(p:Int)(cs:List aj)(wd:Wo)(m:dN):PyData:=
 if m.2.1<0\/(cs.length:Int)<=m.2.1 then .str "check" else match fE p (cs.getD m.2.1.toNat []) 0 wd with
 |none=> .str "place"
 |some (a,x)=>if a≠m.1 then .str "place" else if x≠m.2.2 then .str "letter" else .none
noncomputable def Aj(wd:Wo)(ms:List dN):Wo:=ms.foldl (λw m=>w.set m.1.toNat (some m.2.2)) wd
def putAll_snoc{ms:List dN}{m:dN}:Aj wd (ms++[m])=(Aj wd ms).set m.1.toNat (some m.2.2):=by
 unfold Aj;rw[sf];rfl
def DJ(p:Int)(cs:List aj)(wd:Wo)(ms:List dN)(j:Nat):Prop:=∃m,ms[j]?=some m/\uR p cs (Aj wd (ms.take j)) m= .none
noncomputable def outs(p:Int)(cs:List aj)(w:Wo):List Nat:=(aL cs.length).filter λc=>(fE p (cs.getD c []) 0 w).isSome
def zJ(h:pr∈eG wd prs):pr∈prs/\wd[pr.1.toNat]?=some none:=by
 unfold eG at h;have:=fG.mp h;exact⟨this.1,by simpa using this.2⟩
def CJ{rest:Int}{a:Int}(hp:0<p)(h:fE p prs rest wd=some (a,x)):∃pr∈prs,pr.1=a/\wd[a.toNat]?=some none/\0<=x/\x<p:=by
 unfold fE at h;split at h
 .rename_i pr e
  cases h;have:=zJ (wd:=wd) (prs:=prs) (pr:=pr) (by rw[e];simp);exact⟨pr,this.1,rfl,this.2,SO hp⟩
 .cases h
def Zb{k:Int}(h0:0<=k)(h1:k<n):dS n k=some k.toNat:=by
 unfold dS;rw[if_pos h0,if_pos h1]
def oB{ms:List dN}:(Aj wd ms).length=wd.length:=by
 unfold Aj;induction ms generalizing wd with
 |nil=>rfl
 |cons m r ih=>rw[Iz,ih,fR]
def dI{K:PySem.W.Frag}{l:eB}(B:X.K=K)(hl:PE X l tl):PI X tg l (ua K tl):=by subst B;exact XF hl
def ZW{n:Str}{l:List (Str×eS)}:(ed n l=some .cell\/ed n l=some .free)->
    (List.lookup n (l.map λx => match x with | (n, k) => if (k == NameKind.free && env.scope.kind == ScopeKind.function && env.kindOf n == some NameKind.cell) = true then (n, NameKind.cell) else (n, k)) = some .cell \/
     ed n (l.map λx=>match x with|(n,k)=>if(k==cm && env.scope.kind==mI && env.kindOf n==some fv)=true then(n,fv) else(n,k))=some .free):=by
  induction l with
  |nil=>intro h;simpa using h
  | cons a r ih =>
    obtain⟨m,k⟩:=a;intro h;rw[bG];by_cases c:n=m
    · subst c
      rw[Dy] at h;dsimp only;split;· rw[Dy];exact .inl rfl
      · rw[Dy];exact h
    · have hb:(n==m)=false:=by simpa using c
      have e1:ed n ((m,k)::r)=ed n r:=by rw[fY,hb]
      rw[e1] at h;dsimp only;split;· rw[fY,hb];exact ih h
      · rw[fY,hb];exact ih h
def cz.rel{sx:hX}(h:cz sx NX scope N mp):cz (relabel sx env) NX scope N mp:=
 ⟨h.kind,h.cell,h.names,λy hy e=>ZW (h.free y hy e),h.len,h.look⟩
def Vy{s₀:aw}{H₀:Hp}{t l:eB}{E:List eB}{d:hX}{j:List Str}{F:TI}{g:TG}
  (ok:cz scope N d j mp) (hi:PI (gD X scope C N s₀ H₀ fp) tg l F)
  (hb:∀e b a c,PG (gD (gD X scope C N s₀ H₀ fp) d e j b a c) tg g/\sM (gD (gD X scope C N s₀ H₀ fp) d e j b a c) E tc/\PE (gD (gD X scope C N s₀ H₀ fp) d e j b a c) t te) (hc:X.calm=true:=by rfl)
  (hs:∀x,fq l (gD X scope C N s₀ H₀ fp).env x=pure x:=by intro _;rfl):PE (gD X scope C N s₀ H₀ fp) (.ListComp t [⟨tg,l,E,0⟩] d pos) (mF F g tc te mp):=
 dY (X:=gD X scope C N s₀ H₀ fp) (cz.rel ok) hi hb hc hs
def lV(p:Int)(cs:List aj)(wd:Wo)(ms:List dN):Prop:=∀j<ms.length,DJ p cs wd ms j
theorem T3{ms:List dN}(h:(Aj wd ms)[i]?=some none):wd[i]?=some none:=by
  induction ms generalizing wd with
  |nil=>exact h
  | cons m r ih =>
    have h2:=ih (wd:=wd.set m.1.toNat (some m.2.2)) h;by_cases c:m.1.toNat=i
    · subst c
      by_cases hl:m.1.toNat<wd.length;· rw[cI hl] at h2;cases h2
      · rw[jT (by rw[fR];omega)] at h2;cases h2
    · rwa[bI c] at h2
theorem Co{m:dN}(h:uR p cs wd m= .none):0<=m.2.1/\m.2.1<cs.length/\fE p (cs.getD m.2.1.toNat []) 0 wd=some (m.1,m.2.2):=by
 unfold uR at h;split at h;·cases h
 rename_i c
 split at h;·cases h
 rename_i a x e
 split at h;·cases h
 rename_i d
 split at h;·cases h
 rename_i c4
 have d:a=m.1:=∅
 have c4:x=m.2.2:=∅
 subst d c4;exact⟨∅,∅,e⟩
def Ku{a:Int}(h:fE p prs 0 wd=some (a,x)):∃pr,eG wd prs=[pr]/\pr.1=a/\x=sol p pr.2 (0-aQ prs wd%p):=by
 unfold fE at h;split at h
 .rename_i pr e
  cases h;exact⟨pr,e,rfl,rfl⟩
 .cases h
def aa3(h:eG wd prs=[pr]):(fE p prs 0 wd).isSome=true:=by
 unfold fE;rw[h]<;>rfl
def Ya{w:Wo}(h:outs p cs w=[]){c:Nat}(hc:c<cs.length):(fE p (cs.getD c []) 0 w).isSome=false:=by
 unfold outs at h;rw[Je] at h;have:=h c (iQ.mpr hc);simpa using this
theorem ZJ{a c:Int}(h0:0<=c)(h1:c<cs.length)(h:fE p (cs.getD c.toNat []) 0 wd=some (a,x)):uR p cs wd (a,c,x)= .none:=by
 unfold uR;rw[if_neg (by show¬(c<0\/(cs.length:Int)<=c);omega)];show(match fE p (cs.getD c.toNat []) 0 wd with|none=>_|some (r,x')=>_)=_;rw[h];simp
noncomputable def cnt(wd:Wo):Nat:=wd.countP λo=>o.isNone
theorem QC:∀{wd:Wo} {k:Nat} {x:Int},wd[k]?=some none->cnt (wd.set k (some x))+1=cnt wd
  |[],k,x,h=>by simp at h
  | o :: wd, 0, x, h => by
    simp at h;subst h;simp[cnt]
  | o :: wd, k + 1, x, h => by
    have ih:=QC (wd:=wd) (k:=k) (x:=x) (by simpa using h);unfold cnt at ih⊢;rw[List.set_cons_succ,pa,pa];omega
theorem Qm{p:Int}{cs:List aj}{wd:Wo}{ms:List dN}(hp:0<p)(h1:lV p cs wd ms):∀j,j<=ms.length->cnt (Aj wd (ms.take j))+j=cnt wd
  |0,_=>by simp[Aj]
  | j + 1, hj => by
    have ih:=Qm hp h1 j ∅;obtain⟨m,e1,e2⟩:=h1 j ∅;rw[Ai e1,putAll_snoc];obtain⟨c0,c1,e3⟩:=Co e2;obtain⟨pr,g1,g2,g3,_⟩:=CJ hp e3;have:=QC (x:=m.2.2) g3;omega
def HR(wd:Wo):cnt wd<=wd.length:=List.countP_le_length
def Agree(os:List Int)(wd:Wo):Prop:=∀(i:Nat) (x:Int),wd[i]?=some (some x)->os[i]?=some x
theorem Q6{os:List Int}{wd:Wo}(hl:wd.length=os.length)(ha:Agree os wd):∀{prs:aj},(∀pr∈prs,0<=pr.1/\pr.1<wd.length)->
    aQ prs (os.map some)=aQ prs wd+((eG wd prs).map λq=>q.2*os.getD q.1.toNat 0).sum
  |[],_=>by simp[aQ,eG]
  | pr :: prs, h => by
    have ih:=Q6 hl ha (prs:=prs) λq hq=>h q (cM _ hq);obtain⟨h0,h1⟩:=h pr (cN ..);have k1:pr.1.toNat<wd.length:=∅
    have k2:pr.1.toNat<os.length:=∅
    rw[pW,pW,ih,sj (w:=os) (aC k2)];have b:os.getD pr.1.toNat 0=os[pr.1.toNat]:=by rw[br,aC k2];rfl
    cases e:wd[pr.1.toNat] with
    | none =>
      have e2:wd[pr.1.toNat]?=some none:=by rw[aC k1,e]
      have e3:eG wd (pr::prs)=pr::eG wd prs:=by unfold eG;rw[qC (by rw[e2];rfl)]
      have e4:gY wd pr=0:=by unfold gY;rw[e2]
      rw[e3,bG,lB,e4,b];omega
    | some x =>
      have e2:wd[pr.1.toNat]?=some (some x):=by rw[aC k1,e]
      have e3:eG wd (pr::prs)=eG wd prs:=by unfold eG;rw[qy (by rw[e2];simp)]
      have e4:gY wd pr=pr.2*x:=by unfold gY;rw[e2]
      have e5:=ha _ _ e2;rw[aC k2] at e5;cases e5;rw[e3,e4];omega
theorem Pk{p:Int}{cs:List aj}{wd:Wo}{ms:List dN}{os:List Int}(hN:jW p cs wd.length)(hl:wd.length=os.length)(B:∀x∈os,0<=x/\x<p)(ht:∀prs∈cs,aQ prs (os.map some)%p=0)(ha:Agree os wd)(h1:lV p cs wd ms):
    ∀j,j<=ms.length->Agree os (Aj wd (ms.take j))
  |0,_=>by simpa[Aj] using ha
  | j + 1, hj => by
    have ih:=Pk hN hl B ht ha h1 j ∅;obtain⟨m,e1,e2⟩:=h1 j ∅;rw[Ai e1,putAll_snoc];obtain⟨c0,c1,e3⟩:=Co e2;obtain⟨prs,g1,g2,g3,f,e⟩:=hN.at c0 c1;rw[g2] at e3;obtain⟨pr,e4,e5,d⟩:=Ku e3;have eY:prs∈cs:=bC g1;have C:(Aj wd (ms.take j)).length=wd.length:=oB;have hd:=Q6 (by rw[C];exact hl) ih (prs:=prs) λq hq=>by rw[C];exact⟨(f q hq).1,(f q hq).2.1⟩
    have a:pr∈prs:=(zJ (wd:=Aj wd (ms.take j)) (by rw[e4];simp)).1;have k2:pr.1.toNat<os.length:=by have:=f pr a;omega
    rw[e4] at hd;simp only[bG,nR,lB,List.sum_nil,rW] at hd;have b:os.getD pr.1.toNat 0=os[pr.1.toNat]:=by rw[br,aC k2];rfl
    rw[b] at hd;have ho:=B _ (cU k2);have hz:=ht prs eY;have p2:=hN.1.1;have es:os[pr.1.toNat]=sol p pr.2 (0-aQ prs (Aj wd (ms.take j))%p):=by
      refine Gg hN.1 (e pr a) ho.1 ho.2 ?_;have d1:=jY (aQ prs (Aj wd (ms.take j))) p;have d2:=jY (aQ prs (os.map some)) p;generalize aQ prs (Aj wd (ms.take j))=S at*;generalize aQ prs (os.map some)=T at*;generalize os[pr.1.toNat]=o at*;refine⟨T/p-S/p,?_⟩;rw[kG];omega
    intro i x hx;by_cases c:m.1.toNat=i
    · subst c
      have hk:m.1.toNat<(Aj wd (ms.take j)).length:=by
        rw[C,hl,<-e5];exact k2
      rw[cI hk] at hx;cases hx;rw[<-e5,aC k2,es,d]
    · rw[bI c] at hx
      exact ih i x hx
section
variable{G:Gx}{ρ:Rh}{Φ:Pd}{ta tb te:TE}{E:DE}{K:PySem.W.Frag}
end
noncomputable def Bv(es:List Fd):Bool:=es.all λe=>e.1||jt e.2
section
variable{G:Gx}{ρ:Rh}{Φ:Pd}{t:TA}{te:TE}
theorem kZ.P5{nb:aF->Prop}{H:Hp}:∀{es:List Fd} {vs:List V} {f:Bool},kZ G nb H es vs->(f=true->Bv es=true)->af (G.S nb f) H (es.map (·.2)) vs
  |[],_,_,h,_=>by unfold kZ at h;subst h;exact .nil
  | e :: es, _, f, h, hf => by
    obtain⟨v,ws,rfl,h1,h2⟩:=h;have Y:f=true->(e.1||jt e.2)=true/\Bv es=true:=λz=>by
      have:=hf z;unfold Bv at this;rw[pA,fQ] at this;exact this
    refine .cons ?_ (h2.P5 λz=>(Y z).2);cases hs:jt e.2 with
    |true=>exact h1.jH hs
    |false=>exact h1.av (c7 (λz=>by have:=(Y z).1;rw[hs,p7] at this;exact this) λ_ z=>z)
def Ev.Iy(h:Av G ρ t λes=>es.length<=10000/\Φ (Bv es) (.tuple (es.map (·.2)))):Ev G ρ (sA t) Φ:=λnb σ H Q W z=>
 h nb σ H _ W λes vs H1 ⟨hl,p⟩ s1 O=>⟨dP (by rw[O.len];exact hl) ⋯,λa ha=>z _ _ _ _ p (s1.trans (.same (W.step s1).aG (dB ha)))
  (.tup ((W.step s1).fresh ha) bx ((O.P5 λz=>z).keep (bP.of (dB ha))))⟩
end
def Q4:R2:=λx y H Q=>∃a b:Bool,x= .bl a/\y= .bl b/\Q (.bl (!(a==b))) H
def YF:dZ X (dc .IsNot) Q4:=by
 intro pins s σ H x y v u Q I rx ry h;obtain⟨a,b,rfl,rfl,q⟩:=h;cases (show v=fb a from rx);cases (show u=fb b from ry);have:dc .IsNot (fb a) (fb b)=pure (fb (!(a==b))):=by cases a<;>cases b<;>rfl
 rw[this];exact ax ⟨.bl _,H,I,rfl,q⟩
def Ev.adw{ta:TE}{b:Bool}(h:Ev G ρ ta λ_ x=>∃a,x= .bool a/\Φ true (.bool (!(a==b)))):Ev G ρ (cQ Q4 ta (tC (.bl b))) Φ:=λnb σ H Q W z=>
 h nb σ H _ W λf v H1 d ⟨a,e,q⟩ s1 hv=>by
  subst e;unfold ai at hv;subst hv;exact⟨a,b,rfl,rfl,z true _ H1 _ q s1 (.bl _)⟩
noncomputable abbrev cA(r:List Int):PyData:= .list (r.map .int)
theorem Vb{K:PySem.W.Frag}{g:TG}{tb:TS}(Pv:Nat->qr->Hp->Prop)(h0:Pv 0 σ H)(hl:∀i σ H,i<=xs.length->Pv i σ H->aV K H a xs)
  (hs:∀i x σ H p,xs[i]?=some x->Pv i σ H->H p=none->g (.ref p) σ (upd H p (.tup [.int i,x])) λc H2=>tb {D with nx:=Pv (i+1),ct:=Pv (i+1),bk:=D.nx} c H2) (hd:∀σ H,Pv xs.length σ H->D.nx σ H):
  ∃W:Nat->Nat->qr->Hp->Prop,(∃m,W 0 m σ H)/\∀i m σ H,W i m σ H->
   ((rN K a).stop i H/\D.nx σ H)\/((rN K a).go i H/\∃N:qr->Hp->Prop,(∀M H',N M H'->∃O,O<m/\W (i+1) O M H')/\∀x H',(rN K a).nN i H x H'->g x σ H' λc H2=>tb {D with nx:=N,ct:=N,bk:=D.nx} c H2):=by
 refine⟨λi m σ H=>m=xs.length-i/\i<=xs.length/\Pv i σ H,⟨xs.length,by simp,gE _,h0⟩,?_⟩;rintro i m σ H ⟨rfl,hi,p⟩;have q:=hl i σ H hi p;by_cases hlt:i<xs.length
 .refine .inr ⟨⟨xs,xs[i],q,by simp[hlt]⟩,Pv (i+1),λM H' j=>⟨xs.length-(i+1),∅,rfl,hlt,j⟩,λx H' y=>?_⟩;obtain⟨pp,y,e,hn,hy,e2⟩:=y;subst e e2;exact hs i y σ H pp (hy xs q) p hn
 .have e:i=xs.length:=∅
  subst e;exact .inl ⟨⟨xs,q,rfl⟩,hd σ H p⟩
structure lP(H0 H:Hp)(L:aF)(as:List aF)(rows:List (List Int)):Prop where
 same:∀a o,H0 a=some o->H a=some o
 hL:H L=some (.lst (as.map V.ref))
 fL:H0 L=none
 fa:∀c∈as,H0 c=none
 nL:L∉as
 nd:as.Nodup
 len:as.length=rows.length
 row:∀(i:Nat) c r,as[i]?=some c->rows[i]?=some r->H c=some (.lst (r.map V.int))
section
variable{H0 H:Hp}{L c q:aF}{as:List aF}{rows:List (List Int)}{k:Nat}{r:List Int}{o:HO}{x:Int}
def lP.new(g:lP H0 H L as rows)(hq:H q=none):lP H0 (upd H q o) L as rows:=by
 refine⟨λa o e=>?_,?_,g.fL,g.fa,g.nL,g.nd,g.len,λi c r e1 e2=>?_⟩
 .have h:=g.same a o e;rw[aH (λz=>by rw[z,hq] at h;cases h)];exact h
 .rw[aH (λz=>by have h:=g.hL;rw[z,hq] at h;cases h)];exact g.hL
 .have h:=g.row i c r e1 e2;rw[aH (λz=>by rw[z,hq] at h;cases h)];exact h
def lP.app(g:lP H0 H L as rows)(hc:as[k]?=some c)(hr:rows[k]?=some r):lP H0 (upd H c (.lst (r.map V.int++[.int x]))) L as (rows.set k (r++[x])):=by
 have hm:c∈as:=bC hc;have hk:k<rows.length:=(aO.mp hr).1;refine⟨λa o e=>?_,?_,g.fL,g.fa,g.nL,g.nd,by rw[fR];exact g.len,λi d s e1 e2=>?_⟩;·rw[aH (λz=>by have h:=g.fa c hm;rw[<-z,e] at h;cases h)];exact g.same a o e
 .rw[aH (λz=>g.nL (by rw[z];exact hm))];exact g.hL
 .by_cases f:k=i
  .subst f;rw[hc] at e1;cases e1
   rw[cI hk] at e2;cases e2
   rw[bx,bS];rfl
  .rw[bI f] at e2;have b:d≠c:=λz=>by
    subst z;obtain⟨l1,e3⟩:=aO.mp hc;obtain⟨l2,e4⟩:=aO.mp e1;exact f ((Ji g.nd).mp (e3.trans e4.symm))
   rw[aH b];exact g.row i d s e1 e2
end
noncomputable def nK(rows:List (List Int))(c:Int)(pr:Int×Int):List (List Int):=rows.set pr.1.toNat (rows.getD pr.1.toNat []++[c])
noncomputable def iT(rows:List (List Int))(c:Int)(prs:aj):List (List Int):=prs.foldl (λg pr=>nK g c pr) rows
noncomputable def fO(n:Nat)(cs:List aj)(i:Nat):List (List Int):=(aL i).foldl (λg (c:Nat)=>iT g c (cs.getD c [])) (ar n [])
def W9{rows:List (List Int)}{c:Int}:iT rows c (prs++[pr])=nK (iT rows c prs) c pr:=by unfold iT;rw[sf];rfl
def La{rows:List (List Int)}{c:Int}:(iT rows c prs).length=rows.length:=by
 unfold iT;induction prs generalizing rows with
 |nil=>rfl
 |cons p r ih=>rw[Iz,ih];unfold nK;rw[fR]
def GU(h:cs[i]?=some prs):fO n cs (i+1)=iT (fO n cs i) i prs:=by
 unfold fO;rw[lI,sf];show iT _ _ (cs.getD i [])=_;rw[br,h];rfl
def AV:(fO n cs i).length=n:=by
 unfold fO;induction i with
 |zero=>simp
 |succ i ih=>rw[lI,sf];show(iT _ _ _).length=n;rw[La];exact ih
def Short(rows:List (List Int))(m:Nat):Prop:=∀r∈rows,r.length<=m
def wC:Sp:=λvs H Q _=>∃(nb:aF->Prop) (p n:Int) (cs:List aj) (v:V),vs=[v]/\kh nb H/\ai nb H (bR p n cs) v/\0<=n/\n<=1000/\(∀prs∈cs,∀pr∈prs,0<=pr.1/\pr.1<n)/\
 (∀i m:Nat,∀prs,cs[i]?=some prs->Short (iT (fO n.toNat cs i) i (prs.take m)) 10000)/\
 ∀(L:aF) (as:List aF) (H':Hp),lP H H' L as (fO n.toNat cs cs.length)->Q (.ref L) H'
theorem FV{K:PySem.W.Frag}{v:V}(h:wC [v] H D.rt E0):
  lW (ve 1 (mF (wV (bV (cQ (bJ K) (bZ 0) (tC (.int 1))) cG)) (fB 0) sV (qt cG) [none]))
   (lW (qj (xx K (cQ (bJ K) (bZ 0) (tC (.int 2)))) (qM K 2 (mV (fB 2) (mV (fB 3) tW)))
    (qj (ua K (bZ 3)) (qM K 2 (mV (fB 4) (mV (fB 5) tW))) (p9 (mT K "list" C3 (cQ (bO K) (bZ 1) (bZ 4)) (bV (bZ 2) cG)))))
    (t6 (bZ 1))) D [some v,none,none,none,none,none] H:=by
 obtain⟨nb,p,n,cs,P,e,C,hv,n0,n1,hpl,f,q⟩:=h;cases e;obtain⟨tp,xs3,rfl,ntp,y,I⟩:=hv.ofT;unfold af at I;obtain⟨vp,M,rfl,_,I⟩:=I;unfold af at I;obtain⟨vn,U,rfl,hvn,I⟩:=I;unfold af at I;obtain⟨vL,w,rfl,UY,I⟩:=I;unfold af at I;subst I;have hvn:=hvn.cC;subst hvn;obtain⟨X,ys,rfl,nNL,Q,F⟩:=UY.dW;have hyl:=F.length;rw[ao] at hyl;refine⟨.ref tp,rfl,tp,_,1, .int n,rfl,rfl, .of y,rfl,n,rfl,∅,∅,λacc k=>?_⟩;refine R.Em (λj σ H1=>∃as,as.length=j/\lP H H1 acc as (ar j [])) ?_ ?_ ?_
 .refine⟨[],rfl,λa o e=>?_,bx,k,λ_ z=>(by cases z),by simp,zd,rfl,λi c r e=>by simp at e⟩;rw[aH (λz=>by rw[z,k] at e;cases e)];exact e
 .rintro j σ H1 hj ⟨as,hal,g⟩;refine⟨⋯,λO l=>?_⟩;have J:O≠acc:=λz=>by have h:=g.hL;rw[<-z,l] at h;cases h
  have T:O∉as:=λz=>by
   obtain⟨i,hi⟩:=ic z;have h:=g.row i O [] hi (by rw[gf,if_pos (by have:=(aO.mp hi).1;omega)]);rw[l] at h;cases h
  have WJ:H O=none:=by
   cases e:H O with
   |none=>rfl
   |some o=>have h:=g.same O o e;rw[l] at h;cases h
  refine⟨as.map V.ref,by rw[aH (bH J)];exact g.hL,by rw[ao];exact eK (show as.length<10000 by omega) ⋯,as++[O],by simp[hal],λa o e=>?_,?_,g.fL,λc hc=>?_,?_,?_,by simp[hal],λi c r e1 e2=>?_⟩
  .have h:=g.same a o e;rw[aH (λz=>by rw[z,k] at e;cases e),aH (λz=>by rw[z,l] at h;cases h)];exact h
  .rw[bx,bS];rfl
  .rcases dM.mp hc with z|z
   .exact g.fa c z
   .rw[aZ.mp z];exact WJ
  .intro z;rcases dM.mp z with z|z
   .exact g.nL z
   .exact J (aZ.mp z).symm
  .rw[l9];exact⟨g.nd,by simp,λa ha b hb z=>by rw[aZ.mp hb] at z;exact T (z▸ha)⟩
  .rw[gf] at e2;split at e2
   .cases e2;by_cases hi:i<as.length
    .rw[jj hi] at e1;have hm:=bC e1;have h:=g.row i c [] e1 (by rw[gf,if_pos ∅]);rw[aH (λz=>g.nL (by rw[<-z];exact hm)),aH (λz=>T (by rw[<-z];exact hm))];exact h
    .have:i=as.length:=∅
     subst this;rw[jr (aW _),vk] at e1;cases e1;rw[aH J,bx];rfl
   .cases e2
 rintro σ1 H1 ⟨as,hal,g⟩;refine⟨.ref tp,rfl,tp,_,2, .ref X,rfl,rfl, .of (g.same _ _ y),rfl,X,rfl,⟨ys, .of (g.same _ _ Q)⟩,?_⟩;refine Vb (xs:=ys) (λi σ H2=>∃B u N Z:Option V,σ=[some (.ref tp),some (.ref acc),B,u,N,Z]/\lP H H2 acc as (fO n.toNat cs i)) ⟨_,_,_,_,rfl,g⟩ ?_ ?_ ?_
 .rintro i σ H2 hi ⟨_,_,_,_,_,g2⟩;exact .of (g2.same _ _ Q)
 .rintro i x σ H2 pp hx ⟨B,u,N,Z,rfl,g2⟩ hpp;have hil:i<cs.length:=by have:=(aO.mp hx).1;omega
  obtain⟨prs,S⟩:∃prs,cs[i]?=some prs:=⟨_,aC hil⟩;obtain⟨Y,e1,e2⟩:=F.get (i:=i) (d:=cy prs) (by rw[bw,S];rfl);rw[hx] at e1;cases e1
  obtain⟨A,zs,rfl,nPL,L,E⟩:=e2.dW;have OY:=E.length;rw[ao] at OY;have g3:=g2.new (o:= .tup [.int i, .ref A]) hpp;refine⟨pp,[.int i, .ref A],rfl, .of bx,rfl, .int i,[.ref A],rfl, .ref A,[],rfl,rfl,?_⟩;refine⟨.ref A,rfl,A,rfl,⟨zs, .of (g3.same _ _ L)⟩,?_⟩;refine JO (xs:=zs) (λm σ H4=>∃N Z:Option V,σ=[some (.ref tp),some (.ref acc),some (.int i),some (.ref A),N,Z]/\lP H H4 acc as (iT (fO n.toNat cs i) i (prs.take m))) ⟨_,_,rfl,by simpa[iT] using g3⟩ ?_ ?_ ?_
  .rintro m σ H4 hm ⟨_,_,_,g4⟩;exact .of (g4.same _ _ L)
  .rintro m z σ H4 hz ⟨N,Z,rfl,g4⟩;have hml:m<prs.length:=by have:=(aO.mp hz).1;omega
   obtain⟨pr,G⟩:∃pr,prs[m]?=some pr:=⟨_,aC hml⟩;obtain⟨z',e3,e4⟩:=E.get (i:=m) (d:=Ap pr) (by rw[bw,G];rfl);rw[hz] at e3;cases e3
   obtain⟨t,rfl,nt,ht⟩:=Qy e4;obtain⟨k0,k1⟩:=hpl prs (bC S) pr (bC G);have hrl:(iT (fO n.toNat cs i) (i:Int) (prs.take m)).length=n.toNat:=by rw[La,AV]
   have ahr:=g4.len;have hk:pr.1.toNat<as.length:=∅
   have s:pr.1.toNat<(iT (fO n.toNat cs i) (i:Int) (prs.take m)).length:=∅
   obtain⟨c,hc⟩:∃c,as[pr.1.toNat]?=some c:=⟨_,aC hk⟩;obtain⟨r,hr⟩:∃r,(iT (fO n.toNat cs i) (i:Int) (prs.take m))[pr.1.toNat]?=some r:=⟨_,aC s⟩;have hcl:=g4.row _ _ _ hc hr;have hrs:=f i m prs S r (bC hr);refine⟨t,_,rfl, .of (g4.same _ _ ht),rfl,_,_,rfl,_,_,rfl,rfl,?_⟩;refine⟨.ref acc,rfl, .int pr.1,rfl,acc,as.map V.ref,pr.1, .ref c,rfl,rfl, .of g4.hL,eu k0 (by rw[bw,hc];rfl), .inl ⟨rfl,_,aV.of hcl⟩, .int i,rfl,c,r.map V.int, .int i,rfl,rfl,hcl,by rw[ao];exact BI hrs ⋯,_,_,rfl,?_⟩;rw[Ai G,W9];unfold nK;rw[br,hr];exact g4.app hc hr
  .rintro σ H4 ⟨N,Z,rfl,g4⟩;rw[OY,c6] at g4;refine⟨_,_,_,_,rfl,?_⟩;rw[GU S];exact g4
 .rintro σ H2 ⟨B,u,N,Z,rfl,g2⟩;rw[hyl] at g2;exact⟨.ref acc,rfl,q acc as H2 g2⟩
theorem af.HC{S:aF->Prop}{H:Hp}:∀{ds:List PyData} {xs:List V},ds.length=xs.length->(∀(i:Nat) d x,ds[i]?=some d->xs[i]?=some x->ai S H d x)->af S H ds xs
 |[],[],_,_=> .nil
 |[],_::_,h,_=>by simp at h
 |_::_,[],h,_=>by simp at h
 |d::ds,x::xs,h,q=> .cons (q 0 d x rfl rfl) (af.HC (by simpa using h) λi d' Y e1 e2=>q (i+1) d' Y (by simpa using e1) (by simpa using e2))
section
variable{H0 H H':Hp}{L:aF}{as:List aF}{rows:List (List Int)}
def lP.isD(g:lP H0 H L as rows){S:aF->Prop}(N:∀a,S a->H0 a≠none):ai S H (.list (rows.map cA)) (.ref L):=by
 refine .lst (λz=>N L z g.fL) g.hL (af.HC (by rw[ao,ao,g.len]) λi d x e1 e2=>?_);obtain⟨r,hr,rfl⟩:=c9 e1;rw[bw] at e2;obtain⟨c,hc,rfl⟩:=kK.mp e2;exact .lst (λz=>N c z (g.fa c (bC hc))) (g.row i c r hc hr) (Br r)
end
def ON(n:Int)(cs:List aj):Prop:=0<=n/\n<=1000/\(∀prs∈cs,∀pr∈prs,0<=pr.1/\pr.1<n)/\∀i m:Nat,∀prs,cs[i]?=some prs->Short (iT (fO n.toNat cs i) i (prs.take m)) 10000
section
variable{G:Gx}{ρ:Rh}{Φ:Pd}{te:TE}{E:DE}{K:PySem.W.Frag}
def Ev.OL(h:Ev G ρ te λ_ x=>∃(p n:Int) (cs:List aj),x=bR p n cs/\ON n cs/\Φ true (.list ((fO n.toNat cs cs.length).map cA))):Ev G ρ (iS wC [] E0 (bV te cG)) Φ:=λnb σ H Q W z=>
 h nb σ H _ W λf v H1 d ⟨p,n,cs,e,⟨h1,h2,h3,h4⟩,q⟩ s1 hv=>by
  subst e;have W1:=W.step s1;refine⟨G.S nb f,p,n,cs,v,rfl,W1.ig,hv,h1,h2,h3,h4,λL as H' g=>?_⟩;exact z true _ H' _ q (s1.trans (.same W1.aG λa o e=>g.same a o e)) (g.isD λa q=>W1.ig a q)
end
theorem V9{rows:List (List Int)}{b:Nat}{c:Int}(h:Short rows b):Short (nK rows c pr) (b+1):=λr hr=>by
 unfold nK at hr;rcases nZ hr with z|z
 .have:=h r z;omega
 .subst z;rw[fk,i9];by_cases hk:pr.1.toNat<rows.length
  .have:(rows.getD pr.1.toNat []).length<=b:=by
    rw[br,aC hk];exact h _ (cU hk)
   omega
  .rw[br,jT ∅];simp
theorem DZ{c:Int}:∀{prs:aj} {rows:List (List Int)} {b:Nat},Short rows b->Short (iT rows c prs) (b+prs.length)
  |[],rows,b,h=>h
  | pr :: prs, rows, b, h => by
    have:=DZ (c:=c) (prs:=prs) (V9 (c:=c) (pr:=pr) h);show Short (iT (nK rows c pr) c prs) _;rw[eH,show b+(prs.length+1)=b+1+prs.length by omega];exact this
section
variable{κ:Type}[DecidableEq κ]
noncomputable def g9(kvs:List (κ×V))(k:κ):Option V:=(kvs.find? λc=>decide (c.1=k)).map (·.2)
noncomputable def putK(kvs:List (κ×V))(k:κ)(v:V):List (κ×V):=
 if(kvs.any λc=>decide (c.1=k))=true then kvs.map (λc=>if c.1=k then(c.1,v) else c) else kvs++[(k,v)]
noncomputable def nX(kvs:List (κ×V))(k:κ):List (κ×V):=kvs.filter λc=>decide (c.1≠k)
def GD{k:κ}:g9 ([]:List (κ×V)) k=none:=rfl
def xP{p:κ×V}{r:List (κ×V)}{k:κ}(e:p.1=k):g9 (p::r) k=some p.2:=by simp[g9,oQ,e]
def xF{p:κ×V}{r:List (κ×V)}{k:κ}(e:¬p.1=k):g9 (p::r) k=g9 r k:=by simp[g9,oQ,e]
theorem z6(k:κ):∀kvs:List (κ×V),(kvs.any λc=>decide (c.1=k))=(g9 kvs k).isSome
  |[]=>rfl
  | p :: r => by
    rw[oq];by_cases e:p.1=k;· simp only[xP e,decide_eq_true e,GY,Option.isSome_some]
    · rw[xF e,decide_eq_false e,sS];exact z6 k r
theorem P8(kvs:List (κ×V))(k:κ)(v:V):(putK kvs k v).length<=kvs.length+1:=by
 unfold putK;split;·rw[ao];omega
 .rw[fk,eH,qf];omega
def jd.uV{o:Option V}{u:Option ag}(r:jd o u):o.isSome=u.isSome:=by
  cases o with
  | none => cases u with
    |none=>rfl
    |some _=>exact(show False from r).elim
  | some _ => cases u with
    |none=>exact(show False from r).elim
    |some _=>rfl
theorem jd.getD{o:Option V}{u:Option ag}{d:V}{d':ag}(r:jd o u)(rd:RelV d d'):RelV (o.getD d) (u.getD d'):=by
  cases o with
  | none => cases u with
    |none=>exact rd
    |some _=>exact(show False from r).elim
  | some _ => cases u with
    |none=>exact(show False from r).elim
    |some _=>exact r
def KV.val{kvs:List (κ×V)}{vs:List (κ×ag)}(r:KV kvs vs)(k:κ):jd (g9 kvs k) (ma vs k):=by
  unfold KV at r;induction r with
  |nil=>exact ec
  | @cons p q ps j h t ih =>
    obtain⟨h1,h2⟩:=h;by_cases e:p.1=k
    · have e':q.1=k:=h1.symm.trans e
      have b:ma (q::j) k=some q.2:=by simp[ma,oQ,e']
      rw[xP e,b];exact h2
    · have e':¬q.1=k:=λz=>e (h1.trans z)
      have b:ma (q::j) k=ma j k:=by simp[ma,oQ,e']
      rw[xF e,b];exact ih
theorem KV.any{kvs:List (κ×V)}{vs:List (κ×ag)}(r:KV kvs vs)(k:κ):(kvs.any λc=>decide (c.1=k))=vs.any λc=>decide (c.1=k):=by
 unfold KV at r;induction r with
 |nil=>rfl
 |cons h t ih=>rw[oq,oq,ih,h.1]
def KV.repl{kvs:List (κ×V)}{vs:List (κ×ag)}(r:KV kvs vs)(k:κ){y:V}{u:ag}(d:RelV y u):
    KV (kvs.map λc=>if c.1=k then(c.1,y) else c) (vs.map λc=>if c.1=k then(c.1,u) else c):=by
  unfold KV at r⊢;induction r with
  |nil=>exact .nil
  | @cons p q ps j h t ih =>
    rw[bG,bG];refine .cons ?_ ih;obtain⟨h1,h2⟩:=h;by_cases e:p.1=k;· rw[if_pos e,if_pos (h1.symm.trans e)];exact⟨h1,d⟩
    · rw[if_neg e,if_neg (λz=>e (h1.trans z))];exact⟨h1,h2⟩
def KV.put{kvs:List (κ×V)}{vs:List (κ×ag)}(r:KV kvs vs)(k:κ){y:V}{u:ag}(d:RelV y u):KV (putK kvs k y) (yU vs k u):=by
 unfold putK yU;rw[r.any k];by_cases e:(vs.any λc=>decide (c.1=k))=true;·rw[if_pos e,if_pos e];exact r.repl k d
 .rw[if_neg e,if_neg e];exact Paired.snoc r ⟨rfl,d⟩
def KV.drop{kvs:List (κ×V)}{vs:List (κ×ag)}(r:KV kvs vs)(k:κ):KV (nX kvs k) (without vs k):=by
  unfold KV at r⊢;unfold nX without;induction r with
  |nil=>exact .nil
  | @cons p q ps j h t ih =>
    obtain⟨h1,h2⟩:=h;rw[kN,kN];by_cases e:p.1=k
    · have a:¬decide (p.1≠k)=true:=by simp[e]
      have b:¬decide (q.1≠k)=true:=by simp[h1.symm.trans e]
      rw[if_neg a,if_neg b];exact ih
    · have e':¬q.1=k:=λz=>e (h1.trans z)
      have a:decide (p.1≠k)=true:=by simp[e]
      have b:decide (q.1≠k)=true:=by simp[e']
      rw[if_pos a,if_pos b];exact .cons ⟨h1,h2⟩ ih
def KV.keys{kvs:List (κ×V)}{vs:List (κ×ag)}(r:KV kvs vs):kvs.map (·.1)=vs.map (·.1):=by
 unfold KV at r;induction r with
 |nil=>rfl
 |cons h t ih=>rw[bG,bG,ih,h.1]
theorem KV.length{kvs:List (κ×V)}{vs:List (κ×ag)}(r:KV kvs vs):kvs.length=vs.length:=Paired.length r
def Rn(kvs:List (κ×V))(k:κ):(nX kvs k).length<=kvs.length:=oN _ _
end
def nM{P:bc}{k:Key}(r:RelV (kV k) u):(eX P w).is k u=true:=by
 cases k with
 |inl i=>obtain⟨t,e⟩:=(show∃t,u=hV i t from r);subst e;exact Xj P w i t
 |inr x=>obtain⟨t,e⟩:=(show∃t,u=i4 x t from r);subst e;exact Ye P w x t
theorem N9{P:bc}{w:cx}:∀{ks:List Key} {us:List ag},Vals (ks.map kV) us->ItemsAre (eX P w) ks us
  |[],_,r=>by rw[nR] at r;cases r;exact .nil
  | k :: ks, _, r => by
    rw[bG] at r;cases r with
    |cons h t=>exact .cons (nM h) (N9 t)
abbrev KT(H:Hp):List (List Key×V)->List (List Key×aF×ag)->Prop:=Paired λp q=>p.1=q.1/\H q.2.1=some (.tup (p.1.map kV))/\RelV p.2 q.2.2
def KT.val{kvs:List (List Key×V)}{xs:List (List Key×aF×ag)}(r:KT H kvs xs)(k:List Key):jd (g9 kvs k) ((zt xs k).map (·.2)):=by
  induction r with
  |nil=>exact ec
  | @cons p q ps j h t ih =>
    obtain⟨h1,_,h2⟩:=h;by_cases e:p.1=k
    · have e':q.1=k:=h1.symm.trans e
      have b:zt (q::j) k=some q.2:=by simp[zt,oQ,e']
      rw[xP e,b];exact h2
    · have e':¬q.1=k:=λz=>e (h1.trans z)
      have b:zt (q::j) k=zt j k:=by simp[zt,oQ,e']
      rw[xF e,b];exact ih
section
variable{P:bc}{w:cx}{H:Hp}{h:eo}{a:aF}
def Lw{u:HO}(ok:ff P w H h)(e:Rd H a u):cK P w H h a u:=e.ok ok
def rH(ok:ff P w H h)(e:Rd H a (.dK kvs)):kvs.length<=sizeLine/\(a==eM)=false/\∃vs,KV kvs vs/\h.DictOf (eX P w) a vs:=
 show cK P w H h a (.dK kvs) from Lw ok e
def uv(ok:ff P w H h)(e:H a=some (.dK kvs)):kvs.length<=sizeLine/\(a==eM)=false/\∃vs,KV kvs vs/\h.DictOf (eX P w) a vs:=rH ok (.inl e)
def JR{ks:List Key}(ok:ff P w H h)(e:H a=some (.tup (ks.map kV))):(pz (eX P w)).is h ks a:=by
 obtain⟨_,its,r,o,h1,h2,n,h3⟩:=(show cK P w H h a (.tup (ks.map kV)) from ok a _ e);exact⟨o,its.toArray,n,h1,h2,h3,by simpa using N9 r⟩
def Rf{kvs:List (List Key×V)}(ok:ff P w H h)(e:Rd H a (.dT kvs)):kvs.length<=sizeLine/\(a==eM)=false/\
    ∃xs,KT H kvs xs/\h.DictOfH (pz (eX P w)) a xs:=by
  obtain⟨z,y,xs,r,o,es,ep,h1,h2,h3,h4,h5⟩:=(show cK P w H h a (.dT kvs) from Lw ok e);refine⟨z,y,xs,r,o,es,ep,h1,h2,h3,h4,λx hx=>?_,h5⟩;have all:∀{l:List (List Key×V)} {m:List (List Key×aF×ag)},KT H l m->∀x∈m,(pz (eX P w)).is h x.1 x.2.1:=by
    intro l m q;induction q with
    |nil=>intro x hx;exact nomatch hx
    | @cons p q ps j hq t ih =>
      intro x hx;rcases aY.mp hx with e|hx
      · subst e
        exact JR ok (by rw[<-hq.1];exact hq.2.1)
      · exact ih x hx
  exact all r x hx
end
def um(H:Hp)(a:aF)(y:V)(r:Option V):Prop:=
 (∃kvs k,Rd H a (.dK kvs)/\y=kV k/\r=g9 kvs k)\/∃kvs k b,Rd H a (.dT kvs)/\y= .ref b/\H b=some (.tup (k.map kV))/\r=g9 kvs k
theorem um.k{H:Hp}{a:aF}{kvs:List (Key×V)}{k:Key}(e:H a=some (.dK kvs)):um H a (kV k) (g9 kvs k):= .inl ⟨kvs,k, .inl e,rfl,rfl⟩
section
variable{X:Cx}{pins:List (aF×Obj)}{σ:qr}{H:Hp}{s:aw}{a:aF}{y v:V}{u r:ag}{o:Option V}{A:c3}{E:ag->aw->Prop}
def Inv.big(I:Inv X pins σ H s):eM<s.heap.objs.size:=by
 have h:ba<s.heap.objs.size:=(I.mod.glob.keeps I.bk).lt;exact p6 ⋯ h
def Y1(hu:A.units+1<wa)(I:Inv X pins σ H s)(g:um H a y o)(d:RelV y u)(h:∀s',Inv X pins σ H s'->Q (.bool o.isSome) s'):
  wpAny (bj X.prog X.w) A (dc .In u (.ref a)) Q E s:=by
 rcases g with ⟨kvs,k,e,ey,l⟩|⟨kvs,k,b,e,ey,eb,l⟩
 .subst ey;obtain⟨z,hd,vs,rel,dd⟩:=rH I.hok e;refine wpAny_in_of (nM d) hd dd.mapOf ?_;rw[<-(rel.val k).uV,<-l];exact h _ (I.tok _)
 .subst ey;cases (show u=bo b from d);obtain⟨z,hd,xs,rel,dd⟩:=Rf I.hok e;refine wpAny_in_heap (mM hu) (JR I.hok eb) hd dd ?_;have q:=(rel.val k).uV;rw[D5] at q;rw[<-q,<-l];exact h _ (I.tok _)
def af9(hu:A.units+1<wa)(I:Inv X pins σ H s)(g:um H a y o)(d:RelV y u)(h:∀s',Inv X pins σ H s'->Q (.bool (!o.isSome)) s'):
  wpAny (bj X.prog X.w) A (dc .NotIn u (.ref a)) Q E s:=by
 rcases g with ⟨kvs,k,e,ey,l⟩|⟨kvs,k,b,e,ey,eb,l⟩
 .subst ey;obtain⟨z,hd,vs,rel,dd⟩:=rH I.hok e;refine wpAny_notIn_of (nM d) hd dd.mapOf ?_;rw[<-(rel.val k).uV,<-l];exact h _ (I.tok _)
 .subst ey;cases (show u=bo b from d);obtain⟨z,hd,xs,rel,dd⟩:=Rf I.hok e;refine wpAny_notIn_heap (mM hu) (JR I.hok eb) hd dd ?_;have q:=(rel.val k).uV;rw[D5] at q;rw[<-q,<-l];exact h _ (I.tok _)
def J4{B:HO}(I:Inv X pins σ H s)(d:wX (H a))(hs:da a s.heap h')(he:∃q,h'.get? a=some q)(new:cK X.prog X.w (upd H a B) h' a B):
  Inv X pins σ (upd H a B) {s with heap:=h',toks:=t'}:=
 I.write (x:=a) (e:=a) d (.inl rfl) (λb q hb z=>(hs.2 b hb).trans z) he new
def Bt{P:bc}{vs:List (Key×ag)}(z:kvs.length<=sizeLine)(hd:(a==eM)=false)(rel:KV kvs vs)(dd:h'.DictOf (eX P w) a vs):
  cK P w H' h' a (.dK kvs):=⟨z,hd,vs,rel,dd⟩
end
section
variable{X:Cx}{pins:List (aF×Obj)}{σ:qr}{H:Hp}{s:aw}{a:aF}{kvs:List (Key×V)}{k:Key}{u:ag}{A:c3}{E:ag->aw->Prop}
def acq{v:V}{more:List ag}(I:Inv X pins σ H s)(e:H a=some (.dK kvs))(d:RelV (kV k) u)(l:g9 kvs k=some v)(hm:more=[]\/∃x,more=[x])
  (h:∀w' s',Inv X pins σ (upd H a (.dK (nX kvs k))) s'->RelV v w'->Q w' s'):wpAny (bj X.prog X.w) A (call (.builtin "dict.pop") (.ref a::u::more)) Q E s:=by
 obtain⟨z,hd,vs,rel,dd⟩:=uv I.hok e;obtain⟨w',hw,b⟩:=jd.some_of (v:=v) (o:=ma vs k) (by rw[<-l];exact rel.val k);have hp:(keyPart u).isSome=true:=by
  cases k with
  |inl i=>obtain⟨t,q⟩:=(show∃t,u=hV i t from d);subst q;rfl
  |inr x=>obtain⟨t,q⟩:=(show∃t,u=i4 x t from d);subst q;rfl
 have ha:ti "dict.pop" ⟨.ref a::u::more,[]⟩:=by
  rcases hm with q|⟨x,q⟩
  .subst q;exact PySem.F.args_dict_pop_2 _ _
  .subst q;exact PySem.F.args_dict_pop_3 _ _ _
 refine ot Ph dd.typeIs PySem.F.entry_dict_pop ha (meets_dict_pop_there (eX X.prog X.w) a (nM d) more hm hp)
  ⟨vs,w',dd,by rw[<-rel.length];exact z,hw,λh' c hs=>h w' _ ?_ b⟩
 have he:∃q,h'.get? a=some q:=let ⟨q,_,_,hq,_⟩:=c;⟨q,hq⟩;exact J4 I (by rw[e];exact ec) hs he (Bt (dP (Rn kvs k) z) hd (rel.drop k) c)
end
def Tp{P:bc}(h:eo)(hb:eM<h.objs.size):cK P w H (h.push {cls:= .type "dict",data:= .dict #[]}) h.objs.size (.dK []):=
 ⟨gE _,beq_eq_false_iff_ne.mpr (bH (dz hb)),[], .nil,ql h⟩
def M5:TE:=λ_ H Q=>∀p,H p=none->Q (.ref p) (upd H p (.dK []))
section
variable{X:Cx}{pos:Pos}
def Dz:PE X (.Dict [] [] pos) M5:=λpins s σ H Q I h=>
 wpAny_Dict_empty ⟨.ref s.heap.objs.size,_,I.laid (a:=s.heap.objs.size) (o:= .dK []) (t':=s.toks) (λ_ _ q=>cF _ q) (aW _) (Tp s.heap I.big),rfl,h _ (I.hok.fresh (aW _))⟩
end
noncomputable def oO(kvs more:List (Key×V)):List (Key×V):=more.foldl (λacc c=>putK acc c.1 c.2) kvs
def KV.merge:∀{more:List (Key×V)} {g:List (Key×ag)} {kvs:List (Key×V)} {vs:List (Key×ag)},KV more g->KV kvs vs->KV (oO kvs more) (ox vs g):=by
  intro more g kvs vs r;unfold KV at r;induction r generalizing kvs vs with
  |nil=>intro q;exact q
  | @cons p q ps j h t ih =>
    intro r0;have e:KV (putK kvs p.1 p.2) (yU vs q.1 q.2):=by
      have:=r0.put p.1 h.2;rw[<-h.1];exact this
    exact ih e
theorem Te:∀(more kvs:List (Key×V)),(oO kvs more).length<=kvs.length+more.length
  |[],kvs=>by show kvs.length<=kvs.length+0;omega
  | p :: r, kvs => by
    have h1:=Te r (putK kvs p.1 p.2);have h2:=P8 kvs p.1 p.2;show(oO (putK kvs p.1 p.2) r).length<=_;rw[eH];omega
end L2
/-THE LAST THEOREM (shape;LID,My.*are yours):
   My.Adr:a structure of the addresses that your layer names (classes,functions);My.Txt K t:a structure (Prop) of the equations over K;
   My.txt_mk:{K} {implicit addresses ..} (e1:nsIn K ba "law"=some (some (.ref f))) (e2:K.lookup f=some ⟨oc,od, .func (fnOf "law" "law" params body scope dV kV doc pm an cdv ct),sl⟩) (e3:codeIn K cdv "law"=true) .. :∃t,My.Txt K t
(the tactic k_is has no namespace:write k_is)-/
namespace L2
section
variable{prog:bc}{w:cx}{A:c3}{E:ag->aw->Prop}{s:aw}
def Km{T:String}{r d:aF}{P:Nat->ag->Prop}{a:eo->Prop}{Q:List ag->aw->Prop}(K:PySem.W.KdlSrc prog w T r d n P a)(Y:A.handled=none)(hok:a s.heap)(hn:n<=sizeLine)
  (hQ:∀h' tk' items,(∀b o,s.heap.get? b=some o->h'.get? b=some o)->s.heap.objs.size<=h'.objs.size->items.length=n->(∀(i:Nat) v,items[i]?=some v->P i v)->Q items {s with heap:=h',toks:=tk'}):wpAny (bj prog w) A (xv (.ref r)) Q E s:=by
 obtain⟨lr,ld⟩:=K.there _ hok;unfold xv;refine ae (lL (de Rp ?_));rw[l7 Q0 _];show wpAny _ A.in1 (xk []>>=λl=>again (.builtin "list.__iadd__" ⟨[l, .ref r],[]⟩)) _ _ s;refine ae (ea ?_);refine ax ⟨eh Ad _,de Lq ?_⟩;rw[l7 Ad _];have g:(s.heap.push ({cls:= .type "list",data:= .seq ([]:List ag).toArray}:Obj)).get? s.heap.objs.size=some {cls:= .type "list",data:= .seq ([]:List ag).toArray}:=gk _ rfl;show wpAny _ A.in1 (df (.ref s.heap.objs.size) (.ref r) (.ref s.heap.objs.size)) _ _ {s with heap:=s.heap.push ({cls:= .type "list",data:= .seq ([]:List ag).toArray}:Obj)}
 refine PySem.W.kdl_extend (A:=A) (R:=λr s'=>match r with
    | .ok (.ret v)=>wpAny (bj prog w) A (match v with| .ref x=>(do match(<-load x).data with| .seq xs _=>pure xs.toList|_=>ik "internal:collect")|_=>ik "internal:collect") Q E s'
    | .ok _=>False
    | .error e=>E e s') (s:={s with heap:=s.heap.push ({cls:= .type "list",data:= .seq ([]:List ag).toArray}:Obj)}) K Y (K.keep _ _ hok λb _ o e=>cF _ e) s.heap.objs.size (kO lr) (kO ld) _ _ g (λh' tk f c' hk N k=>?_) hn
 refine ae (sr N (ax ?_));refine hQ h' tk f.toList (λb o e=>hk b o (dz (bN e)) (cF _ e)) (lE (bN N)) (by rw[mj];exact k.1) λi v e=>k.2 i v (by rw[<-lU];exact e)
theorem NA{vs:List (Key×ag)}(Y:A.handled=none)(lo:(a==eM)=false)(hd:s.heap.DictOf (eX prog w) a vs)(hk:vs.map (·.1)=ms.map dn)(d:ms.length<64)
    (h:∀h' f (l:aF) (out:List ag) (ns:List Int) (e:Nat),(∀b o,s.heap.get? b=some o->h'.get? b=some o)->s.heap.objs.size<=l->h'.get? l=some (lj "list" out.toArray e)->gT out ns->ns.Pairwise (· <= ·)->ns.Perm ms->
      Q (.ref l) {s with heap:=h',toks:=f}):wpAny (bj prog w) A (call (.builtin "sorted") [.ref a]) Q E s:=by
  obtain⟨ep,S⟩:=hd.dictAt;have hvl:vs.length=ms.length:=by have:=congrArg l3 hk;simpa using this
  refine Lg kind_sorted plain_sorted entry_sorted (args_sorted1 _) ?_;unfold Builtin.«sorted»;refine ae (m:=checkCount "sorted" 1 1 _) (ax (ae ?_));refine Km (A:=A.in1) (PySem.W.kdl_dict lo) Y S (by rw[hvl];exact dP (lE d) ⋯) λh1 p items k1 k2 hil c=>?_;have hI:gT items ms:=by
    have key:∀(its:List ag) (us:List (Key×ag)) (ms:List Int),us.map (·.1)=ms.map dn->its.length=us.length->(∀(i:Nat) v,its[i]?=some v->∃k x,us[i]?=some (k,x)/\(eX prog w).is k v=true)->gT its ms:=by
      intro its;induction its with
      | nil =>
        intro us ms e l _;cases us with
        | nil => cases ms with
          |nil=>exact .nil
          |cons _ _=>cases e
        |cons _ _=>cases l
      | cons v its ih =>
        intro us ms e l hp;cases us with
        |nil=>cases l
        | cons u us => cases ms with
          |nil=>cases e
          | cons m ms =>
            have e1:u.1=dn m:=by injection e
            have e2:us.map (·.1)=ms.map dn:=by injection e
            obtain⟨k,x,O,q2⟩:=hp 0 v rfl;have O:u=(k,x):=by simpa using O
            subst O;have e1:k=dn m:=e1;subst e1;obtain⟨t,rfl⟩:=wm (k:=m) (v:=v) q2;exact .cons m t (ih us ms e2 (by simpa using l) λi v q=>by simpa using hp (i+1) v (by simpa using q))
    exact key items vs ms hk hil c
  have hlen:items.length=ms.length:=by rw[hil,hvl]
  refine ae (t5 ?_);have g:(h1.push (lj "list" items.toArray 0)).get? h1.objs.size=some (lj "list" items.toArray 0):=gk _ rfl;refine ae (dA (cv rk ⟨_,g,rfl⟩ qk (rl g hI ∅ λout j a1 a2 y=>⟨_,rfl,?_⟩) (rn _)));obtain⟨e,he⟩:=ui (out:=out) g;refine ax ⟨_,rfl,h _ p h1.objs.size out.toList j e (λb o q=>?_) k2 (by simpa using he) a1 y a2⟩;have lb:=bN (k1 b o q);rw[rr (dz lb) (by rw[lH];exact mK lb)];exact cF _ (k1 b o q)
end
def Gi:List V->Hp->VK->Prop:=λxs H Q=>∃a,∃kvs:List (Key×V),∃ms:List Int,xs=[.ref a]/\Rd H a (.dK kvs)/\kvs.map (·.1)=ms.map dn/\ms.length<64/\
 ∀l (g:List Int),H l=none->g.Pairwise (· <= ·)->g.Perm ms->Q (.ref l) (upd H l (.lst (g.map V.int)))
def ahf(hc:X.calm=true):iF X (.builtin "sorted") Gi:=by
 intro pins s σ H xs us Q I rv h;obtain⟨a,kvs,ms,rfl,C,hk,d,q⟩:=h;obtain⟨u,rfl,G⟩:=vals1 rv;cases G;obtain⟨z,hd,vs,rel,dd⟩:=rH I.hok C;refine NA (I.ok.hd hc) hd dd (by rw[<-rel.keys];exact hk) d λh' f l out ns e kp hl c hI pw pp=>?_;have new:cK X.prog X.w (upd H l (.lst (ns.map V.int))) h' l (.lst (ns.map V.int)):=by
  refine⟨?_,out,e,DC hI,c⟩;rw[ao,pp.length_eq];exact dP (lE d) ⋯
 exact⟨.ref l,_,I.laid (t':=f) kp hl new,rfl,q _ _ (I.hok.fresh hl) pw pp⟩
section
variable{X:Cx}
def uK:R2:=λx y H Q=>∃a kvs k v,x= .ref a/\y=kV k/\Rd H a (.dK kvs)/\g9 kvs k=some v/\Q v H
def Ii:mZ X uK:=by
 intro value slice pins s σ H x y v u Q I rx ry h hs;obtain⟨a,kvs,k,z,rfl,rfl,C,hv,q⟩:=h;cases rx;obtain⟨hz,hd,vs,rel,dd⟩:=rH I.hok C;have hT:=dd.typeIs (s:=s);obtain⟨w',hw,b⟩:=jd.some_of (v:=z) (o:=ma vs k) (by rw[<-hv];exact rel.val k);unfold mr;refine ae ?_;rw[getitemInPython_of_ne hT.not_modules];refine ae (il hT PySem.F.slot_dict_getitem.lookup ?_);have fin:wpAny (bj X.prog X.w) X.A (p0 slice false (.ref a) u) (λr e=>wpAny (bj X.prog X.w) X.A (letTemporaryGo value (.ref a) r>>=λ_=>pure r) (EP X pins σ Q) X.xe e) X.xe s:=by
  rw[hs];refine wpAny_operating (wpAny_getItem_of (nM ry) dd.mapOf hw ?_);exact ae (wpAny_letTemporaryGo (ax ⟨z,H,I.tok _,b,q⟩))
 first
  |exact ax (ae fin)
  |exact ae (ax (ae fin))
  |exact ae fin
def G9:V->V->V->Hp->(Hp->Prop)->Prop:=λo i v H Q=>∃a kvs k,o= .ref a/\i=kV k/\H a=some (.dK kvs)/\kvs.length<sizeLine/\Q (upd H a (.dK (putK kvs k v)))
theorem set_dict:AZ X G9:=by
 intro pins s σ H o i v ov iv u Q I ro ri rv h;obtain⟨a,kvs,k,rfl,rfl,C,b,q⟩:=h;cases ro;obtain⟨z,hd,vs,rel,dd⟩:=uv I.hok C;have hz:vs.length<=sizeLine:=by rw[<-rel.length];exact z
 have hl:(putK kvs k v).length<=sizeLine:=by have:=P8 kvs k v;omega
 refine wpAny_setItem_pairs (hsz:=hz) (nM ri) dd λh' c hs=>?_;have he:∃q,h'.get? a=some q:=let ⟨q,_,_,hq,_⟩:=c;⟨q,hq⟩;exact⟨_,J4 I (by rw[C];exact ec) hs he (Bt hl hd (rel.put k rv) c),q⟩
def PZ:V->List V->Hp->VK->Prop:=λx vs H Q=>∃a kvs k d,x= .ref a/\vs=[kV k,d]/\Rd H a (.dK kvs)/\Q ((g9 kvs k).getD d) H
def RF:uP X "dict.get" PZ:=by
  intro pins s σ H x xs v us Q I rx rv h;obtain⟨a,kvs,k,d,rfl,rfl,C,q⟩:=h;cases rx;cases rv with
  | cons M U =>
    obtain⟨r,rfl,rd⟩:=vals1 U;obtain⟨z,hd,vs,rel,dd⟩:=rH I.hok C;refine ot Nm dd.typeIs PySem.F.entry_dict_get (PySem.F.args_dict_get_3 _ _ _) (meets_dict_get_default (eX X.prog X.w) a (nM M) hd r) ⟨_,dd.mapOf,?_⟩;exact⟨_,H,I.tok _,(rel.val k).getD rd,q⟩
end
noncomputable abbrev Cn:=List (Int×Int)
structure SM(cs:Cn):Prop where
 AO:∀c∈cs,0<=c.1/\c.1<=12/\0<=c.2/\c.2<=10^7
 nd:(cs.map (·.1)).Nodup
 len:cs.length<=14
 pos:∃c∈cs,0<c.1/\0<c.2
noncomputable def M3:Cn->Rat->Rat
 |[],_=>0
 |c::r,v=>(if 0<c.1 then((c.1*c.2:Int):Rat)*v^(c.1.toNat-1) else 0)+M3 r v
noncomputable def P0:Cn->Int
 |[]=>0
 |c::r=>c.1*c.2+P0 r
noncomputable def QL(cs:Cn)(v:Rat):Rat:=M3 cs v/(P0 cs:Int)
noncomputable def I7(l c:Cn)(s v:Rat):Rat:=s*QL l (1-QL c (1-v))
section
variable{l c:Cn}{s:Rat}(hl:SM l)(hc:SM c)(s0:0<=s)
include hl hc s0
end
noncomputable def Tr(x:Rat):Int:= -((-x).floor)
structure Gw where
 l:Cn
 c:Cn
 s:Rat
 u:Int
noncomputable def Gw.gr(g:Gw)(x:Int):Rat:=I7 g.l g.c g.s ((x:Rat)/g.u)*g.u
noncomputable def Gw.lo(g:Gw):Nat->Int
 |0=>(g.s*g.u).floor
 |k+1=>(g.gr (g.lo k)).floor
noncomputable def Gw.hi(g:Gw):Nat->Int
 |0=>Tr (g.s*g.u)
 |k+1=>Tr (g.gr (g.hi k))
def MZ(K:PySem.W.Frag)(n:Nat)(t:jV):TG:=λv σ H Q=>∃a xs,v= .ref a/\aV K H a xs/\xs.length=n/\t xs σ H Q
def Gv.lst{G:Gx}{ρ:Rh}{f:Bool}{ds:List PyData}{K:PySem.W.Frag}{Θ:Rh->Prop}{n:Nat}{u:jV}(hl:ds.length=n)(h:qu G ρ u f ds Θ):Gv G ρ (MZ K n u) f (.list ds) Θ:=λnb σ H v Q W hv z=>by
 obtain⟨a,xs,rfl,m,hx,hd⟩:=hv.dW;exact⟨a,xs,rfl, .of hx,by rw[hd.length];exact hl,h nb σ H xs Q W hd z⟩
end L2
namespace L2
open PySem PySem.Spec PyProof.Rows PySem.W
section
variable{n:Nat}{cmp:Nat->Nat->(Bool->aw->Prop)->aw->Prop}{s:aw}
variable(h0:0<n)(hc:∀i j C,i<n->j<n->(∀b,C b s)->cmp i j C s)
include h0 hc
end
theorem az.yD{tb:TE}(h:Ev G ρ te λf d=>Ev G ρ tb λ_ y=>∃k,y= .int k/\k<=10000/\ -(10000)<=k/\∀g,Θ g (ar k.toNat d)):az G ρ (cQ sE (qt (bV te cG)) tb) Θ:=λnb σ H Q W z=>
 h nb σ H _ W λf v H1 d' q s1 hv=>by
  refine⟨by show 1<=sizeLine;decide,λp hp=>?_⟩;have W1:=W.step s1;have s2:Step G.B H1 (upd H1 p (.lst [v])):= .same W1.aG (dB hp);refine q nb σ _ _ (W1.step s2) λg u H2 d2 ⟨k,e2,h1,h2,p2⟩ s3 hu=>?_;subst e2;have hN:NB G.B p:=λb l e z=>by
   subst z;exact NB.oJ (B:=G.B) (a:=p) s1.2 (λz=>z _ _ e rfl) hp
  refine⟨p,k,[v],rfl,hu.cC,s3.1 _ _ hN bx,∅,∅,?_,λa ha=>?_⟩
  .show 1*k.toNat<=sizeLine;exact dP (show 1*k.toNat<=10000 by omega) ⋯
  .have hv2:=(hv.keep s2.dj).keep s3.dj;have hd:af (G.S nb f) H2 (ar k.toNat d') (ar k.toNat [v]).flatten:=by
    induction k.toNat with
    |zero=>exact .nil
    |succ m ih=>rw[rF,rF,wA];exact .cons hv2 ih
   exact az.fin (f:=f) W (s1.trans (s2.trans s3)) ha hd (p2 _) z
section
variable{n:Nat}{key:Nat->Int}{cmp:Nat->Nat->(Bool->aw->Prop)->aw->Prop}{s:aw}
variable(h0:0<n)(hc:∀i j C,i<n->j<n->C (decide (key i<key j)) s->cmp i j C s)
include h0 hc
end
end L2
namespace L2
def Ev.lend{f:Bool}(i:Nat)(e:ρ[i]?=some (.own a f ds))(h:Ev G (ρ.set i (.d f (.list ds))) te λ_ d=>jt d=true/\Φ true d):Ev G ρ te Φ:=λnb σ H Q W z=>
 h _ σ H Q (Sv.share W e) λf v H' d ⟨hs,p⟩ st hv=>z true v H' d p st (hv.jH hs)
def Tv.lend{t:TT}{Θ:Bool->Prop}{f:Bool}(i:Nat)(e:ρ[i]?=some (.own a f ds))(h:Tv G (ρ.set i (.d f (.list ds))) t Θ):Tv G ρ t Θ:=λnb σ H Q W z=>
 h _ σ H Q (Sv.share W e) z
def WG:ls (.type "list") "keys"=pure none:=by rw[eD,dy];kernel_rfl
def Ff:ls (.type "list") "__getattr__"=pure none:=by rw[eD,dy];kernel_rfl
section
variable{prog:bc}{w:cx}{A:c3}{E:ag->aw->Prop}{h:eo}{g:Array mf}{d:Drawn}{t:Nat}{os:OsState}{a:aF}{o:Obj}
def TC{Q:Fin->aw->Prop}{xs:Array ag}(Y:A.handled=none)(hx:h.get? a=some (lj "list" xs n))
  (hq:∀h' tk e,qs h h' e (.ref a) "keys" ->E (.ref e) ⟨h',g,d,tk,os⟩):
  wpAny (bj prog w) A (Builtin.«object.__getattribute__» ⟨[.ref a, .str "keys" tk],[]⟩) Q E ⟨h,g,d,t,os⟩:=by
 have hT:(⟨h,g,d,t,os⟩:aw).TypeIs (.ref a) "list":=⟨_,hx,rfl⟩;have f4:=WG;unfold Builtin.«object.__getattribute__»
 repeat (any_goals (first|assumption|wp_step))
 exact wpAny_raiseAttrError Y hq (attrMsg_fits (by decide+kernel) (by size_fits))
def GL{R:sv->aw->Prop}{xs:Array ag}(Y:A.handled=none)(hx:h.get? a=some (lj "list" xs n))(hq:∀h' tk e,qs h h' e (.ref a) "keys" ->R (.error (.ref e)) ⟨h',g,d,tk,os⟩):
  codeAny (bj prog w) A (.call (.builtin "list.__getattribute__") ⟨[.ref a, .str "keys" tk],[]⟩) R ⟨h,g,d,t,os⟩:=
 lx ym.plain PySem.F.entry_list_ga (ym.check _ _ _ _ _ _ _ _ (show(⟨h,g,d,t,os⟩:aw).TypeIs (.ref a) "list" from⟨_,hx,rfl⟩) (PySem.F.args_list_getattribute_2 _ _) (TC (by exact Y) hx hq))
def X7{Q:Option ag->aw->Prop}{xs:Array ag}(Y:A.handled=none)(hx:h.get? a=some (lj "list" xs n))
  (hq:∀h' tk,(∀b ob,h.get? b=some ob->h'.get? b=some ob)->Q none ⟨h',g,d,tk,os⟩):wpAny (bj prog w) A (getAttr? (.ref a) "keys") Q E ⟨h,g,d,t,os⟩:=by
 have hT:(⟨h,g,d,t,os⟩:aw).TypeIs (.ref a) "list":=⟨_,hx,rfl⟩;have f1:=sub_AttributeError;have f2:=ym.lookup;have f3:=ym.bind (.ref a);have f5:=Ff;unfold getAttr? getAttrBy? getAttrBy
 repeat (any_goals (first|assumption|wp_step))
 refine GL Y hx λh' tk e L=>?_;obtain⟨t',D,he⟩:=L.there;unfold getattributeRaised
 repeat (any_goals (first|assumption|wp_step))
 exact hq _ _ L.keeps
end
def KC:tL table "dict.update.loop"=some Builtin.«dict.update.loop» :=oL (by kernel_rfl)
def yz:plainId "dict.update.loop"=true:=by decide+kernel
def ye(P:bc)(w:cx)(h:eo)(v:ag)(p:Key×ag):Prop:=∃a o m q,v= .ref a/\h.get? a=some o/\o.cls= .type "tuple" /\o.data= .seq #[q,p.2] m/\(eX P w).is p.1 q=true
section
variable{prog:bc}{w:cx}{A:c3}{E:ag->aw->Prop}{s:aw}
theorem UI{R:sv->aw->Prop}{d l:aF}{ps:List (Key×ag)}(Y:A.in1.handled=none)(L:d≠l)(c:d≠it)(hil:l≠it)(hlen:its.length=ps.length)(hsz:its.length<=10000):
    ∀(k i:Nat) (s:Shared) (t:Tok),its.length-i=k->i<=its.length->s.heap.IsListIter it l i->s.heap.IsList l its.toArray->(∀(j:Nat) (v:Value) (p:Key×Value),its[j]?=some v->ps[j]?=some p->ye prog w s.heap v p)->(∀(j:Nat) (v:Value),its[j]?=some v->v≠Value.ref d/\v≠Value.ref it)->
      s.heap.DictOf (eX prog w) d (ox [] (ps.take i))->(ox [] (ps.take i)).length<=i->
      (∀h' tk,(∀b o,b≠d->b≠it->s.heap.get? b=some o->h'.get? b=some o)->h'.DictOf (eX prog w) d (ox [] ps)->R (.ok (.ret .none)) {s with heap:=h',toks:=tk})->
      codeAny (bj prog w) A (.builtin "dict.update.loop" ⟨[.ref d, .ref it, .int i t, .none],[]⟩) R s:=by
  intro k;induction k with
  | zero =>
    intro i s t hk hi hit hl hp hne hD zu hR;have y:i=its.length:=∅
    subst y;refine de KC ?_;rw[l7 yz _];show wpAny _ A.in1 (gw (.ref it)>>=_) _ _ s;refine ae (kS Y hit hl (by simp) λh' he=>?_);show wpAny _ A.in1 (ret ek) _ _ _;rw[hlen,c6] at hD;exact ax (hR h' s.toks (λb o _ n e=>he b o n e) (hD.extBut he c))
  | succ k ih =>
    intro i s t hk hi hit hl hp hne hD zu hR;have hlt:i<its.length:=∅
    obtain⟨v,hv⟩:∃v,its[i]?=some v:=⟨_,aC hlt⟩;obtain⟨p,g⟩:∃p,ps[i]?=some p:=⟨_,aC ∅⟩;obtain⟨hn1,B⟩:=hne i v hv;obtain⟨a,o,m,q,rfl,g1,g2,g3,f⟩:=hp i v p hv g;have H:a≠d:=λz=>hn1 (by rw[z]);have D:a≠it:=λz=>B (by rw[z]);refine de KC ?_;rw[l7 yz _];show wpAny _ A.in1 (gw (.ref it)>>=_) _ _ s;refine ae (kl hit hl (x:= .ref a) (by simpa using hv) λh1 h E=>?_);have pR:h1.get? a=some o:=(E.2 a D).trans g1;have hT:(⟨h1,s.gens,s.drawn,s.toks,s.os⟩:aw).TypeIs (.ref a) "tuple":=⟨o,pR,g2⟩;show wpAny _ A.in1 (holding [bo a] _>>=_) _ _ _;refine ae (dA (ae (wpAny_tryCatch ?_)));show wpAny _ A.in1 (ky (.ref a)) _ _ _;unfold ky;refine ae (i1 hT ?_);rw[if_pos ⋯];refine ae (i3 pR g3 (ax ?_));show wpAny _ A.in1 (holding [q,p.2] (dictSet d q p.2)) _ _ _;have C:h1.DictOf (eX prog w) d (ox [] (ps.take i)):=hD.sameBut E c;refine dA (wpAny_dictSet_pairs (s:=⟨h1,s.gens,s.drawn,s.toks,s.os⟩) f C (λh2 r F=>?_) (dP zu (dP hi (dP hsz ⋯))));have e:yU (ox [] (ps.take i)) p.1 p.2=ox [] (ps.take (i+1)):=by rw[Ai g];unfold ox;rw[sf];rfl
    rw[e] at r;have J:∀b o,b≠d->b≠it->s.heap.get? b=some o->h2.get? b=some o:=λb o n1 Z z=>(F.2 b n1).trans ((E.2 b Z).trans z);refine ax ⟨eh yz _,ih (i+1) ⟨h2,s.gens,s.drawn,s.toks+1,s.os⟩ _ ∅ hlt ?_ ?_ ?_ hne r ?_ λh' tk u G=>?_⟩;· exact h.at λo z=>(F.2 it (bH c)).trans z
    · exact hl.at λo z=>J l o (bH L) hil z
    · intro j v' p' hv' hp'
      obtain⟨hn1,B⟩:=hne j v' hv';obtain⟨a,o,m,q,rfl,O,q2,q3,q4⟩:=hp j v' p' hv' hp';exact⟨a,o,m,q,rfl,J a o (λz=>hn1 (by rw[z])) (λz=>B (by rw[z])) O,q2,q3,q4⟩
    · rw[<-e]
      unfold yU;split;· rw[ao];omega
      · rw[fk,i9];omega
    · exact hR h' tk (λb o n1 Z z=>u b o n1 Z (J b o n1 Z z)) G
theorem F5{l:aF}{ps:List (Key×ag)}(Y:A.handled=none)(d:s.heap.get? l=some (lj "list" its.toArray n))(hlen:its.length=ps.length)(hsz:its.length<=10000)
  (hp:∀(j:Nat) (v:ag) (p:Key×ag),its[j]?=some v->ps[j]?=some p->ye prog w s.heap v p)
  (h:∀h' tk,h'.DictOf (eX prog w) s.heap.objs.size (ox [] ps)->(∀b o,s.heap.get? b=some o->h'.get? b=some o)->Q (.ref s.heap.objs.size) {s with heap:=h',toks:=tk}):
  wpAny (bj prog w) A (call (.type "dict") [.ref l]) Q E s:=by
 refine sg (Q₁:=λobj s₁=>obj= .ref s.heap.objs.size/\s₁={s with heap:=s.heap.push {cls:= .type "dict",data:= .dict #[]}}) PySem.F.kt_called_dict (PySem.F.kt_typeCall_dict_1 _) PySem.F.entry_dict_init (kt_code_dict_new _ ⟨rfl,rfl⟩) ?_;rintro obj s₁ ⟨rfl,rfl⟩;have c:(s.heap.push {cls:= .type "dict",data:= .dict #[]}).DictOf (eX prog w) s.heap.objs.size []:=ql s.heap;have k:(s.heap.push {cls:= .type "dict",data:= .dict #[]}).get? l=some (lj "list" its.toArray n):=cF _ d;have o8:l<s.heap.objs.size:=bN d;refine⟨c.typeIs,PySem.F.args_dict_init_2 _ _,?_⟩;unfold Builtin.«dict.__init__»;refine ae ?_;unfold tq;refine ae (wpAny_notOrdered_dict c.typeIs ?_);show wpAny _ _ (pure (s.heap.objs.size,[bo l])) _ _ _;refine ax ?_;show wpAny _ _ (ke "dict.__init__" s.heap.objs.size (.ref l) [] .none) _ _ _;unfold ke;refine ae (i1 (T:="list") ⟨_,k,rfl⟩ ?_);rw[if_pos ⋯];refine ae (X7 (A:=A.in1.in1) Y k λh1 tk k1=>?_);rw[if_pos (show(none:Option ag).isNone=true from rfl)];refine ae (jE (ae ?_));have hl2:h1.get? l=some (lj "list" its.toArray n):=k1 _ _ k;have C:h1.DictOf (eX prog w) s.heap.objs.size []:=let ⟨o',es,ep,ho,r⟩:=c;⟨o',es,ep,k1 _ _ ho,r⟩;have hs1:s.heap.objs.size<h1.objs.size:=by obtain⟨o',es,ep,ho,_⟩:=C;exact bN ho
 have e:h1.IsList l its.toArray:=⟨_,hl2,rfl,n,rfl⟩;refine gN e ?_;refine ax ⟨eh yz _,?_⟩;refine UI (A:=A.in1) (its:=its) (ps:=ps) Y (bH (dz o8)) (dz hs1) (dz (p6 o8 hs1)) hlen hsz its.length 0 _ _ ∅ (gE _) ⟨_,gk _ rfl,rfl,rfl⟩ (e.push _) ?_ ?_ (C.push _) (aW _) λh' f u G=>?_
 .intro j v p hv g;obtain⟨a,o,m,q,rfl,O,q2,q3,q4⟩:=hp j v p hv g;exact⟨a,o,m,q,rfl,cF _ (k1 _ _ (cF _ O)),q2,q3,q4⟩
 .intro j v hv;obtain⟨p,g⟩:∃p,ps[j]?=some p:=⟨_,aC (by have:=(aO.mp hv).1;omega)⟩;obtain⟨a,o,m,q,rfl,O,_⟩:=hp j v p hv g;have la:=bN O;refine⟨λz=>?_,λz=>?_⟩;·cases z;exact absurd la (i7 _)
  .have z':a=h1.objs.size:=by cases z;rfl
   rw[z'] at la;exact absurd (p6 la hs1) (i7 _)
 .refine⟨rfl,h h' f G λb o z=>?_⟩;have lb:=bN z;exact u b o (dz lb) (dz (p6 lb hs1)) (cF _ (k1 _ _ (cF _ z)))
end
def C0:List V->Hp->VK->Prop:=λxs H Q=>∃(l:aF) (ys:List V) (kvs:List (Key×V)),xs=[.ref l]/\H l=some (.lst ys)/\ys.length=kvs.length/\ys.length<=10000/\
 (∀(j:Nat) (y:V) (p:Key×V),ys[j]?=some y->kvs[j]?=some p->∃a,y= .ref a/\H a=some (.tup [kV p.1,p.2]))/\∀d,H d=none->Q (.ref d) (upd H d (.dK (oO [] kvs)))
theorem U7(hc:X.calm=true):iF X (.type "dict") C0:=by
  intro pins s σ H xs us Q I rv h;obtain⟨l,ys,kvs,rfl,C,hlen,hsz,hy,q⟩:=h;obtain⟨u,rfl,G⟩:=vals1 rv;cases G;obtain⟨_,its,n,g,h1⟩:=(show cK X.prog X.w H s.heap l (.lst ys) from I.hok l _ C);have hli:=g.length;have key:∃ps:List (Key×ag),KV kvs ps/\∀(j:Nat) (v:ag) (p:Key×ag),its[j]?=some v->ps[j]?=some p->ye X.prog X.w s.heap v p:=by
    have gen:∀(ys:List V) (its:List ag) (kvs:List (Key×V)),Vals ys its->ys.length=kvs.length->(∀(j:Nat) (y:V) (p:Key×V),ys[j]?=some y->kvs[j]?=some p->∃a,y= .ref a/\H a=some (.tup [kV p.1,p.2]))->∃ps:List (Key×ag),KV kvs ps/\∀(j:Nat) (v:ag) (p:Key×ag),its[j]?=some v->ps[j]?=some p->ye X.prog X.w s.heap v p:=by
      intro ys;induction ys with
      | nil =>
        intro its kvs r e _;cases r;cases kvs with
        |nil=>exact⟨[], .nil,λj v p z=>by simp at z⟩
        |cons _ _=>cases e
      | cons y ys ih =>
        intro its kvs r e hq;cases r with
        | cons M U =>
          cases kvs with
          |nil=>cases e
          | cons c kvs =>
            obtain⟨ps,g1,g2⟩:=ih _ kvs U (by simpa using e) λj y p a b=>hq (j+1) y p (by simpa using a) (by simpa using b);obtain⟨a,rfl,ha⟩:=hq 0 y c rfl rfl;cases M;obtain⟨_,d,S,o,w1,w2,m,F⟩:=(show cK X.prog X.w H s.heap a (.tup [kV c.1,c.2]) from I.hok a _ ha);cases S with
            | cons W B =>
              cases B with
              | cons t y2 =>
                cases y2;refine⟨(c.1,_)::ps, .cons ⟨rfl,t⟩ g1,λj v p a b=>?_⟩;cases j with
                | zero =>
                  simp at a b;subst a b;exact⟨_,o,m,_,rfl,w1,w2,F,nM W⟩
                |succ j=>exact g2 j v p (by simpa using a) (by simpa using b)
    exact gen ys its kvs g hlen hy
  obtain⟨ps,rel,hps⟩:=key;have hpl:=rel.length;refine F5 (I.ok.hd hc) h1 ∅ ∅ hps λh' f N k=>?_;have hml:=Te kvs [];have new:cK X.prog X.w (upd H s.heap.objs.size (.dK (oO [] kvs))) h' s.heap.objs.size (.dK (oO [] kvs)):=by
    refine Bt (dP hml (dP (show _<=10000 by simp;omega) ⋯)) ?_ (rel.merge .nil) N;have hb:=I.big;have:s.heap.objs.size≠eM:=kO hb;simpa using this
  exact⟨.ref s.heap.objs.size,_,I.laid (t':=f) k (aW _) new,rfl,q _ (I.hok.fresh (aW _))⟩
noncomputable abbrev Ks:=List (Int×PyData)
noncomputable def iV(ks:Ks)(k:Int):Option PyData:=(ks.find? λp=>decide (p.1=k)).map (·.2)
noncomputable def i6(ks:Ks)(k:Int):Bool:=ks.any λp=>decide (p.1=k)
noncomputable def kF(ks:Ks)(k:Int)(d:PyData):Ks:=if i6 ks k then ks.map λp=>if p.1=k then(p.1,d) else p else ks++[(k,d)]
noncomputable def tE(ks:Ks)(k:Int):Ks:=ks.filter λp=>decide (p.1≠k)
def Tu(ks:Ks)(k:Int):(iV ks k).isSome=i6 ks k:=by
  unfold iV i6;rw[D5];induction ks with
  |nil=>rfl
  | cons p r ih =>
    rw[oQ,oq];by_cases h:p.1=k;· simp[h]
    · simp only[h,decide_false,sS];exact ih
def zA{ks:Ks}{k:Int}:i6 ks k=true↔k∈ks.map (·.1):=by
 unfold i6;rw[xo,cL];constructor;·rintro⟨p,h1,h2⟩;exact⟨p,h1,by simpa using h2⟩
 .rintro⟨p,h1,h2⟩;exact⟨p,h1,by simpa using h2⟩
def rm{p:Int×PyData}{r:Ks}{k:Int}:iV (p::r) k=if p.1=k then some p.2 else iV r k:=by
 unfold iV;rw[oQ];by_cases h:p.1=k<;>simp[h]
section
variable{S:aF->Prop}{H:Hp}
theorem ay.val:∀{ks:Ks} {ps:List (Key×V)} (k:Int),ay S H (ks.map cP) ps->match iV ks k with|some d=>∃v,g9 ps (dn k)=some v/\ai S H d v|none=>g9 ps (dn k)=none
  |[],ps,k,h=>by unfold ay at h;subst h;exact GD
  | p :: r, ps, k, h => by
    rw[bG] at h;unfold ay at h;obtain⟨q,j,rfl,h1,h2⟩:=h;unfold cJ at h1;obtain⟨h3,h4⟩:=h1;have h3:q.1=dn p.1:=h3;rw[rm];have ih:=ay.val k h2;by_cases e:p.1=k
    · rw[if_pos e]
      refine⟨q.2,?_,h4⟩;rw[xP (by rw[h3,e])]
    · rw[if_neg e,xF (λz=>e (by rw[h3] at z;exact E3 z))]
      exact ih
theorem ay.snoc:∀{ks:Ks} {ps:List (Key×V)} {k:Int} {d:PyData} {v:V},ay S H (ks.map cP) ps->ai S H d v->ay S H ((ks++[(k,d)]).map cP) (ps++[(dn k,v)])
  | [], ps, k, d, v, h, hd => by
    unfold ay at h;subst h;show ay S H [cP (k,d)] [(dn k,v)];unfold ay;exact⟨_,_,rfl,by unfold cJ;exact⟨rfl,hd⟩,by unfold ay;rfl⟩
  | p :: r, ps, k, d, v, h, hd => by
    rw[bG] at h;unfold ay at h;obtain⟨q,j,rfl,h1,h2⟩:=h;rw[nV,bG,nV];unfold ay;exact⟨q,_,rfl,h1,ay.snoc h2 hd⟩
theorem ay.repl:∀{ks:Ks} {ps:List (Key×V)} {k:Int} {d:PyData} {v:V},ay S H (ks.map cP) ps->ai S H d v->ay S H ((ks.map λp=>if p.1=k then(p.1,d) else p).map cP) (ps.map λc=>if c.1=dn k then(c.1,v) else c)
  |[],ps,k,d,v,h,hd=>by unfold ay at h;subst h;simp only[nR];unfold ay;rfl
  | p :: r, ps, k, d, v, h, hd => by
    rw[bG] at h;unfold ay at h;obtain⟨q,j,rfl,h1,h2⟩:=h;rw[bG,bG,bG];unfold cJ at h1;obtain⟨h3,h4⟩:=h1;have h3:q.1=dn p.1:=h3;unfold ay;refine⟨_,_,rfl,?_,ay.repl h2 hd⟩;by_cases e:p.1=k
    · rw[if_pos e,if_pos (by rw[h3,e])]
      unfold cJ;exact⟨h3,hd⟩
    · rw[if_neg e,if_neg (λz=>e (by rw[h3] at z;exact E3 z))]
      unfold cJ;exact⟨h3,h4⟩
theorem ay.any:∀{ks:Ks} {ps:List (Key×V)} (k:Int),ay S H (ks.map cP) ps->(ps.any λc=>decide (c.1=dn k))=i6 ks k:=λ{ks ps} k h=>by
 rw[z6,<-Tu];have:=ay.val k h;cases hv:iV ks k with
 |none=>rw[hv] at this;rw[this];rfl
 |some d=>rw[hv] at this;obtain⟨v,e,_⟩:=this;rw[e];rfl
def ay.put{ks:Ks}{k:Int}{v:V}(h:ay S H (ks.map cP) ps)(hd:ai S H d v):ay S H ((kF ks k d).map cP) (putK ps (dn k) v):=by
 unfold kF putK;rw[ay.any k h];split;·exact ay.repl h hd
 .exact ay.snoc h hd
theorem ay.len:∀{ks:Ks} {ps:List (Key×V)},ay S H (ks.map cP) ps->ps.length=ks.length
  |[],ps,h=>by unfold ay at h;subst h;rfl
  | p :: r, ps, h => by
    rw[bG] at h;unfold ay at h;obtain⟨q,j,rfl,_,h2⟩:=h;simp[ay.len h2]
theorem ay.keys:∀{ks:Ks} {ps:List (Key×V)},ay S H (ks.map cP) ps->ps.map (·.1)=(ks.map (·.1)).map dn
  |[],ps,h=>by unfold ay at h;subst h;rfl
  | p :: r, ps, h => by
    rw[bG] at h;unfold ay at h;obtain⟨q,j,rfl,h1,h2⟩:=h;unfold cJ at h1;have h3:q.1=dn p.1:=h1.1;simp[ay.keys h2,h3]
end
def oE(G:Gx)(ρ:Rh)(te:TE)(Φ:Bool->Ks->Prop):Prop:=∀nb σ H (Q:VK),Wd G nb ρ σ H->
 (∀f a ps H' ks,Φ f ks->Step G.B H H'->H a=none->H' a=some (.dK ps)->ay (λx=>G.S nb f x\/x=a) H' (ks.map cP) ps->Q (.ref a) H')->te σ H Q
section
variable{G:Gx}{ρ c8:Rh}{Φ Ψ:Pd}{ta tb te:TE}{t:TA}{i:Nat}{f g:Bool}{d e:PyData}{ks:Ks}{K:PySem.W.Frag}{E:DE}{Θ:Bool->Ks->Prop}
def Wd.grow{o:HO}(W:Wd G nb ρ σ H)(s1:Step G.B H H1)(ha:H a=none)(e:H1 a=some o):Wd G (λx=>nb x\/x=a) ρ σ H1/\NB G.B a/\∀f x,G.S (λx=>nb x\/x=a) f x->(G.S nb f x\/x=a):=by
  have hN:NB G.B a:=NB.new W.aG ha;have hA:∀f x,G.S (λx=>nb x\/x=a) f x->(G.S nb f x\/x=a):=λf x z=>by
    rcases z with (z|z)|z|z|z
    · exact .inl (.inl z)
    · exact .inr z
    · exact .inl (.inr (.inl z))
    · exact .inl (.inr (.inr (.inl z)))
    · exact .inl (.inr (.inr (.inr z)))
  have W1:=W.step s1;refine⟨?_,hN,hA⟩;refine⟨W1.aG,λx n=>?_,W1.old,λx n q=>?_,W.gA,W.len,W.gB,λh m=>(((W.eU h m).fresh ha).keep (s1.but λx z=> .inl (.inr (.inr (.inl z))))).av (hA h.1),λj s e'=>?_,W.apart,W.gz,W.eZ⟩
  · rcases n with n|n
    · exact W1.live x n
    · subst n;rw[e];exact jP _
  · rcases n with n|n
    · exact W.ez x n q
    · subst n
      cases z:G.H0 x with
      |none=>rfl
      |some o=>rw[W.old x o q z] at ha;cases ha
  · obtain⟨x,e1,h⟩:=W.ok j s e'
    refine⟨x,e1,?_⟩;cases s with
    |no=>trivial
    |d f d=>obtain⟨v,e,h⟩:=h;exact⟨v,e,((h.fresh ha).keep (s1.but λx z=> .inl (.inr (.inr (.inl z))))).av (hA f)⟩
    |own c f es=>obtain⟨e,n,q,xs,hx,hd⟩:=h;exact⟨e, .inl n,q,xs,s1.1 _ _ q hx,((hd.fresh ha).keep (s1.but λx z=> .inl (.inr (.inr (.inl z))))).av (hA f)⟩
    |aG=>exact h
    |raw v=>exact h
    |bK c f es=>obtain⟨e,n,q,xs,hx,hd⟩:=h;exact⟨e, .inl n,q,xs,s1.1 _ _ q hx,((hd.fresh ha).keep (s1.but λx z=> .inl (.inr (.inr (.inl z))))).av (hA f)⟩
    | cu c =>
      obtain⟨e,n,q⟩:=h;refine⟨e,λa ha=>⟨.inl (n a ha).1,(n a ha).2⟩,c.av (hA c.f) (c.keep (.of λx o hx e=>s1.1 x o ?_ e) (c.fresh ha q))⟩;rcases hx with hx|hx
      · exact jl λz=>hx (.inl (.inr (.inr (.inl z))))
      · exact(n x hx).2
def Zm(W:Wd G nb ρ σ H)(s1:Step G.B H H1)(ha:H a=none)(e:H1 a=some (.dK ps))(hd:ay (λx=>G.S nb f x\/x=a) H1 (ks.map cP) ps):
  Wd G (λx=>nb x\/x=a) (ρ.set i (.bK a f ks)) (σ.set i (some (.ref a))) H1:=by
 obtain⟨W2,hN,hA⟩:=W.grow s1 ha e;refine W2.set ⟨rfl, .inr rfl,hN,ps,e,hd.av (hA f)⟩ (λ_ _ _ z=>by cases z) ?_ (λx hx j t hj ht hc=>?_)
 rotate_left
 .have hx:x=a:=aZ.mp hx;subst hx;rcases hc with ⟨c,z⟩|⟨c,rfl⟩
  .cases z
  .exact λz=>W.live x ((W.ok j _ ht).choose_spec.2.2.1 x z).1 ha
 rintro a' f' ds' ⟨rfl,rfl,rfl⟩ j c g cs hj hc z;subst z;obtain⟨x,e1,h1,h2,h3,ys,hy,_⟩:=W.ok j _ hc;rw[hy] at ha;cases ha
def Sv.Be(h:oE G ρ te λf ks=>∀a,E.nx (ρ.set i (.bK a f ks))):Sv G ρ (fV te (fB i)) E:=λnb σ H D W K=>h nb σ H _ W λf a ps H1 ks q s1 ha e hd=>K.nx _ _ _ H1 (q a) (Zm W s1 ha e hd)
def oE.new(h:Θ true []):oE G ρ M5 Θ:=λnb σ H Q W z p hp=>z true p [] _ [] h (.same W.aG (dB hp)) hp bx (by unfold ay;rfl)
@[reducible] noncomputable def BW(p:Int×PyData):PyData:= .tuple [.int p.1,p.2]
noncomputable def qL(ks:Ks)(more:Ks):Ks:=more.foldl (λacc p=>kF acc p.1 p.2) ks
theorem KP{S:aF->Prop}{H:Hp}:∀{more:Ks} {ms:List (Key×V)} {ks:Ks} {ps:List (Key×V)},ay S H (more.map cP) ms->ay S H (ks.map cP) ps->ay S H ((qL ks more).map cP) (oO ps ms)
  |[],ms,ks,ps,h,g=>by unfold ay at h;subst h;exact g
  | p :: r, ms, ks, ps, h, g => by
    rw[bG] at h;unfold ay at h;obtain⟨q,j,rfl,h1,h2⟩:=h;unfold cJ at h1;obtain⟨k,v⟩:=q;have h3:k=dn p.1:=h1.1;subst h3;show ay S H ((qL (kF ks p.1 p.2) r).map cP) (oO (putK ps (dn p.1) v) j);exact KP (more:=r) h2 (ay.put g h1.2)
theorem oE.WK(h:Ev G ρ te λf x=>∃es:Ks,x= .list (es.map BW)/\es.length<=10000/\Θ f (qL [] es)):oE G ρ (ir C0 (bV te cG)) Θ:=λnb σ H Q W z=>
  h nb σ H _ W λf v H1 x ⟨es,ex,hl,q⟩ s1 hv=>by
    subst ex;obtain⟨a,xs,rfl,n,hx,hd⟩:=hv.dW;have key:∀{es:Ks} {xs:List V},af (G.S nb f) H1 (es.map BW) xs->∃kvs:List (Key×V),xs.length=kvs.length/\(∀(j:Nat) (y:V) (p:Key×V),xs[j]?=some y->kvs[j]?=some p->∃a,y= .ref a/\H1 a=some (.tup [kV p.1,p.2]))/\ay (G.S nb f) H1 (es.map cP) kvs:=by
      intro es;induction es with
      |nil=>intro xs h;unfold af at h;subst h;exact⟨[],rfl,λj y p z=>by simp at z,by simp only[nR];unfold ay;rfl⟩
      | cons e es ih =>
        intro xs h;rw[bG] at h;unfold af at h;obtain⟨y,ys,rfl,h1,h2⟩:=h;obtain⟨kvs,g1,g2,g3⟩:=ih h2;obtain⟨b,ws,rfl,bq,hb,d⟩:=h1.ofT;unfold af at d;obtain⟨w1,wr,rfl,k1,d⟩:=d;unfold af at d;obtain⟨w2,wr,rfl,k2,d⟩:=d;unfold af at d;subst d;rw[k1.cC] at hb;refine⟨(dn e.1,w2)::kvs,by simp[g1],λj y p a k=>?_,?_⟩
        · cases j with
          |zero=>simp at a k;subst a k;exact⟨b,rfl,hb⟩
          |succ j=>exact g2 j y p (by simpa using a) (by simpa using k)
        · rw[bG]
          unfold ay;exact⟨_,_,rfl,by unfold cJ;exact⟨rfl,k2⟩,g3⟩
    obtain⟨kvs,g1,g2,g3⟩:=key hd;have hlx:=hd.length;rw[ao] at hlx;refine⟨a,xs,kvs,rfl,hx,g1,∅,g2,λp hp=>?_⟩;have c:ay (G.S nb f) H1 (([]:Ks).map cP) []:=by simp only[nR];unfold ay;rfl
    exact z f p _ _ _ q (s1.trans (.same s1.2 (dB hp))) (W.none_of s1 hp) bx (((KP g3 c).fresh hp).keep (bP.of (dB hp)))
def L8{b:Ks}(W:Wd G nb ρ σ H)(e:ρ[i]?=some (.bK a f ks))(hd:ay (G.S nb g) H (b.map cP) ps):Wd G nb (ρ.set i (.bK a g b)) σ (upd H a (.dK ps)):=by
 obtain⟨x,e1,h1,h2,h3,ys,hy,_⟩:=W.ok i _ e;subst h1;have hil:i<ρ.length:=(aO.mp e).1;have W0:Wd G nb (ρ.set i .no) (σ.set i (some (.ref a))) H:=W.set trivial λ_ _ _ z=>by cases z
 have W1:Wd G nb (ρ.set i .no) (σ.set i (some (.ref a))) (upd H a (.dK ps)):=W0.write h2 h3 (λj c d cs hc z=>by
   subst z;have hij:i≠j:=λz=>by subst z;rw[cI hil] at hc;cases hc
   rw[bI hij] at hc;obtain⟨_,_,_,_,_,ps,hp,_⟩:=W.ok j _ hc;rw[hy] at hp;cases hp) (λj c d cs hc=>by
   by_cases hij:i=j;·subst hij;rw[cI hil] at hc;cases hc
   .rw[bI hij] at hc;exact(W.gz i j _ _ _ _ _ _ hij e hc).symm) (λj c hc z=>by
   have hij:i≠j:=λz=>by subst z;rw[cI hil] at hc;cases hc
   rw[bI hij] at hc;exact W.eZ j i c _ (bH hij) hc e a z (aZ.mpr rfl))
 have W2:=W1.set (i:=i) (s:= .bK a g b) (x:=some (.ref a)) ⟨rfl,h2,h3,ps,bx,hd.keep (bP.set (.inl h2))⟩ (λ_ _ _ z=>by cases z) (by
  rintro a' d ds' ⟨rfl,rfl,rfl⟩ j c g' cs hj hc;rw[bI (bH hj)] at hc;exact W.gz i j _ _ _ _ _ _ (bH hj) e hc) (λx hx j t hj ht hc z=>by
  rw[bI (bH hj)] at ht;have hx:x=a:=aZ.mp hx;subst hx;rcases hc with ⟨c,q⟩|⟨c,rfl⟩
  .cases q
  .exact W.eZ j i c _ hj ht e x z (aZ.mpr rfl))
 rw[mL,mL] at W2;have:σ.set i (some (.ref a))=σ:=by
  apply qo;intro j;by_cases hij:i=j;·subst hij;rw[cI (by rw[W.len];exact hil),e1]
  .rw[bI hij]
 rwa[this] at W2
def Sv.C8(e:ρ[i]?=some (.bK a f ks))(h:Ev G ρ te λg d=>Ev G ρ tb λ_ y=>∃k,y= .int k/\ks.length<10000/\E.nx (ρ.set i (.bK a (f && g) (kF ks k d)))):Sv G ρ (fV te (nY (bZ i) tb G9)) E:=λnb σ H D W KK=>
 h nb σ H _ W λg v H1 d q s1 hv=>by
  obtain⟨x,e1,h1,h2,h3,ps,hp,hd⟩:=(W.step s1).ok i _ e;subst h1;refine⟨.ref a,e1,q nb σ H1 _ (W.step s1) λg' u H2 y ⟨k,r,hl,p⟩ s2 hu=>?_⟩;subst r;have W2:=(W.step s1).step s2;have hlen:=hd.len;refine⟨a,ps, .inl k,rfl,hu.cC,s2.1 _ _ h3 hp,eK (by rw[hlen];exact hl) ⋯,KK.nx nb _ _ _ p (L8 W2 e ?_)⟩;exact ay.put ((hd.keep s2.dj).av (c7 (λz=>(fQ _ _▸z).1) λ_ z=>z)) ((hv.keep s2.dj).av (c7 (λz=>(fQ _ _▸z).2) λ_ z=>z))
namespace Ev
def ZE(e:ρ[i]?=some (.bK a f ks))(h:Ev G ρ tb λ_ y=>∃k,y= .int k/\∃d,iV ks k=some d/\Φ f d):Ev G ρ (cQ uK (bZ i) tb) Φ:=λnb σ H Q W z=>by
 obtain⟨x,e1,h1,h2,h3,ps,hp,hd⟩:=W.ok i _ e;subst h1;refine⟨.ref a,e1,h nb σ H _ W λg w H1 y ⟨k,r,d,hv,p⟩ s1 hw=>?_⟩;subst r;have:=ay.val k (hd.keep s1.dj);rw[hv] at this;obtain⟨v,c,N⟩:=this;exact⟨a,ps, .inl k,v,rfl,hw.cC, .inl (s1.1 _ _ h3 hp),c,z f _ H1 _ p s1 N⟩
def BM(e:ρ[i]?=some (.bK a f ks))(h:Ev G ρ ta λ_ y=>∃k,y= .int k/\Ev G ρ tb λg x=>Φ (f && g) ((iV ks k).getD x)):Ev G ρ (mT K "dict" PZ (bZ i) (bV ta (bV tb cG))) Φ:=λnb σ H Q W z=>by
  obtain⟨x,e1,h1,h2,h3,ps,hp,hd⟩:=W.ok i _ e;subst h1;refine⟨.ref a,e1, .inr (.inr (.inl ⟨rfl, .inl ⟨_,hp⟩⟩)),?_⟩;refine h nb σ H _ W λg w H1 y ⟨k,r,q⟩ s1 hw=>q nb σ H1 _ (W.step s1) λg' u H2 x p s2 hu=>?_;subst r;have hd2:=(hd.keep s1.dj).keep s2.dj;have hv:=ay.val k hd2;refine⟨a,ps, .inl k,u,rfl,by rw[hw.cC];rfl, .inl (s2.1 _ _ h3 (s1.1 _ _ h3 hp)),?_⟩;cases hk:iV ks k with
  | none =>
    rw[hk] at hv p;rw[hv];exact z _ _ H2 _ p (s1.trans s2) (hu.av (c7 (λz=>(fQ _ _▸z).2) λ_ z=>z))
  | some d =>
    rw[hk] at hv p;obtain⟨v,e',N⟩:=hv;rw[e'];exact z _ _ H2 _ p (s1.trans s2) (N.av (c7 (λz=>(fQ _ _▸z).1) λ_ z=>z))
end Ev
end
def xZ(b:Bool):R2:=λx y H Q=>∃a o,y= .ref a/\um H a x o/\Q (.bl (o.isSome !=b)) H
theorem QX(hu:X.A.units+64<wa):dZ X (dc .In) (xZ false):=by
 intro pins s σ H x y v u Q I rx ry h;obtain⟨a,o,rfl,g,q⟩:=h;cases ry;exact Y1 ∅ I g rx λs' b=>⟨.bl o.isSome,H,b,rfl,by simpa using q⟩
theorem NO(hu:X.A.units+64<wa):dZ X (dc .NotIn) (xZ true):=by
 intro pins s σ H x y v u Q I rx ry h;obtain⟨a,o,rfl,g,q⟩:=h;cases ry;exact af9 ∅ I g rx λs' b=>⟨.bl (!o.isSome),H,b,rfl,by simpa using q⟩
section
variable{G:Gx}{ρ:Rh}{Φ:Pd}{ta tb te:TE}{i:Nat}{f:Bool}{ks:Ks}{K:PySem.W.Frag}{E:DE}
def Ev.O0{b:Bool}(e:ρ[i]?=some (.bK a f ks))(h:Ev G ρ ta λ_ y=>∃k,y= .int k/\Φ true (.bool (i6 ks k !=b))):Ev G ρ (cQ (xZ b) ta (bZ i)) Φ:=λnb σ H Q W z=>
 h nb σ H _ W λg w H1 y ⟨k,r,p⟩ s1 hw=>by
  obtain⟨x,e1,h1,h2,h3,ps,hp,hd⟩:=(W.step s1).ok i _ e;subst h1 r;refine⟨.ref a,e1,a,_,rfl,by rw[hw.cC];exact um.k (k:= .inl k) hp,?_⟩;have:(g9 ps (dn k)).isSome=i6 ks k:=by rw[<-z6];exact ay.any k hd
  rw[this];exact z true _ H1 _ p s1 (.bl _)
def EU(W:Wd G nb ρ σ H)(e:ρ[i]?=some (.bK a f ks)):Wd G (λx=>nb x/\x≠a) (ρ.set i (.d f (.dict (ks.map cP)))) σ H:=by
  obtain⟨x,e1,h1,h2,h3,xs,hx,hd⟩:=W.ok i _ e;subst h1;have hil:i<ρ.length:=(aO.mp e).1;have W0:Wd G nb (ρ.set i .no) (σ.set i (some (.ref a))) H:=W.set trivial λ_ _ _ z=>by cases z
  have W1:Wd G (λx=>nb x/\x≠a) (ρ.set i .no) (σ.set i (some (.ref a))) H:=by
    refine⟨W0.aG,λx n=>W0.live x n.1,W0.old,λx n=>W0.ez x n.1,W0.gA,W0.len,W0.gB,λh m=>(W0.eU h m).av (c7 (λz=>z) λ_ z=>z.1),λj s e'=>?_,W0.apart,W0.gz,W0.eZ⟩;obtain⟨x,oj,h⟩:=W0.ok j s e';refine⟨x,oj,?_⟩;have hij:s≠ .no->i≠j:=λn z=>by subst z;rw[cI hil] at e';cases e';exact n rfl
    cases s with
    |no=>trivial
    |d f d=>obtain⟨v,e,h⟩:=h;exact⟨v,e,h.av (c7 (λz=>z) λ_ z=>z.1)⟩
    | own c f es =>
      obtain⟨e2,n,q,ys,hy,l⟩:=h;have b:c≠a:=λz=>by subst z;rw[hx] at hy;cases hy
      exact⟨e2,⟨n,b⟩,q,ys,hy,l.av (c7 (λz=>z) λ_ z=>z.1)⟩
    |aG=>exact h
    |raw v=>exact h
    | bK c f es =>
      obtain⟨e2,n,q,ps,hp,l⟩:=h;have hij:=hij (by intro z;cases z);rw[bI hij] at e';exact⟨e2,⟨n,(W.gz i j _ _ _ _ _ _ hij e e').symm⟩,q,ps,hp,l.av (c7 (λz=>z) λ_ z=>z.1)⟩
    | cu c =>
      obtain⟨e2,n,q⟩:=h;have hij:=hij (by intro z;cases z);rw[bI hij] at e';exact⟨e2,λx hx=>⟨⟨(n x hx).1,λz=>W.eZ j i c _ (bH hij) e' e x hx (by rw[z];exact aZ.mpr rfl)⟩,(n x hx).2⟩,c.av (c7 (λz=>z) λ_ z=>z.1) q⟩
  have W2:=W1.mz (i:=i) (f:=f) (d:= .dict (ks.map cP)) (v:= .ref a) (by
    unfold ai;refine⟨a,xs,rfl,λz=>?_, .inl hx,hd.av (c7 (λz=>z) λ_ z=>z.1)⟩;rcases z with z|z|z|z
    · exact z.2 rfl
    · exact W.gA a z (W.ez a h2 h3)
    · exact z h3
    · exact z.2 (W.ez a h2 h3))
  rw[mL,mL] at W2;have:σ.set i (some (.ref a))=σ:=by
    apply qo;intro j;by_cases hij:i=j;· subst hij;rw[cI (by rw[W.len];exact hil),e1]
    · rw[bI hij]
  rwa[this] at W2
def Sv.TY{s:TS}(i:Nat)(e:ρ[i]?=some (.bK a f ks))(h:Sv G (ρ.set i (.d f (.dict (ks.map cP)))) s E):Sv G ρ s E:=λnb σ H D W K=>h _ σ H D (EU W e) K
def Ev.Ni{b:Bool}(h:Ev G ρ ta λ_ y=>∃k,y= .int k/\Ev G ρ tb λ_ x=>∃ks:Ks,x= .dict (ks.map cP)/\Φ true (.bool (i6 ks k !=b))):Ev G ρ (cQ (xZ b) ta tb) Φ:=
 Ev.kQ (h.mono λf x ⟨k,ex,q⟩=>q.mono λg y ⟨ks,r,p⟩ nb σ H u v Q W hu hv z=>by
  subst ex r;unfold ai at hv;obtain⟨a,ps,rfl,n,hp,hd⟩:=hv;refine⟨a,_,rfl,by rw[hu.cC];exact .inl ⟨ps, .inl k,hp,rfl,rfl⟩,?_⟩;have:(g9 ps (dn k)).isSome=i6 ks k:=by rw[<-z6];exact ay.any k hd
  rw[this];exact z true _ H _ p (.refl W.aG) (.bl _))
def Ev.OV(h:Ev G ρ ta λf x=>∃ks:Ks,x= .dict (ks.map cP)/\Ev G ρ tb λ_ y=>∃k,y= .int k/\∃d,iV ks k=some d/\Φ f d):Ev G ρ (cQ uK ta tb) Φ:=
 Ev.kQ (h.mono λf x ⟨ks,ex,q⟩=>q.mono λg y ⟨k,r,d,c,p⟩ nb σ H u v Q W hu hv z=>by
  subst ex r;unfold ai at hu;obtain⟨a,ps,rfl,n,hp,hd⟩:=hu;have:=ay.val k hd;rw[c] at this;obtain⟨w,hw,N⟩:=this;exact⟨a,ps, .inl k,w,rfl,hv.cC,hp,hw,z f _ H _ p (.refl W.aG) N⟩)
end
def az.Kv{f:Bool}{ks:Ks}(e:ρ[i]?=some (.bK a f ks))(hl:ks.length<64)(h:∀g:List Int,g.Pairwise (· <= ·)->g.Perm (ks.map (·.1))->Θ true (g.map .int)):
  az G ρ (ir Gi (bV (bZ i) cG)) Θ:=λnb σ H Q W z=>by
 obtain⟨x,e1,h1,h2,h3,ps,hp,hd⟩:=W.ok i _ e;subst h1;refine⟨.ref a,e1,a,ps,ks.map (·.1),rfl, .inl hp,ay.keys hd,by rw[ao];exact hl,λl g hl' hw eY=>?_⟩;exact az.fin (f:=true) W (.refl W.aG) hl' (Br g) (h g hw eY) z
structure E9(n:Int)(cs:List aj):Prop where
 n0:1<=n
 n1:n<=10
 c0:cs≠[]
 c1:cs.length<=8
 ok:∀prs∈cs,prs≠[]/\prs.length<=4/\(prs.map (·.1)).Pairwise (· < ·)/\∀pr∈prs,0<=pr.1/\pr.1<n
section
variable{n:Int}{cs:List aj}(h:E9 n cs)
include h
end
theorem af.era{nb:aF->Prop}{H:Hp}:∀{ds:List PyData} {xs:List V} (m:Nat),af nb H ds xs->af nb H (ds.eraseIdx m) (xs.eraseIdx m)
 |[],_,m,h=>by unfold af at h;subst h;exact .nil
 |e::ds,_,0,h=>by unfold af at h;obtain⟨y,ys,rfl,h1,h2⟩:=h;exact h2
 |e::ds,_,m+1,h=>by unfold af at h;obtain⟨y,ys,rfl,h1,h2⟩:=h;exact .cons h1 (af.era m h2)
section
variable{X:Cx}
theorem Vals.ins{y:V}{u:ag}(r:RelV y u):∀{xs:List V} {us:List ag} (k:Nat),Vals xs us->Vals (xs.take k++y::xs.drop k) (us.take k++u::us.drop k)
 |_,_,0,h=> .cons r h
 |[],_,k+1,h=>by cases h;exact .cons r .nil
 |_::_,_,k+1, .cons a h=> .cons a (Vals.ins r k h)
def Se:V->List V->Hp->VK->Prop:=λx vs H Q=>∃l xs y,∃i:Int,x= .ref l/\vs=[.int i,y]/\H l=some (.lst xs)/\0<=i/\i<=xs.length/\xs.length<10000/\Q .aP (upd H l (.lst (xs.take i.toNat++y::xs.drop i.toNat)))
theorem FR:t9 X "list.insert" Se:=by
  intro pins s σ H x vs v us Q I rx rv h;obtain⟨l,xs,y,i,rfl,rfl,C,h0,h1,hz,q⟩:=h;cases rx;cases rv with
  | cons M U =>
    obtain⟨t,rfl⟩:=M;obtain⟨u,rfl,G⟩:=vals1 U;obtain⟨z,its,n,r,hl,e⟩:=I.nJ C;have b:¬(!Builtin.List.listFitsIndex i)=true:=by
      have:=lK (k:=i) ∅ ∅;simpa using this
    refine jf Om ⟨_,e,rfl⟩ PySem.F.entry_list_insert (PySem.F.args_list_insert_3 _ _ _) (AutoSeq1.list_insert_list_int_val_1 l its.toArray n i t u b (by rw[cY];omega)) ⟨e,?_⟩;refine⟨.aP,_,I.we (its':=its.take i.toNat++u::its.drop i.toNat) C e ?_ (Vals.ins G i.toNat r) ?_,rfl,q⟩
    · have hk:(if i<0 then(i+((its.toArray.size:Nat):Int)).toNat else min i.toNat its.toArray.size)=i.toNat:=by
        rw[if_neg ∅,cY];omega
      simp only[hk];apply Array.ext';simp[vg]
    · rw[fk,eH,iG,sW]
      have:sizeLine=sizeLine:=rfl;rw[lS];omega
end
section
variable{G:Gx}{ρ:Rh}{te:TE}{E:DE}{i j:Nat}{f:Bool}{ds:List PyData}{K:PySem.W.Frag}
theorem af.ins{nb:aF->Prop}{H:Hp}{d:PyData}{x:V}(hd:ai nb H d x):∀{ds:List PyData} {xs:List V} (k:Nat),af nb H ds xs->af nb H (ds.take k++d::ds.drop k) (xs.take k++x::xs.drop k)
 |_,_,0,h=> .cons hd h
 |[],_,k+1,h=>by unfold af at h;subst h;exact .cons hd .nil
 |e::ds,_,k+1,h=>by unfold af at h;obtain⟨y,ys,rfl,h1,h2⟩:=h;exact .cons h1 (af.ins hd k h2)
theorem Sv.insert{tb:TE}(e:ρ[i]?=some (.own a f ds))(h:Ev G ρ te λ_ y=>∃k:Int,y= .int k/\0<=k/\k<=ds.length/\ds.length<10000/\Ev G ρ tb λg d=>E.nx (ρ.set i (.own a (f && g) (ds.take k.toNat++d::ds.drop k.toNat)))):
  Sv G ρ (p9 (mT K "list" Se (bZ i) (bV te (bV tb cG)))) E:=λnb σ H D W KK=>by
 obtain⟨x,e1,h1,h2,h3,xs,hx,hd⟩:=W.ok i _ e;subst h1;refine⟨.ref a,e1, .inl ⟨rfl,_,aV.of hx⟩,h nb σ H _ W λT v H1 y ⟨k,r,k0,k1,hl,q⟩ s1 hv=>?_⟩;subst r;have hk:=hv.cC;subst hk;refine q nb σ H1 _ (W.step s1) λg u H2 d p s2 hu=>?_;have W2:=(W.step s1).step s2;have oZ:=s2.1 _ _ h3 (s1.1 _ _ h3 hx);have hd2:=(hd.keep s1.dj).keep s2.dj;have hlen:=hd.length;refine⟨a,xs,u,k,rfl,rfl,oZ,k0,∅,∅,KK.nx nb _ _ _ p (rL W2 e ?_)⟩;exact af.ins (hu.av (c7 (λz=>(fQ _ _▸z).2) λ_ z=>z)) _ (hd2.av (c7 (λz=>(fQ _ _▸z).1) λ_ z=>z))
end
noncomputable def wH(p d:aF):HO:= .ext λh=>h.IsValuesView p d
def M6:V->List V->Hp->VK->Prop:=λx vs H Q=>∃a kvs,x= .ref a/\vs=[]/\H a=some (.dK kvs)/\∀p,H p=none->Q (.ref p) (upd H p (wH p a))
def DV:List V->Hp->VK->Prop:=λxs H Q=>∃p a kvs,xs=[.ref p]/\H p=some (wH p a)/\H a=some (.dK kvs)/\∀l,H l=none->Q (.ref l) (upd H l (.lst (kvs.map (·.2))))
theorem KV.vals:∀{kvs:List (Key×V)} {vs:List (Key×ag)},KV kvs vs->Vals (kvs.map (·.2)) (vs.map (·.2))
 |[],[],_=> .nil
 |a::r,b::t, .cons h1 h2=> .cons h1.2 (KV.vals h2)
section
variable{X:Cx}
def YA:uP X "dict.values" M6:=by
 intro pins s σ H x vs v us Q I rx rv h;obtain⟨a,kvs,rfl,rfl,C,q⟩:=h;cases rx;have Fz:=rv.zero;subst Fz;obtain⟨z,hd,ps,rel,dd⟩:=uv I.hok C;refine ot Ny dd.typeIs PySem.F.entry_dict_values (PySem.F.args_dict_values_1 _) (meets_dict_values (eX X.prog X.w) a hd) ⟨⟨ps,dd⟩,?_⟩;have new:cK X.prog X.w (upd H s.heap.objs.size (wH s.heap.objs.size a)) (s.heap.push {cls:= .type "dict_values",data:= .fields #[.ref a]}) s.heap.objs.size (wH s.heap.objs.size a):=by
  refine⟨⟨_,gk _ rfl,rfl,rfl⟩,⟨_,gk _ rfl⟩,λh1 h2 z k=>?_⟩;obtain⟨o,ho,r⟩:=z;exact⟨o,k o ho,r⟩
 exact⟨.ref s.heap.objs.size,_,I.laid (t':=s.toks) (λb o e=>cF _ e) (aW _) new,rfl,q _ (I.hok.fresh (aW _))⟩
def Y9(hc:X.calm=true):iF X (.type "list") DV:=by
 intro pins s σ H xs us Q I rv h;obtain⟨p,a,kvs,rfl,hp,C,q⟩:=h;obtain⟨u,rfl,G⟩:=vals1 rv;cases G;obtain⟨z,hd,ps,rel,dd⟩:=uv I.hok C;obtain⟨hv,_,_⟩:=I.hok p _ hp;obtain⟨ep,S⟩:=dd.dictAt;have hz:ps.length<=sizeLine:=by rw[<-rel.length];exact z
 refine PySem.W.kdl_call (PySem.W.kdl_values (knd:=eX X.prog X.w) (kvs:=ps) (ep:=ep)) (I.ok.hd hc) ⟨hv,S⟩ hz λh' tk f c' hk N k=>?_;have e:f.toList=ps.map (·.2):=PySem.W.kdl_vals_eq f.toList (by rw[mj];exact k.1) λj v e=>k.2 j v (by rw[<-lU];exact e);have new:cK X.prog X.w (upd H s.heap.objs.size (.lst (kvs.map (·.2)))) h' s.heap.objs.size (.lst (kvs.map (·.2))):=by
  refine⟨by rw[ao];exact z,ps.map (·.2),c',KV.vals rel,?_⟩;rw[<-e,Rl];exact N
 exact⟨.ref s.heap.objs.size,_,I.laid (t':=tk) hk (aW _) new,rfl,q _ (I.hok.fresh (aW _))⟩
end
theorem ay.vals{S:aF->Prop}{H:Hp}:∀{ks:Ks} {ps:List (Key×V)},ay S H (ks.map cP) ps->af S H (ks.map (·.2)) (ps.map (·.2))
  |[],ps,h=>by unfold ay at h;subst h;exact .nil
  | p :: r, ps, h => by
    rw[bG] at h;unfold ay at h;obtain⟨q,j,rfl,h1,h2⟩:=h;unfold cJ at h1;exact .cons h1.2 (ay.vals h2)
section
variable{G:Gx}{ρ:Rh}{ta tb te:TE}{t:TA}{E:DE}{i j:Nat}{f:Bool}{K:PySem.W.Frag}{Φ:Pd}{Θ:Bool->List PyData->Prop}
def az.GH{ks:Ks}(e:ρ[i]?=some (.bK a f ks))(h:Θ (f||fc (ks.map (·.2))) (ks.map (·.2))):az G ρ (ir DV (bV (mT K "dict" M6 (bZ i) cG) cG)) Θ:=λnb σ H Q W z=>by
 obtain⟨x,e1,h1,h2,h3,ps,hp,hd⟩:=W.ok i _ e;subst h1;refine⟨.ref a,e1, .inr (.inr (.inl ⟨rfl, .inl ⟨_,hp⟩⟩)),a,ps,rfl,rfl,hp,λp b=>?_⟩;have J:a≠p:=λz=>by rw[z,b] at hp;cases hp
 refine⟨p,a,ps,rfl,bx,by rw[aH J];exact hp,λl hl=>?_⟩;have s1:Step G.B H (upd H p (wH p a)):= .same W.aG (dB b);exact az.fin (f:=f) W s1 hl ((ay.vals hd).keep s1.dj) h z
end
def ZS{xs ys:List (Key×V)}(h:Rd H a (.dK xs))(g:Rd H a (.dK ys)):xs=ys:=by
 rcases h with h|⟨o,h⟩<;>rcases g with g|⟨u,g⟩<;>rw[h] at g<;>cases g<;>rfl
def vZ.fn:∀{d e:PyData} {k:Key},vZ d k->vZ e k->d=e
  | .int i, e, k, h, g => by
    have h:k= .inl i:=h;cases e<;>first|exact g.elim|(have g:k=_:=g;rw[h] at g;injection g with g;subst g;rfl)|(have g:k=_:=g;rw[h] at g;cases g)
  | .str i, e, k, h, g => by
    have h:k= .inr i:=h;cases e<;>first|exact g.elim|(have g:k=_:=g;rw[h] at g;injection g with g;subst g;rfl)|(have g:k=_:=g;rw[h] at g;cases g)
  | .none,_,_,h,_=>h.elim
  | .bool _,_,_,h,_=>h.elim
  | .list _,_,_,h,_=>h.elim
  | .tuple _,_,_,h,_=>h.elim
  | .dict _,_,_,h,_=>h.elim
mutual
theorem ai.fn{S S':aF->Prop}{H:Hp}:∀{d e:PyData} {v:V},ai S H d v->ai S' H e v->d=e
  | .none, e, v, h, g => by
    unfold ai at h;subst h;cases e<;>unfold ai at g<;>first|rfl|(cases g;done)|(obtain⟨_,_,z,_⟩:=g;cases z)
  | .bool b, e, v, h, g => by
    unfold ai at h;subst h;cases e<;>unfold ai at g<;>first|(cases g;done)|(cases g;rfl)|(obtain⟨_,_,z,_⟩:=g;cases z)
  | .int b, e, v, h, g => by
    unfold ai at h;subst h;cases e<;>unfold ai at g<;>first|(cases g;done)|(cases g;rfl)|(obtain⟨_,_,z,_⟩:=g;cases z)
  | .str b, e, v, h, g => by
    unfold ai at h;subst h;cases e<;>unfold ai at g<;>first|(cases g;done)|(cases g;rfl)|(obtain⟨_,_,z,_⟩:=g;cases z)
  | .list ds, e, v, h, g => by
    unfold ai at h;obtain⟨a,xs,rfl,n,hx,hd⟩:=h;cases e<;>unfold ai at g<;>first|(cases g;done)|skip
    all_goals (obtain⟨r,t,z,c,L,l⟩:=g;cases z)
    all_goals first
      |(rcases L with L|⟨o,L⟩<;>rw[hx] at L<;>cases L;done)
      |(rw[hx] at L;cases L;done)
      |(rw[hx] at L;cases L;rw[af.fn hd l])
  | .tuple ds, e, v, h, g => by
    unfold ai at h;obtain⟨a,xs,rfl,n,hx,hd⟩:=h;cases e<;>unfold ai at g<;>first|(cases g;done)|skip
    all_goals (obtain⟨r,t,z,c,L,l⟩:=g;cases z)
    all_goals first
      |(rcases L with L|⟨o,L⟩<;>rw[hx] at L<;>cases L;done)
      |(rw[hx] at L;cases L;done)
      |(rw[hx] at L;cases L;rw[af.fn hd l])
  | .dict ds, e, v, h, g => by
    unfold ai at h;obtain⟨a,xs,rfl,n,hx,hd⟩:=h;cases e<;>unfold ai at g<;>first|(cases g;done)|skip
    all_goals (obtain⟨r,t,z,c,L,l⟩:=g;cases z)
    all_goals first
      |(rcases hx with hx|⟨o,hx⟩<;>rw[hx] at L<;>cases L;done)
      |(rw[ay.fn hd (by rw[ZS hx L];exact l)])
  termination_by structural d=>d
theorem af.fn{S S':aF->Prop}{H:Hp}:∀{ds es:List PyData} {vs:List V},af S H ds vs->af S' H es vs->ds=es
  | [], es, vs, h, g => by
    unfold af at h;subst h;cases es with
    |nil=>rfl
    |cons e es=>unfold af at g;obtain⟨_,_,z,_⟩:=g;cases z
  | d :: ds, es, vs, h, g => by
    unfold af at h;obtain⟨y,ys,rfl,h1,h2⟩:=h;cases es with
    |nil=>unfold af at g;cases g
    | cons e es =>
      unfold af at g;obtain⟨n,a,z,g1,g2⟩:=g;cases z;rw[ai.fn h1 g1,af.fn h2 g2]
  termination_by structural ds=>ds
theorem ay.fn{S S':aF->Prop}{H:Hp}:∀{ds es:List (PyData×PyData)} {vs:List (Key×V)},ay S H ds vs->ay S' H es vs->ds=es
  | [], es, vs, h, g => by
    unfold ay at h;subst h;cases es with
    |nil=>rfl
    |cons e es=>unfold ay at g;obtain⟨_,_,z,_⟩:=g;cases z
  | d :: ds, es, vs, h, g => by
    unfold ay at h;obtain⟨y,ys,rfl,h1,h2⟩:=h;cases es with
    |nil=>unfold ay at g;cases g
    | cons e es =>
      unfold ay at g;obtain⟨n,a,z,g1,g2⟩:=g;cases z;rw[cJ.fn h1 g1,ay.fn h2 g2]
  termination_by structural ds=>ds
theorem cJ.fn{S S':aF->Prop}{H:Hp}:∀{d e:PyData×PyData} {v:Key×V},cJ S H d v->cJ S' H e v->d=e
  | (k, d), (k', e), v, h, g => by
    unfold cJ at h g;rw[vZ.fn h.1 g.1,ai.fn h.2 g.2]
  termination_by structural d=>d
end
mutual
theorem ai.out{S:aF->Prop}{H:Hp}{c:aF}{D:PyData}(hc:ai S H D (.ref c)):∀{d:PyData} {v:V},sizeOf d<sizeOf D->ai S H d v->ai (λx=>S x\/x=c) H d v
  | .none,_,_,h=>by unfold ai at h⊢;exact h
  | .bool _,_,_,h=>by unfold ai at h⊢;exact h
  | .int _,_,_,h=>by unfold ai at h⊢;exact h
  | .str _,_,_,h=>by unfold ai at h⊢;exact h
  | .list ds, v, hs, h => by
    have h0:=h;unfold ai at h⊢;obtain⟨a,xs,rfl,n,hx,hd⟩:=h;refine⟨a,xs,rfl,λz=>z.elim n λz=>?_,hx,af.out hc (by simp at hs;omega) hd⟩;subst z;rw[ai.fn hc h0] at hs;exact absurd hs (i7 _)
  | .tuple ds, v, hs, h => by
    have h0:=h;unfold ai at h⊢;obtain⟨a,xs,rfl,n,hx,hd⟩:=h;refine⟨a,xs,rfl,λz=>z.elim n λz=>?_,hx,af.out hc (by simp at hs;omega) hd⟩;subst z;rw[ai.fn hc h0] at hs;exact absurd hs (i7 _)
  | .dict ds, v, hs, h => by
    have h0:=h;unfold ai at h⊢;obtain⟨a,xs,rfl,n,hx,hd⟩:=h;refine⟨a,xs,rfl,λz=>z.elim n λz=>?_,hx,ay.out hc (by simp at hs;omega) hd⟩;subst z;rw[ai.fn hc h0] at hs;exact absurd hs (i7 _)
theorem af.out{S:aF->Prop}{H:Hp}{c:aF}{D:PyData}(hc:ai S H D (.ref c)):∀{ds:List PyData} {vs:List V},sizeOf ds<sizeOf D->af S H ds vs->af (λx=>S x\/x=c) H ds vs
  |[],_,_,h=>by unfold af at h⊢;exact h
  | d :: ds, _, hs, h => by
    unfold af at h⊢;obtain⟨y,ys,e,h1,h2⟩:=h;exact⟨y,ys,e,ai.out hc (by simp at hs;omega) h1,af.out hc (by simp at hs;omega) h2⟩
theorem ay.out{S:aF->Prop}{H:Hp}{c:aF}{D:PyData}(hc:ai S H D (.ref c)):∀{ds:List (PyData×PyData)} {vs:List (Key×V)},sizeOf ds<sizeOf D->ay S H ds vs->ay (λx=>S x\/x=c) H ds vs
  |[],_,_,h=>by unfold ay at h⊢;exact h
  | d :: ds, _, hs, h => by
    unfold ay at h⊢;obtain⟨y,ys,e,h1,h2⟩:=h;exact⟨y,ys,e,cJ.out hc (by simp at hs;omega) h1,ay.out hc (by simp at hs;omega) h2⟩
theorem cJ.out{S:aF->Prop}{H:Hp}{c:aF}{D:PyData}(hc:ai S H D (.ref c)):∀{d:PyData×PyData} {v:Key×V},sizeOf d<sizeOf D->cJ S H d v->cJ (λx=>S x\/x=c) H d v
  | (k, d), _, hs, h => by
    unfold cJ at h⊢;exact⟨h.1,ai.out hc (by simp at hs;omega) h.2⟩
end
def iM(G:Gx)(ρ:Rh)(te:TE)(Φ:PyData->Prop):Prop:=∀nb σ H (Q:VK),Wd G nb ρ σ H->(∀v H' d,Φ d->Step G.B H H'->ai (λa=>H a≠none) H' d v->Q v H')->te σ H Q
section
variable{G:Gx}{ρ:Rh}{ta tb te:TE}{t:TA}{E:DE}{i j k m:Nat}{f:Bool}{K:PySem.W.Frag}{Φ:PyData->Prop}
def Wd.QJ(W:Wd G nb ρ σ H)(s:Step G.B H H1)(h:H a≠none):H1 a≠none:=λe=>h (W.none_of s e)
def iM.oU{F:DF}(hm:cW F)(e:ρ[i]?=some .aG)(h:Av G ρ t λes=>es.length+1=n/\F (es.map (·.2)) λf d=>f=true/\Φ d):iM G ρ (iS (iO n F) [] E0 (bV (bZ i) t)) Φ:=λnb σ H Q W z=>by
 obtain⟨b,l,T,e1,B⟩:=W.zG e;refine⟨.ref b,e1,h nb σ H _ W λes vs H1 ⟨hl,p⟩ s1 O=>?_⟩;have W1:=W.step s1;show iO n F ((V.ref b::vs)++[]) H1 Q E0;rw[jg];have hb:∀f,G.S nb f b:=λf=> .inr (.inr (.inl λn=>n b l T rfl));refine⟨by rw[eH,O.len,hl],b,l,vs,G.S nb (kI es),es.map (·.2),rfl,W1.aG b l T,W1.ig,hb _,O.all λz=>z,hm _ _ _ p λf d ⟨hf,hp⟩ v H' bt c hd=>z v H' d hp (s1.trans (.zv T bt c)) (hd.av λa q=>?_)⟩;exact .inr ⟨hf,W.QJ s1 q⟩
def iM.dh{F:DF}(hm:cW F)(h:Av G ρ t λes=>es.length=n/\F (es.map (·.2)) λf d=>f=true/\Φ d):iM G ρ (iS (bF n F) [] E0 t) Φ:=λnb σ H Q W z=>
 h nb σ H _ W λes vs H1 ⟨hl,p⟩ s1 O=>by
  have W1:=W.step s1;rw[jg];refine⟨by rw[O.len,hl],G.S nb (kI es),es.map (·.2),W1.ig,O.all λz=>z,hm _ _ _ p λf d ⟨hf,hp⟩ v H' A hd=>z v H' d hp (s1.trans (.same W1.aG A)) (hd.av λa q=>?_)⟩;exact .inr ⟨hf,W.QJ s1 q⟩
def Wd.adS{c:aF}(W:Wd G nb ρ σ H)(s1:Step G.B H H1)(h:ai (λa=>H a≠none) H1 (.list ds) (.ref c)):
  Wd G (λx=>nb x\/x=c) (ρ.set i (.own c true ds)) (σ.set i (some (.ref c))) H1:=by
 have h0:=h;obtain⟨c',xs,e,n,hx,hd⟩:=h.dW;cases e;have hc:H c=none:=jl λz=>n z;refine Sv.xA W s1 hc hx ((af.out h0 (by simp) hd).av λx z=>?_);rcases z with z|z
 .exact .inl (W.ig x z)
 .exact .inr z
end
noncomputable def cE(aB:List Int)(prs:aj):Nat:=(prs.filter λpr=>decide (pr.1∈aB)).length
noncomputable def gp(cs:List aj)(aB:List Int):Bool:=cs.all λprs=>decide (cE aB prs≠1)
noncomputable def Lr(rows:List (List Int))(aB:List Int):List Int:=aB.flatMap λp=>rows.getD p.toNat []
noncomputable def wZ(L:List Int):Bool:=L.all λc=>decide (L.count c≠1)
noncomputable def tot(cs:List aj):Nat:=(cs.map l3).sum
structure qv(n:Int)(cs:List aj):Prop where
 n0:1<=n
 n1:n<=400
 cl:cs.length<=400
 tl:tot cs<=9000
 ok:∀prs∈cs,∀pr∈prs,0<=pr.1/\pr.1<n
def Ld(e:cs[i]?=some prs):tot (cs.take (i+1))=tot (cs.take i)+prs.length:=by
 unfold tot;rw[Ai e,bS,oS];simp
theorem WV:∀i,tot (cs.take i)<=tot cs:=λi=>by
 have:tot cs=tot (cs.take i)+tot (cs.drop i):=by
  unfold tot;rw[<-oS,<-bS,List.take_append_drop]
 omega
theorem O4{n:Nat}{cs:List aj}:∀i,i<=cs.length->Short (fO n cs i) (tot (cs.take i))
  | 0, _ => λr hr => by
    unfold fO at hr;rw[IB hr];simp
  | i + 1, hi => by
    have ih:=O4 (n:=n) (cs:=cs) i ∅;have e:cs[i]?=some cs[i]:=aC ∅;rw[GU e,Ld e];exact DZ (c:=(i:Int)) (prs:=cs[i]) ih
theorem qv.LA{n:Int}(h:qv n cs):ON n cs:=by
 have h0:=h.n0;have h1:=h.n1;refine⟨∅,∅,h.ok,λi m prs e r hr=>?_⟩;have hi:=(aO.mp e).1;have a1:=DZ (c:=(i:Int)) (prs:=prs.take m) (O4 (n:=n.toNat) (cs:=cs) i ∅) r hr;have y:(prs.take m).length<=prs.length:=by rw[iG];omega
 have a4:=Ld e;have a5:=WV (cs:=cs) (i+1);have:=h.tl;omega
theorem EL{k:Nat}{place:Int}(e:place=(k:Int)):∀{L:aj},(∀x∈L,0<=x.1)->(L.map λpr=>pr.1.toNat).count k=(L.map (·.1)).count place
  |[],_=>rfl
  | x :: L, h => by
    have h0:=h x (cN ..);rw[bG,xm,bG,xm,EL e λy hy=>h y (cM _ hy)]
    congr 1
    by_cases e':x.1=place;· rw[if_pos (by simp;omega),if_pos (by simp[e'])]
    · rw[if_neg (by simp;omega),if_neg (by simpa using e')]
theorem Sy{c x:Int}:∀{prs:aj} {rows:List (List Int)} {g:Nat->Nat},(∀(k:Nat) r,rows[k]?=some r->r.count x=g k)->∀(k:Nat) r,(iT rows c prs)[k]?=some r->r.count x=g k+if x=c then(prs.map λpr=>pr.1.toNat).count k else 0
  |[],rows,g,h,k,r,e=>by simpa using h k r e
  | pr :: prs, rows, g, h, k, r, e => by
    have:=Sy (c:=c) (x:=x) (prs:=prs) (rows:=nK rows c pr) (g:=λk=>g k+if pr.1.toNat=k then(if x=c then 1 else 0) else 0) (λk r e=>by
      unfold nK at e;by_cases hk:pr.1.toNat=k
      · rw[if_pos hk]
        subst hk;by_cases hl:pr.1.toNat<rows.length
        · rw[cI hl] at e
          cases e;have:=h _ _ (aC hl);rw[br,aC hl,Fw,<-this]
          congr 1
          by_cases hx:x=c;· simp[hx]
          · rw[if_neg hx,Kf,if_neg (by simpa using λz=>hx z.symm)]
        · rw[jT (by rw[fR];omega)] at e;cases e
      · rw[if_neg hk]
        rw[bI hk] at e;exact h k r e) k r e
    rw[bG,xm];by_cases hk:pr.1.toNat=k
    · by_cases hx:x=c
      · simp[hk,hx] at this⊢;omega
      · simp[hk,hx] at this⊢;omega
    · simp[hk] at this⊢;omega
theorem BP{n:Nat}{cs:List aj}{x:Int}:∀i,i<=cs.length->∀(k:Nat) r,(fO n cs i)[k]?=some r->r.count x=if 0<=x/\x<i then((cs.getD x.toNat []).map λpr=>pr.1.toNat).count k else 0
  | 0, _, k, r, e => by
    unfold fO at e;have:=bC e;rw[IB this,if_neg ∅];rfl
  | i + 1, hi, k, r, e => by
    obtain⟨prs,S⟩:∃prs,cs[i]?=some prs:=⟨_,aC ∅⟩;rw[GU S] at e;have h1:=Sy (BP (x:=x) i ∅) k r e;rw[h1];by_cases hx:x=(i:Int)
    · subst hx
      have e1:((i:Int)).toNat=i:=jw i;rw[if_neg ∅,if_pos rfl,if_pos ∅,e1,br,S];simp
    · rw[if_neg hx,JD]
      by_cases h2:0<=x/\x<i;· rw[if_pos h2,if_pos ∅]
      · rw[if_neg h2,if_neg ∅]
theorem QF{k:Nat}(e:(fO n cs cs.length)[k]?=some r)(h:x∈r):0<=x/\x<cs.length:=by
 have h1:=BP (x:=x) cs.length (aW _) k r e;have h2:=JG.mpr h;by_cases c:0<=x/\x<cs.length;·exact c
 .rw[if_neg c] at h1;omega
theorem LD:∀{aB:List Int} {prs:aj},aB.Nodup->(aB.map λp=>(prs.map (·.1)).count p).sum=cE aB prs
  | [], prs, _ => by
    unfold cE;rw[Je.mpr (λx _=>by simp)];rfl
  | a :: aB, prs, nd => by
    obtain⟨n1,Z⟩:=jn.mp nd;rw[bG,lB,LD Z];unfold cE;clear Z nd;induction prs with
    |nil=>rfl
    | cons pr prs ih =>
      rw[bG,xm,kN,kN];by_cases h1:pr.1=a
      · have h2:pr.1∉aB:=by rw[h1];exact n1
        rw[if_pos (by simp[h1]),if_neg (by simpa using h2),if_pos (by simp[h1]),eH];omega
      · by_cases h2:pr.1∈aB
        · rw[if_neg (by simpa using h1),if_pos (by simpa using h2),if_pos (by simp[h2]),eH,eH]
          omega
        · rw[if_neg (by simpa using h1),if_neg (by simpa using h2),if_neg (by simp[h1,h2])]
          omega
theorem Mj{n:Int}{aB:List Int}(h:qv n cs)(nd:aB.Nodup)(hl:∀p∈aB,0<=p/\p<n)(x:Int):(Lr (fO n.toNat cs cs.length) aB).count x=if 0<=x/\x<cs.length then cE aB (cs.getD x.toNat []) else 0:=by
 have h1:=h.n0;have key:∀p∈aB,((fO n.toNat cs cs.length).getD p.toNat []).count x=if 0<=x/\x<cs.length then((cs.getD x.toNat []).map (·.1)).count p else 0:=λp hp=>by
  obtain⟨e,k⟩:=hl p hp;have hk:p.toNat<(fO n.toNat cs cs.length).length:=by rw[AV];omega
  rw[br,aC hk];have:=BP (x:=x) cs.length (aW _) p.toNat _ (aC hk);show n5 x (fO n.toNat cs cs.length)[p.toNat]=_;rw[this];by_cases c:0<=x/\x<cs.length
  .rw[if_pos c,if_pos c];refine EL ∅ λy hy=>?_;have hx:x.toNat<cs.length:=∅
   rw[br,aC hx] at hy;exact(h.ok _ (cU hx) y hy).1
  .rw[if_neg c,if_neg c]
 unfold Lr;rw[List.count_flatMap];by_cases c:0<=x/\x<cs.length
 .rw[if_pos c,<-LD nd]
  congr 1
  apply tU;intro p hp;show n5 x _=_;rw[key p hp,if_pos c]
 .rw[if_neg c];have:aB.map (n5 x∘λp=>(fO n.toNat cs cs.length).getD p.toNat [])=aB.map λ_=>0:=by
   apply tU;intro p hp;show n5 x _=_;rw[key p hp,if_neg c]
  rw[this];clear this key nd hl;induction aB with
  |nil=>rfl
  |cons a l ih=>simpa using ih
theorem N1{n:Int}{aB:List Int}(h:qv n cs)(nd:aB.Nodup)(hl:∀p∈aB,0<=p/\p<n):wZ (Lr (fO n.toNat cs cs.length) aB)=gp cs aB:=by
 unfold wZ gp;rw[jS,g6,g6];constructor
 .intro g prs hp;obtain⟨i,hi⟩:=ic hp;have hil:=(aO.mp hi).1;refine decide_eq_true λz=>?_;have e:=Mj h nd hl (i:Int);rw[if_pos ∅,jw,br,hi] at e;have e':(Lr (fO n.toNat cs cs.length) aB).count (i:Int)=1:=by rw[e];exact z
  have:=of_decide_eq_true (g (i:Int) (JG.mp ∅));exact this e'
 .intro g x hx;refine decide_eq_true λz=>?_;have e:=Mj h nd hl x;rw[z] at e;by_cases c:0<=x/\x<cs.length
  .rw[if_pos c] at e;have hi:x.toNat<cs.length:=∅
   rw[br,aC hi] at e;exact of_decide_eq_true (g _ (cU hi)) e.symm
  .rw[if_neg c] at e;omega
def kB(L:List Int)(ks:Ks):Prop:=∃ms:List Int,ms.Nodup/\(∀c,c∈ms↔c∈L)/\ks=ms.map λc=>(c,aq (L.count c))
theorem Mg{g:Int->PyData}{c:Int}:∀{ms:List Int},iV (ms.map λc=>(c,g c)) c=if c∈ms then some (g c) else none
  |[]=>rfl
  | m :: ms => by
    rw[bG,rm,Mg];by_cases h:m=c;· subst h;simp
    · have h':¬c=m:=λz=>h z.symm
      simp[h,h']
def kB.nil:kB [] []:=⟨[],zd,λ_=>Iff.rfl,rfl⟩
def kB.get{ks:Ks}(h:kB L ks)(c:Int):(iV ks c).getD (.int 0)= .int (L.count c):=by
 obtain⟨ms,nd,hm,rfl⟩:=h;rw[Mg];by_cases e:c∈ms;·rw[if_pos e];rfl
 .rw[if_neg e];have:L.count c=0:=List.count_eq_zero.mpr λz=>e ((hm c).mpr z);rw[this];rfl
def kB.put{ks:Ks}(h:kB L ks)(c:Int):kB (L++[c]) (kF ks c (.int ((L.count c:Int)+1))):=by
 obtain⟨ms,nd,hm,rfl⟩:=h;have g:∀x,(L++[c]).count x=L.count x+if c=x then 1 else 0:=λx=>by
  rw[Fw,Kf];by_cases e:c=x;·subst e;simp
  .simp[e]
 unfold kF;have hk:i6 (ms.map λc=>(c,aq (L.count c))) c=decide (c∈ms):=by
  rw[jS,zA,j7,decide_eq_true_eq];have:(ms.map ((·.1)∘λc=>(c,aq (L.count c))))=ms:=uk (λ_=>rfl) ms;rw[this]
 rw[hk];by_cases e:c∈ms
 .rw[if_pos (decide_eq_true e)];refine⟨ms,nd,λx=>?_,?_⟩
  .rw[dM,aZ,hm x];exact⟨.inl,λz=>z.elim id λz=>by rw[z];exact(hm c).mp e⟩
  .rw[j7];apply tU;intro x hx;show(if x=c then(x,aq ((L.count c:Int)+1)) else(x, .int (L.count x)))=_;rw[g x];by_cases z:x=c;·subst z;simp
   .rw[if_neg z,if_neg (λw=>z w.symm)];rfl
 .rw[if_neg (by simpa using e)];refine⟨ms++[c],?_,λx=>?_,?_⟩
  .rw[l9];exact⟨nd,by simp,λa ha b hb z=>by rw[aZ.mp hb] at z;exact e (z▸ha)⟩
  .rw[dM,dM,hm x]
  .rw[bS]
   congr 1
   .apply tU;intro x hx;rw[g x,if_neg (λw=>by subst w;exact e hx)];rfl
   .show[(c,aq ((L.count c:Int)+1))]=[(c,aq (((L++[c]).count c:Nat):Int))];rw[g c,if_pos rfl];rfl
theorem kB.len{ks:Ks}(h:kB L ks){m:Nat}(hb:∀c∈L,0<=c/\c<m):ks.length<=m:=by
 obtain⟨ms,nd,hm,rfl⟩:=h;rw[ao];have:=uA (l₂:=(aL m).map λ(i:Nat)=>(i:Int)) nd λk hk=>by
  obtain⟨a,b⟩:=hb k ((hm k).mp hk);exact cL.mpr ⟨k.toNat,iQ.mpr ∅,∅⟩
 simpa using this
theorem kB.vals{ks:Ks}(h:kB L ks):∃ns:List Int,ks.map (·.2)=ns.map aq/\(decide ((1:Int)∈ns) !=true)=wZ L:=by
 obtain⟨ms,nd,hm,rfl⟩:=h;refine⟨ms.map λc=>(L.count c:Int),by rw[j7,j7];rfl,?_⟩;unfold wZ;have hb:∀b:Bool,(b !=true)=!b:=⋯
 rw[hb,jS,g6,nT,decide_eq_false_iff_not,cL];constructor
 .intro g c hc;exact decide_eq_true λz=>g ⟨c,(hm c).mpr hc,by rw[z];rfl⟩
 .rintro g ⟨c,hc,e⟩;exact of_decide_eq_true (g c ((hm c).mp hc)) ∅
def N0(rows:List (List Int))(aB:List Int)(p:Int):Lr rows (aB++[p])=Lr rows aB++rows.getD p.toNat []:=by unfold Lr;simp
structure GC(n:Int)(l:List Int):Prop where
 nd:l.Nodup
 rg:∀x∈l,0<=x/\x<n
theorem GC.len{n:Int}{l:List Int}(h:GC n l)(hn:n<=400):l.length<=400:=by
 have:=uA (l₂:=(aL n.toNat).map λ(i:Nat)=>(i:Int)) h.nd λk hk=>by
  obtain⟨a,b⟩:=h.rg k hk;exact cL.mpr ⟨k.toNat,iQ.mpr ∅,∅⟩
 rw[ao,kD] at this;omega
def tw(aB:List Int)(prs:aj)(pr:Int×Int):(prs++[pr]).filter (λpr=>decide (pr.1∈aB))=prs.filter (λpr=>decide (pr.1∈aB))++if pr.1∈aB then[pr] else[]:=by
 rw[jx]
 congr 1
 by_cases h:pr.1∈aB;·simp[h]
 .simp[h]
def Qg(q:Int->Bool){xs:List Int}{j:Nat}{x:Int}(e:xs[j]?=some x):(xs.take (j+1)).filter q=(xs.take j).filter q++if q x=true then[x] else[]:=by
 rw[Ai e,jx]
 congr 1
 rw[kN,vY]
section
variable{G:Gx}{ρ:Rh}{t0:TE}{E:DE}{i0 j:Nat}{f:Bool}{K K2:PySem.W.Frag}
theorem Sv.WT(e:ρ[i]?=some (.own a f ds))(h:Ev G ρ te λ_ y=>∃(m:Nat),y= .int (m:Int)/\m<ds.length/\m<2^62/\E.nx (ρ.set i (.own a f (ds.eraseIdx m)))):
  Sv G ρ (p9 (mT K "list" Qq (bZ i) (bV te cG))) E:=λnb σ H D W KK=>by
 obtain⟨x,e1,h1,h2,h3,xs,hx,hd⟩:=W.ok i _ e;subst h1;refine⟨.ref a,e1, .inl ⟨rfl,_,aV.of hx⟩,h nb σ H _ W λg v H1 y ⟨m,r,hm,R,q⟩ s1 hv=>?_⟩;subst r;have hk:=hv.cC;subst hk;have W1:=W.step s1;have vM:=s1.1 _ _ h3 hx;have hd1:=hd.keep s1.dj;obtain⟨n,j,N⟩:=hd1.get (aC hm);have hml:m<xs.length:=(aO.mp j).1;have U:pY (m:Int) xs.length=some m:=by
  have:dS xs.length (m:Int)=some m:=by
   unfold dS;rw[if_pos ∅,if_pos ∅,jw]
  exact(IQ this).1
 refine⟨a,xs,(m:Int),m,n,rfl,rfl,vM,∅,∅,U,j,?_⟩;exact KK.nx nb _ _ _ q (Sv.rL W1 e (hd1.era m))
end
section
variable{G:Gx}{ρ:Rh}{te:TE}{i:Nat}{f:Bool}{K:PySem.W.Frag}
def Tv.C9{Θ:Bool->Prop}(e:ρ[i]?=some (.own a f ds))(h:Θ (!ds.isEmpty)):Tv G ρ (Cq K (bZ i)) Θ:=λnb σ H Q W z=>by
 obtain⟨x,e1,h1,h2,h3,xs,hx,hd⟩:=W.ok i _ e;subst h1;have hl:=hd.length;have:xs.isEmpty=ds.isEmpty:=by cases xs<;>cases ds<;>first|rfl|(simp at hl)
 refine⟨.ref a,e1,_, .inl ⟨xs, .of hx,rfl⟩,?_⟩;rw[this];exact z _ H h (.refl W.aG)
def Tv.Yy{Θ:Bool->Prop}(h:Ev G ρ te λ_ x=>∃ds,x= .list ds/\Θ (!ds.isEmpty)):Tv G ρ (Cq K te) Θ:=λnb σ H Q W z=>
 h nb σ H _ W λf v H1 d ⟨ds,e,q⟩ s1 hv=>by
  subst e;obtain⟨a,xs,rfl,n,hx,hd⟩:=hv.dW;have hl:=hd.length;have:xs.isEmpty=ds.isEmpty:=by cases xs<;>cases ds<;>first|rfl|(simp at hl)
  refine⟨_, .inl ⟨xs, .of hx,rfl⟩,?_⟩;rw[this];exact z _ H1 q s1
end
def MS:V->List V->Hp->VK->Prop:=λx vs H Q=>∃a kvs k v,x= .ref a/\vs=[kV k]/\H a=some (.dK kvs)/\g9 kvs k=some v/\Q v (upd H a (.dK (nX kvs k)))
def H8:t9 X "dict.pop" MS:=by
 intro pins s σ H x vs v us Q I rx rv h;obtain⟨a,kvs,k,w,rfl,rfl,C,hv,q⟩:=h;cases rx;obtain⟨u,rfl,G⟩:=rv.one;exact acq I C G hv (.inl rfl) λw' s' b r'=>⟨w,_,b,r',q⟩
theorem ay.drop{S:aF->Prop}{H:Hp}{k:Int}:∀{ks:Ks} {ps:List (Key×V)},ay S H (ks.map cP) ps->ay S H ((tE ks k).map cP) (nX ps (dn k))
  |[],ps,h=>by unfold ay at h;subst h;unfold tE nX;simp only[vY,nR];unfold ay;rfl
  | p :: r, ps, h => by
    rw[bG] at h;unfold ay at h;obtain⟨q,j,rfl,h1,h2⟩:=h;have ih:=ay.drop (k:=k) h2;have h0:=h1;unfold cJ at h1;have h3:q.1=dn p.1:=h1.1;unfold tE nX at ih⊢;rw[kN,kN];by_cases e:p.1=k
    · rw[if_neg (by simpa using e),if_neg (by rw[h3,e];simp)]
      exact ih
    · rw[if_pos (by simpa using e),if_pos (by rw[h3];simpa using e),bG]
      unfold ay;exact⟨q,_,rfl,h0,ih⟩
section
variable{G:Gx}{ρ:Rh}{ta tb te:TE}{t:TA}{E:DE}{i j m n:Nat}{f:Bool}{K K2 K3:PySem.W.Frag}{Φ:Pd}
def Sv.Y7{ks:Ks}(e:ρ[i]?=some (.bK a f ks))(h:Ev G ρ te λ_ y=>∃k,y= .int k/\i6 ks k=true/\E.nx (ρ.set i (.bK a f (tE ks k)))):
  Sv G ρ (p9 (mT K "dict" MS (bZ i) (bV te cG))) E:=λnb σ H D W KK=>by
 obtain⟨x,e1,h1,h2,h3,ps,hp,hd⟩:=W.ok i _ e;subst h1;refine⟨.ref a,e1, .inr (.inr (.inl ⟨rfl, .inl ⟨_,hp⟩⟩)),h nb σ H _ W λg v H1 y ⟨k,r,hk,q⟩ s1 hv=>?_⟩;subst r;have hk':=hv.cC;subst hk';have hd1:=hd.keep s1.dj;have:=ay.val k hd1;rw[<-Tu] at hk;obtain⟨d,s⟩:=CI.mp hk;rw[s] at this;obtain⟨v,c,_⟩:=this;exact⟨a,ps, .inl k,v,rfl,rfl,s1.1 _ _ h3 hp,c,KK.nx nb _ _ _ q (L8 (W.step s1) e (ay.drop hd1))⟩
def iM.Mb{ks:Ks}(i:Nat)(e:ρ[i]?=some (.bK a f ks))(h:iM G (ρ.set i (.d f (.dict (ks.map cP)))) te Ψ):iM G ρ te Ψ:=λnb σ H Q W z=>h _ σ H Q (EU W e) z
def Ev.Gk(h:iM G ρ te λd=>Φ true d):Ev G ρ te Φ:=λnb σ H Q W z=>h nb σ H Q W λv H' d p st hd=>z true v H' d p st (hd.av λa q=>W.ig a q)
def az.L9(i:Nat)(e:ρ[i]?=some (.own a f ds))(h:az G (ρ.set i (.d f (.list ds))) te λ_ es=>es.all jt=true/\Θ true es):az G ρ te Θ:=λnb σ H Q W z=>
 h _ σ H Q (Sv.share W e) λf c xs H' es ⟨hs,p⟩ st hc hx hd=>z true c xs H' es p st hc hx (af.jH hs hd)
def P6:V->V->Hp->VK->Prop:=λo i H Q=>∃a xs k v,o= .ref a/\i= .int k/\H a=some (.lst xs)/\0<=k/\bE xs k=some v/\Q v H
def Sv.VS{g:Int->Int->Int}{c:Int}(e:ρ[i]?=some (.own a f ds))(h:Ev G ρ tb λ_ y=>∃k m x,y= .int k/\0<=k/\dS ds.length k=some m/\bE ds k=some (.int x)/\E.nx (ρ.set i (.own a f (ds.set m (.int (g x c)))))):
  Sv G ρ (LB (bZ i) tb (tC (.int c)) P6 (RE g) qd) E:=λnb σ H D W KK=>by
 obtain⟨x,e1,h1,h2,h3,xs,hx,hd⟩:=W.ok i _ e;subst h1;refine⟨.ref a,e1,h nb σ H _ W λg' u H2 y ⟨k,m,x,r,k0,hm,ha,p⟩ s2 hu=>?_⟩;subst r;have hk:=hu.cC;subst hk;have oZ:=s2.1 _ _ h3 hx;have hd2:=hd.keep s2.dj;obtain⟨w,hw,N⟩:=hd2.bE ha;have ZH:=N.cC;subst ZH;refine⟨a,xs,k,_,rfl,rfl,oZ,k0,hw,x,c,rfl,rfl,a,xs,k,m,rfl,rfl,oZ,by rw[hd.length];exact hm,KK.nx nb _ _ _ p (rL (W.step s2) e ?_)⟩;exact af.set' (.int _) m hd2
def Sv.aac{F:DF}{i0 q:Nat}{o:aF}{M l:Bool}{U ws cs:List PyData}{ks:Ks}{c:Int}(hm:cW F)(T:j≠q)
  (e0:ρ[i0]?=some (.d M (.tuple U))) (e2:bE U 2=some (.list cs)) (s:ρ[j]?=some (.own a f (ws++[.int c]))) (eq:ρ[q]?=some (.bK o l ks)) (hc:bE cs c=some dd)
  (h:F [dd, .dict (ks.map cP)] λg d=>g=true/\E.nx ((ρ.set j (.own a f ws)).set m (.d true d))):
  Sv G ρ (fV (iS (bF 2 F) [] E0 (bV (cQ (bO K) (cQ (bJ K2) (bZ i0) (tC (.int 2))) (mT K3 "list" P4 (bZ j) cG)) (bV (bZ q) cG))) (fB m)) E:=λnb σ H D W KK=>by
 obtain⟨Y,Q,v0,rfl,b⟩:=W.ok i0 _ e0;obtain⟨a0,u,rfl,n0,R,Ww⟩:=b.ofT;obtain⟨w2,VL,r⟩:=Ww.bE e2;obtain⟨L,P,rfl,nL,xB,t⟩:=r.dW;obtain⟨wc,ZG,O⟩:=t.bE hc;obtain⟨x,e1,h1,h2,h3,xs,hx,hd⟩:=W.ok j _ s;subst h1;have hlx:=hd.length;rw[fk,i9] at hlx;obtain⟨k,hvl,V⟩:=hd.get (i:=ws.length) (d:= .int c) (by rw[jr (aW _),vk];rfl);have acW:=V.cC;subst acW;have J:L≠a:=λz=>nL (by rw[z];exact .inl h2);have w:xs.dropLast=xs.take ws.length:=by rw[R5,hlx];rfl
 have C:af (G.S nb f) H ws xs.dropLast:=by
  have:=hd.take ws.length;rw[List.take_left] at this;rw[w];exact this
 have W1:=rL W s C;have e:(ρ.set j (.own a f ws))[q]?=some (.bK o l ks):=by rw[bI T];exact eq
 obtain⟨y,e3,k1,k2,k3,ps,hp,Z⟩:=W1.ok q _ e;subst k1;have S1:=EU W1 e;refine⟨.ref a0,Q,a0,u,2, .ref L,rfl,rfl, .of R,VL, .ref a,e1, .inl ⟨rfl,_,aV.of hx⟩,a,xs, .int c,rfl,rfl,hx,by rw[hlx,Nat.add_sub_cancel];exact hvl,?_⟩;refine⟨L,P,c,wc,rfl,rfl, .of (by rw[aH J];exact xB),ZG, .ref o,e3,?_⟩;have X:ai (G.S nb M) (upd H a (.lst xs.dropLast)) dd wc:=O.keep (bP.set (.inl h2));have I:((ρ.set j (.own a f ws)).set q (.d l (.dict (ks.map cP))))[q]?=some (.d l (.dict (ks.map cP))):=cI (by rw[fR];exact(aO.mp eq).1);obtain⟨n,e4,v4,e5,N⟩:=S1.ok q _ I;rw[e3] at e4;cases e4;cases e5;refine⟨rfl,(λx=>G.S (λx=>nb x/\x≠o) false x),[dd, .dict (ks.map cP)],S1.ig, .cons (X.av λx z=>?_) (.cons (N.av (c7 (λz=>by cases z) λ_ z=>z)) .nil),hm _ _ _ h λg d ⟨hg,p⟩ v H' A hv=>?_⟩
 .rcases z with z|z|z|z
  .exact .inl z.1
  .exact .inr (.inl z)
  .exact .inr (.inr (.inl z))
  .cases z.1
 .subst hg;have st:Step G.B (upd H a (.lst xs.dropLast)) H':= .same W1.aG A;refine KK.nx nb _ _ _ p ((W1.step st).mz (i:=m) (f:=true) (hv.av λx z=> .inr ⟨rfl,W1.ig x z⟩))
end
theorem RL:M4 X P6:=by
 intro pins s σ H o i ov iv Q I ro ri h;obtain⟨a,xs,k,v,rfl,rfl,C,k0,hv,q⟩:=h;cases ro;obtain⟨t,rfl⟩:=ri;obtain⟨its,r,pl,hz⟩:=I.list (aV.of C);obtain⟨j,h1,h2,h3,h4,h5⟩:=Ag hv;obtain⟨w,ew,b⟩:=r.get h2;have hl:=r.length;have hn:=qN;have hj:k.toNat=j:=by
  rw[l4 k0 h5] at h1;exact fP h1
 exact wpAny_getItem_list pl.isList k0 ∅ (by rw[hj];simpa using ew) ⟨v,H,I,b,q⟩
structure l6(cs:List aj)(aB g:List Int):Prop where
 sub:∃q:Int->Bool,g=aB.filter q
 out:gp cs g=true
 max:∀T:List Int,(∀x∈T,x∈aB)->gp cs T=true->∀x∈T,x∈g
structure GI(cs:List aj)(aB S cn ws:List Int):Prop where
 sub:∃q:Int->Bool,S=aB.filter q
 cnt:cn=cs.map λprs=>(cE S prs:Int)
 nd:ws.Nodup
 rg:∀w∈ws,0<=w/\w<cs.length
 one:∀(c:Nat) prs,cs[c]?=some prs->cE S prs=1->(c:Int)∈ws
 few:∀w∈ws,∀prs,cs[w.toNat]?=some prs->cE S prs<=1
 max:∀T:List Int,(∀x∈T,x∈aB)->gp cs T=true->∀x∈T,x∈S
def GI.mem{aB S:List Int}(h:GI cs aB S cn ws):∀x∈S,x∈aB:=λx hx=>by
 obtain⟨q,e⟩:=h.sub;rw[e] at hx;exact(fG.mp hx).1
def GI.done{aB S:List Int}(h:GI cs aB S cn []):l6 cs aB S:=by
 refine⟨h.sub,?_,h.max⟩;unfold gp;rw[g6];intro prs hp;refine decide_eq_true λz=>?_;obtain⟨c,hc⟩:=ic hp;exact absurd (h.one c prs hc z) (by simp)
theorem GI.drop{aB S:List Int}{w:Int}(h:GI cs aB S cn (ws++[w]))(hp:cs[w.toNat]?=some prs)(h0:cE S prs=0):GI cs aB S cn ws:=by
 obtain⟨n1,_,d⟩:=l9.mp h.nd;refine⟨h.sub,h.cnt,n1,λx hx=>h.rg x (jB _ hx),λc u hu h1=>?_,λx hx=>h.few x (jB _ hx),h.max⟩;rcases dM.mp (h.one c u hu h1) with z|z
 .exact z
 .have e:=aZ.mp z;rw[<-e,jw,hu] at hp;cases hp;omega
theorem FO{S T:List Int}(h:∀x∈T,x∈S)(prs:aj):cE T prs<=cE S prs:=by
  unfold cE;induction prs with
  |nil=>exact aW _
  | cons pr prs ih =>
    rw[kN,kN];by_cases c:pr.1∈T;· rw[if_pos (by simpa using c),if_pos (by simpa using h _ c),eH,eH];omega
    · rw[if_neg (by simpa using c)]
      by_cases c2:pr.1∈S;· rw[if_pos (by simpa using c2),eH];omega
      · rw[if_neg (by simpa using c2)];exact ih
theorem Fy{S:List Int}(hx:x∈S)(prs:aj):cE S prs=(prs.map (·.1)).count x+cE (S.filter λy=>decide (y≠x)) prs:=by
  unfold cE;induction prs with
  |nil=>rfl
  | cons pr prs ih =>
    rw[kN,kN,bG,xm];by_cases c:pr.1=x;· rw[if_pos (by simp[c,hx]),if_pos (by simp[c]),if_neg (by simp[c]),eH,ih];omega
    · by_cases c2:pr.1∈S
      · rw[if_pos (by simpa using c2),if_neg (by simpa using c),if_pos (by simp[c,c2]),eH,eH,ih];omega
      · rw[if_neg (by simpa using c2),if_neg (by simpa using c),if_neg (by simp[c2]),ih];omega
def xN{T:List Int}(hx:x∈T)(h:x∈prs.map (·.1)):1<=cE T prs:=by
 obtain⟨pr,hp,e⟩:=cL.mp h;unfold cE;exact Lh (fG.mpr ⟨hp,by rw[e];simpa using hx⟩)
structure GJ(cs:List aj)(S row:List Int)(c0:Int)(m:Nat)(cn ws:List Int):Prop where
 len:cn.length=cs.length
 cnt:∀(c:Nat) prs,cs[c]?=some prs->cn[c]?=some ((cE S prs:Int)-((row.take m).count (c:Int):Int))
 nd:ws.Nodup
 rg:∀w∈ws,0<=w/\w<cs.length
 one:∀(c:Nat),cn[c]?=some 1->(c:Int)∈ws\/(c:Int)=c0
 few:∀w∈ws,∀v,cn[w.toNat]?=some v->v<=1
theorem GI.start{aB S row:List Int}(h:GI cs aB S cn (ws++[c0])):GJ cs S row c0 0 cn ws:=by
 obtain⟨n1,_,d⟩:=l9.mp h.nd;have a:∀(c:Nat) v,cn[c]?=some v->∃prs,cs[c]?=some prs/\v=(cE S prs:Int):=λc v e=>by
  rw[h.cnt] at e;exact c9 e
 refine⟨by rw[h.cnt,ao],λc prs e=>?_,n1,λx hx=>h.rg x (jB _ hx),λc e=>?_,λx hx v e=>?_⟩
 .rw[h.cnt,bw,e];simp
 .obtain⟨prs,e1,e2⟩:=a c 1 e;rcases dM.mp (h.one c prs e1 ∅) with z|z
  .exact .inl z
  .exact .inr (aZ.mp z)
 .obtain⟨prs,e1,e2⟩:=a _ v e;have:=h.few x (jB _ hx) prs e1;omega
theorem GJ.at{S row:List Int}(h:GJ cs S row c0 m cn ws){c:Int}(h0:0<=c)(h1:c<cs.length):∃v,cn[c.toNat]?=some v:=by
 have:=h.len;exact⟨_,aC ∅⟩
theorem GJ.step{S row:List Int}{c v:Int}(h:GJ cs S row c0 m cn ws)(hm:row[m]?=some c)(h0:0<=c)(h1:c<cs.length)(hv:cn[c.toNat]?=some v):
  GJ cs S row c0 (m+1) (cn.set c.toNat (v-1)) (if v-1=1 then ws++[c] else ws):=by
 have d:c.toNat<cn.length:=(aO.mp hv).1;have g:((c.toNat:Nat):Int)=c:=∅
 have f:∀w∈ws,∀u,(cn.set c.toNat (v-1))[w.toNat]?=some u->u<=1:=λw hw u e=>by
  by_cases z:c.toNat=w.toNat
  .rw[z,cI ∅] at e;cases e;rw[z] at hv;have:=h.few w hw v hv;omega
  .rw[bI z] at e;exact h.few w hw u e
 refine⟨by rw[fR];exact h.len,λk prs e=>?_,?_,?_,λk e=>?_,?_⟩
 .have e0:=h.cnt k prs e;rw[Ai hm,Fw,Kf];by_cases z:c.toNat=k
  .subst z;rw[cI d,g];rw[e0,g] at hv;cases hv;rw[if_pos (by simp)]
   congr 1
   omega
  .rw[bI z,e0,if_neg (by simp;omega)]
   rfl
 .split
  .rename_i hone
   rw[l9];refine⟨h.nd,by simp,λa ha b hb z=>?_⟩;rw[aZ.mp hb] at z;subst z;have:=h.few a ha v hv;omega
  .exact h.nd
 .split
  .intro w hw;rcases dM.mp hw with z|z
   .exact h.rg w z
   .rw[aZ.mp z];exact⟨h0,h1⟩
  .exact h.rg
 .by_cases z:c.toNat=k
  .subst z;rw[cI d] at e;have e:=fP e;rw[if_pos e,g];exact .inl (jI _ (by simp))
  .rw[bI z] at e;rcases h.one k e with q|q
   .split;·exact .inl (jB _ q)
    .exact .inl q
   .exact .inr q
 .split
  .rename_i hone
   intro w hw u e;rcases dM.mp hw with z|z
   .exact f w z u e
   .rw[aZ.mp z,cI d] at e;cases e;omega
  .exact f
theorem GJ.fin{aB S g oX row:List Int}{b:aj}(h:GI cs aB S cn (ws++[c0]))(l:cs[c0.toNat]?=some b)(hx:x∈S)(R:x∈b.map (·.1))(Z:∀(c:Nat) prs,cs[c]?=some prs->row.count (c:Int)=(prs.map (·.1)).count x)
    (j:GJ cs S row c0 row.length g oX):GI cs aB (S.filter λy=>decide (y≠x)) g oX:=by
  have hc0:=h.rg c0 (jI _ (by simp));have hfew:=h.few c0 (jI _ (by simp)) b l;have hone:=xN hx R;have hn:∀prs,cE (S.filter λy=>decide (y≠x)) prs=cE S prs-(prs.map (·.1)).count x:=λprs=>by have:=Fy hx prs;omega
  have a:∀(c:Nat) prs,cs[c]?=some prs->g[c]?=some (cE (S.filter λy=>decide (y≠x)) prs:Int):=λc prs e=>by
    rw[j.cnt c prs e,c6,Z c prs e];have:=Fy hx prs
    congr 1
    omega
  refine⟨?_,?_,j.nd,j.rg,λc prs e h1=>?_,λw hw prs e=>?_,λT hT ho y hy=>?_⟩
  · obtain⟨q,e⟩:=h.sub
    exact⟨_,by rw[e,Fo]⟩
  · apply qo
    intro k;rw[bw];cases e:cs[k]? with
    | none =>
      have:=zp.mp e;rw[jT (by have:=j.len;omega)];rfl
    |some prs=>rw[a k prs e];rfl
  · have e1:=a c prs e
    rw[h1] at e1;rcases j.one c e1 with z|z
    · exact z
    · rw[<-z,jw,e] at l
      have e9:=fP l;subst e9;have:=Fy hx prs;have d:0<(prs.map (·.1)).count x:=JG.mpr R;omega
  · have hw0:=j.rg w hw
    have e1:=a w.toNat prs e;have:=j.few w hw _ e1;omega
  · refine fG.mpr ⟨h.max T hT ho y hy,decide_eq_true λz=>?_⟩
    subst z;have VX:=h.max T hT ho;have a1:=FO VX b;have a2:=xN hy R;unfold gp at ho;rw[g6] at ho;exact of_decide_eq_true (ho b (bC l)) ∅
theorem GI.init{aB:List Int}(d:ws=((aL cs.length).filter λc=>decide (cE aB (cs.getD c [])=1)).map λ(c:Nat)=>(c:Int)):GI cs aB aB (cs.map λprs=>(cE aB prs:Int)) ws:=by
 subst d;refine⟨⟨λ_=>true,(LK.mpr λ_ _=>rfl).symm⟩,rfl,?_,λw hw=>?_,λc prs e h1=>?_,λw hw prs e=>?_,λT hT _ y hy=>hT y hy⟩
 .rw[List.nodup_iff_pairwise_ne,qW];exact(AS.filter _).imp λh=>∅
 .obtain⟨c,hc,rfl⟩:=cL.mp hw;have:=iQ.mp (fG.mp hc).1;omega
 .refine cL.mpr ⟨c,fG.mpr ⟨iQ.mpr (aO.mp e).1,?_⟩,rfl⟩;rw[br,e];exact decide_eq_true h1
 .obtain⟨c,hc,rfl⟩:=cL.mp hw;have:=of_decide_eq_true (fG.mp hc).2;rw[jw] at e;rw[br,e] at this;have h1:cE aB prs=1:=this;omega
theorem GI.len{aB S:List Int}(h:GI cs aB S cn ws):ws.length<=cs.length:=by
 have:=uA (l₂:=(aL cs.length).map λ(i:Nat)=>(i:Int)) h.nd λk hk=>by
  obtain⟨a,b⟩:=h.rg k hk;exact cL.mpr ⟨k.toNat,iQ.mpr ∅,∅⟩
 simpa using this
theorem GJ.WM{S row:List Int}(h:GJ cs S row c0 m cn ws):ws.length<=cs.length:=by
 have:=uA (l₂:=(aL cs.length).map λ(i:Nat)=>(i:Int)) h.nd λk hk=>by
  obtain⟨a,b⟩:=h.rg k hk;exact cL.mpr ⟨k.toNat,iQ.mpr ∅,∅⟩
 simpa using this
@[reducible] noncomputable def fj(S:List Int):Ks:=S.map λx=>(x,ij true)
def vh(S:List Int)(k:Int):i6 (fj S) k=decide (k∈S):=by
 rw[jS,zA,j7,decide_eq_true_eq];have:S.map ((·.1)∘λx=>(x,ij true))=S:=uk (λ_=>rfl) S;rw[this]
def Zl(S:List Int)(k:Int):tE (fj S) k=fj (S.filter λy=>decide (y≠k)):=by
 unfold tE fj;rw[List.filter_map]
 rfl
def QP{S:List Int}(nd:S.Nodup):qL [] (fj S)=fj S:=by
  have key:∀(S:List Int) (acc:List Int),(acc++S).Nodup->qL (fj acc) (fj S)=fj (acc++S):=by
    intro S;induction S with
    |nil=>intro acc _;simp[qL,fj]
    | cons x S ih =>
      intro acc nd;have hx:x∉acc:=λz=>(l9.mp nd).2.2 x z x (by simp) rfl;show qL (kF (fj acc) x (.bool true)) (fj S)=_;have e:kF (fj acc) x (.bool true)=fj (acc++[x]):=by
        unfold kF;rw[vh,if_neg (by simpa using hx)];unfold fj;rw[bS];rfl
      rw[e,ih (acc++[x]) (by rw[sO];exact nd),sO]
      rfl
  have:=key S [] (by simpa using nd);simpa using this
theorem J3:∀{a b:List Int},a.Pairwise (· < ·)->b.Pairwise (· < ·)->(∀k,k∈a↔k∈b)->a=b
  |[],[],_,_,_=>rfl
  |[],y::b,_,_,h=>absurd ((h y).mpr (cN ..)) (by simp)
  |x::a,[],_,_,h=>absurd ((h x).mp (cN ..)) (by simp)
  | x :: a, y :: b, ha, hb, h => by
    obtain⟨c,f⟩:=Ab.mp ha;obtain⟨d,g⟩:=Ab.mp hb;have e:x=y:=by
      rcases aY.mp ((h x).mp (cN ..)) with z|z
      · exact z
      · rcases aY.mp ((h y).mpr (cN ..)) with w|w
        · exact w.symm
        · have:=d x z;have:=c y w;omega
    subst e;have:a=b:=J3 f g λk=>by
      constructor
      · intro hk
        rcases aY.mp ((h k).mp (cM _ hk)) with z|z
        · have:=c k hk;omega
        · exact z
      · intro hk
        rcases aY.mp ((h k).mpr (cM _ hk)) with z|z
        · have:=d k hk;omega
        · exact z
    rw[this]
theorem Y2{aB S:List Int}(h:∀T:List Int,(∀x∈T,x∈aB)->gp cs T=true->∀x∈T,x∈S)(hp:prs∈cs)(h1:cE S prs=1)(R:x∈prs.map (·.1)):
  ∀T:List Int,(∀x∈T,x∈aB)->gp cs T=true->∀y∈T,y∈S.filter λy=>decide (y≠x):=λT hT ho y hy=>by
 refine fG.mpr ⟨h T hT ho y hy,decide_eq_true λz=>?_⟩;subst z;have a1:=FO (h T hT ho) prs;have a2:=xN hy R;unfold gp at ho;rw[g6] at ho;exact of_decide_eq_true (ho prs hp) ∅
def l6.mem{aB g:List Int}(h:l6 cs aB g):∀x∈g,x∈aB:=λx hx=>by
 obtain⟨q,e⟩:=h.sub;rw[e] at hx;exact(fG.mp hx).1
def l6.up{aB g:List Int}(h:l6 cs aB g)(hl:aB.Pairwise (· < ·)):g.Pairwise (· < ·):=by
 obtain⟨q,e⟩:=h.sub;rw[e];exact hl.filter q
noncomputable def O8(row:List Int):Int:=match row.getLast? with|none=>0|some l=>l+1
noncomputable def Oj(n:Int)(row:List Int):List Int:=(aL (n-O8 row).toNat).map λ(i:Nat)=>O8 row+(i:Int)
noncomputable def ext(n:Int)(row:List Int):List (List Int):=(Oj n row).map λp=>row++[p]
def Qr{c:Type}{φ:α->c}{l1 l2:List c}(h:l1.Perm l2):∀xs:List α,l2=xs.map φ->∃ys:List α,l1=ys.map φ/\ys.Perm xs:=by
  induction h with
  |nil=>intro xs e;exact⟨[],rfl,by cases xs<;>first|exact .nil|cases e⟩
  | cons x _ ih =>
    intro xs e;cases xs with
    |nil=>cases e
    | cons a xs =>
      obtain⟨e1,e2⟩:=vI e;obtain⟨ys,e3,p⟩:=ih xs e2;exact⟨a::ys,by rw[e3,e1];rfl,p.cons a⟩
  | swap x y l =>
    intro xs e
    match xs,e with
    | a :: b :: xs, e =>
      obtain⟨e1,e2⟩:=vI e;obtain⟨e3,e4⟩:=vI e2;exact⟨b::a::xs,by rw[e1,e3,e4];rfl, .swap a b xs⟩
  | trans _ _ f d =>
    intro xs e;obtain⟨ys,e1,k⟩:=d xs e;obtain⟨zs,e2,p2⟩:=f ys e1;exact⟨zs,e2,p2.trans k⟩
section
variable{G:Gx}{ρ:Rh}{Φ:Pd}{t:TA}{te:TE}
def Sv.Z9{E:DE}(h:iM G ρ te λd=>(∃ds,d= .list ds/\∀a,E.nx (ρ.set i (.own a true ds)))\/(jt d=true/\E.nx (ρ.set i (.d true d)))):Sv G ρ (fV te (fB i)) E:=λnb σ H D W K=>
 h nb σ H _ W λv H1 d hd st hv=>by
  rcases hd with ⟨ds,rfl,q⟩|⟨hs,q⟩
  .have h0:=hv;obtain⟨c,xs,rfl,_⟩:=hv.dW;exact K.nx _ _ _ _ (q c) (Wd.adS (i:=i) W st h0)
  .exact K.nx nb _ _ _ q ((W.step st).mz (i:=i) (f:=true) (hv.jH hs))
end
section
variable{X:Cx}{pins:List (aF×Obj)}{σ:List (Option V)}{H:Hp}{s:aw}{h':eo}
def Inv.Yg{T:aF}{o:HO}(I:Inv X pins σ H s)(k:∀b u,b∉ch->s.heap.get? b=some u->h'.get? b=some u)(f:∀b∈ch,jC X pins H b)(hT:s.heap.objs.size<=T)(Es:T∉ch)
  (new:cK X.prog X.w (upd H T o) h' T o):Inv X pins σ (upd H T o) {s with heap:=h',toks:=t'}:=by
 have hn:=I.hok.fresh hT;have ne:∀b u,H b=some u->b∉ch:=λb u q z=>by rw[(f b z).1] at q;cases q
 have F:∀b u,H b=some u->b≠T:=λb u q z=>by rw[z,hn] at q;cases q
 have g:X.env.locals∉ch:=λz=>(f _ z).2.1 rfl
 refine I.step (g':=s.gens) (d':=s.drawn) (ch:=ch) (λb hb=>?_) (λb o _ _ hc q _=>k b o hc q) (λb o _ _ hc q _=>⟨o.slots,k b o hc q⟩)
  (λb o hc q n=>?_) (λb o hc q=>⟨o,k b o hc q⟩) (λb xs q=>by rw[aH (F b _ q)];exact q) (λb o u q=>by rw[aH (F b _ q)];exact q) (λb ps q=>⟨#[],by rw[aH (F b _ q),q];simp⟩) (λm hm=>?_) (λb u q=>?_) I.bare
 .obtain⟨e0,e1,e2,e3,e4,e5⟩:=f b hb;exact⟨e3,e1,e4,e5⟩
 .rw[aH (λz=>absurd (eK (bN q) (by rw[z];exact hT)) (i7 _))];exact n
 .obtain⟨o,es,ep,ho,r⟩:=hm;exact⟨o,es,ep,k _ o g ho,r⟩
 .by_cases hb:b=T;·subst hb;rw[bx] at q;cases q;exact new
  .rw[aH hb] at q;refine(I.hok b u q).stay (λc v hc z=>?_) (λc z=>by rw[aH (F c _ z)];exact z) λc xs z=>by rw[aH (F c _ z)];exact z
   rcases hc with y|y
   .subst y;exact k _ v (ne _ u q) z
   .exact k c v (ne c _ y) z
def Inv.Uk(I:Inv X pins σ H s)(k:∀b u,b∉ch->s.heap.get? b=some u->h'.get? b=some u)(f:∀b∈ch,jC X pins H b):Inv X pins σ H {s with heap:=h',toks:=t'}:=by
 have ne:∀b u,H b=some u->b∉ch:=λb u q z=>by rw[(f b z).1] at q;cases q
 have g:X.env.locals∉ch:=λz=>(f _ z).2.1 rfl
 refine I.step (g':=s.gens) (d':=s.drawn) (ch:=ch) (λb hb=>?_) (λb o _ _ hc q _=>k b o hc q) (λb o _ _ hc q _=>⟨o.slots,k b o hc q⟩)
  (λ_ _ _ _ n=>n) (λb o hc q=>⟨o,k b o hc q⟩) (λ_ _ q=>q) (λ_ _ _ q=>q) (λb ps q=>⟨#[],by rw[q];simp⟩) (λm hm=>?_) (λb u q=>?_) I.bare
 .obtain⟨e0,e1,e2,e3,e4,e5⟩:=f b hb;exact⟨e3,e1,e4,e5⟩
 .obtain⟨o,es,ep,ho,r⟩:=hm;exact⟨o,es,ep,k _ o g ho,r⟩
 .refine(I.hok b u q).stay (λc v hc z=>?_) (λc z=>z) λc xs z=>z;rcases hc with y|y
  .subst y;exact k _ v (ne _ u q) z
  .exact k c v (ne c _ y) z
end
noncomputable def CA(K:PySem.W.Frag)(a b:aF):It:=
 ⟨λi H=>∃xs ys x y,aV K H a xs/\aV K H b ys/\xs[i]?=some x/\ys[i]?=some y,λi H v H'=>∃p x y,v= .ref p/\H p=none/\(∀xs,aV K H a xs->xs[i]?=some x)/\(∀ys,aV K H b ys->ys[i]?=some y)/\H'=upd H p (.tup [x,y]),λi H=>∃xs ys,aV K H a xs/\aV K H b ys/\min xs.length ys.length=i⟩
def KW(z TI TO B A a b:aF)(i:Nat)(h:eo):Prop:=IsZip h z TI TO .none/\IsPair h TI (.ref B) (.ref A)/\(∃u v,IsPair h TO u v)/\h.IsListIter B a i/\h.IsListIter A b i
def L5{X:Cx}{z TI TO B A:aF}{xs ys:Array ag}(h1:h.IsList a xs)(h2:h.IsList b ys)(st:KW z TI TO B A a b i h)(hd:[z,TI,TO,B,A].Nodup):ZipApart z TI TO B A a b:=by
 obtain⟨s1,s2,⟨u,v,s3⟩,s4,t⟩:=st;have n1:∀{l:aF} {xs:Array ag},h.IsList l xs->l≠z/\l≠TO/\l≠B/\l≠A:=λ{l xs} hl=>by
  obtain⟨n,l1,l2,r⟩:=hl;refine⟨λq=>?_,λq=>?_,λq=>?_,λq=>?_⟩;·subst q;rw[s1] at l1;cases l1;exact absurd l2 (by simp)
  .subst q;rw[s3] at l1;cases l1;exact absurd l2 (by simp)
  .subst q;obtain⟨C,e1,e2,e3⟩:=s4;rw[e1] at l1;cases l1;rw[e2] at l2;exact absurd l2 (by simp)
  .subst q;obtain⟨C,e1,e2,e3⟩:=t;rw[e1] at l1;cases l1;rw[e2] at l2;exact absurd l2 (by simp)
 obtain⟨a1,a2,y,a4⟩:=n1 h1;obtain⟨b1,b2,b3,b4⟩:=n1 h2;simp only[jn,aY,dR,not_or,or_false,not_false_eq_true,zd,and_true] at hd;obtain⟨⟨d1,d2,d3,d4⟩,⟨d5,e,d⟩,⟨c,f⟩,g⟩:=hd;exact⟨bH d1,bH d2,bH d3,bH d4,d5,e,d,c,f,g,a1,a2,y,a4,b1,b2,b3,b4⟩
theorem VN{P:bc}{K:PySem.W.Frag}{f:List eB}{k:Nat}(z TI TO B A a b:aF)(hd:[z,TI,TO,B,A].Nodup):
  Turn P w K (.Tuple f k pos) (CA K a b) [z,TI,TO,B,A] z (KW z TI TO B A a b) where
 mem:=by simp
 obj:=λi h st c hc=>by
  obtain⟨s1,s2,⟨u,v,s3⟩,⟨M,e4,c4,d4⟩,⟨o5,e5,c5,d5⟩⟩:=st;have hc:c=z\/c=TI\/c=TO\/c=B\/c=A:=by simpa using hc
  rcases hc with q|q|q|q|q
  .subst q;exact⟨_,s1,λv z=>by have z':pG _=ml v:=z;cases z'⟩
  .subst q;exact⟨_,s2,λv z=>by have z':yy _ _=ml v:=z;cases z'⟩
  .subst q;exact⟨_,s3,λv z=>by have z':yy _ _=ml v:=z;cases z'⟩
  .subst q;exact⟨M,e4,λv z=>by rw[d4] at z;cases z⟩
  .subst q;exact⟨o5,e5,λv z=>by rw[d5] at z;cases z⟩
 keep:=λi h h' st k=>by
  obtain⟨s1,s2,⟨u,v,s3⟩,s4,t⟩:=st;exact⟨k z (by simp) _ s1,k TI (by simp) _ s2,⟨u,v,k TO (by simp) _ s3⟩,s4.at λo q=>k B (by simp) o q,t.at λo q=>k A (by simp) o q⟩
 item:=by
  intro X hP hw hK hc i pins s σ H E I hf st hg;subst hP hw hK;obtain⟨xs,ys,x,y,l,C,hx,hy⟩:=hg;obtain⟨its,rv,p,hz⟩:=I.list l;obtain⟨d,S,p2,Z⟩:=I.list C;obtain⟨u,hu,G⟩:=rv.get hx;obtain⟨u2,Oh,Ul⟩:=S.get hy;have D:=L5 (X:=X) p.isList p2.isList st hd;have W:=x4 (prog:=X.prog) (w:=X.w) (I.ok.hd hc) z TI TO B A a b D its.toArray d.toArray;have hi:i<min its.toArray.size d.toArray.size:=by
   have h1:=(aO.mp hu).1;have h2:=(aO.mp Oh).1;rw[cY,cY];omega
  obtain⟨s1,s2,s3,s4,t⟩:=id st;refine W.item i s _ _ hi ⟨s1,s2,s3,s4,t,p.isList,p2.isList⟩ λT vals h' tk hv hT GW J kp=>⟨.ref T,rfl,?_⟩;refine W.go f k pos i T _ _ _ J λh'' g Q=>?_;obtain⟨Y,n,L,j,R⟩:=hv;have e1:Y=u:=by
   have:its.toArray[i]?=some u:=by simpa using hu
   rw[L] at this;exact fP this
  have e2:n=u2:=by
   have:d.toArray[i]?=some u2:=by simpa using Oh
   rw[j] at this;exact fP this
  subst e1 e2 R;have Du:=W.apart i T h' J;have e:T≠TI:=λq=>by
   rw[q] at hT;exact absurd (bN s2) (y3.mpr hT)
  obtain⟨_,_,_,_,_,_,_,U,N,t3,t4⟩:=J;obtain⟨V,g1,g2,F,g3⟩:=GW;have pR:=Q T V Du g1;have Es:T∉[z,TI,TO,B,A]:=by simp[U,e,N,t3,t4]
  refine⟨.ref T,upd H T (.tup [x,y]),I.Yg (ch:=[z,TI,TO,B,A]) (λc v hc q=>Q c v (λm=>hc (by simp at m⊢;rcases m with m|m|m|m<;>simp[m])) (kp c v (λm=>hc (by simp at m⊢;rcases m with m|m|m|m<;>simp[m])) q)) hf hT Es ?_,rfl,⟨T,x,y,rfl,I.hok.fresh hT,λzs hy=>by rw[I.AN hy l];exact hx,λzs j=>by rw[I.AN j C];exact hy,rfl⟩,?_,λc hc=>?_⟩;·exact⟨by show 2<=sizeLine;decide,[Y,n], .cons G (.cons Ul .nil),V,pR,g2,F,g3⟩
  .obtain⟨O,q2,q3,q4,r,_,_⟩:=g;exact⟨O,q2,q3,q4,r⟩
  .rw[aH (λq=>Es (by rw[<-q];exact hc)),(hf c hc).1]
 done:=by
  intro X hP hw hK hc i pins s σ H E I hf st hg;subst hP hw hK;obtain⟨xs,ys,l,C,hx⟩:=hg;obtain⟨its,rv,p,hz⟩:=I.list l;obtain⟨d,S,p2,Z⟩:=I.list C;have D:=L5 (X:=X) p.isList p2.isList st hd;have W:=x4 (prog:=X.prog) (w:=X.w) (I.ok.hd hc) z TI TO B A a b D its.toArray d.toArray;have l1:=rv.length;have l2:=S.length;have hn:min its.toArray.size d.toArray.size=i:=by rw[cY,cY,<-l1,<-l2];exact hx
  obtain⟨s1,s2,s3,s4,t⟩:=id st;refine W.done s _ _ (by rw[hn];exact⟨s1,s2,s3,s4,t,p.isList,p2.isList⟩) λh' tk kp=>⟨rfl,?_⟩;exact I.Uk (ch:=[z,TI,TO,B,A]) (λc v hc q=>kp c v (λm=>hc (by simp at m⊢;rcases m with m|m|m|m<;>simp[m])) q) hf
 self:=λ_ _ _ _ _ st h=>pb st.1 h
def Tt(K:PySem.W.Frag)(ta tb:TE):TI:=λσ H R=>ta σ H λx H1=>tb σ H1 λy H2=>∃a b,x= .ref a/\y= .ref b/\(∃xs,aV K H2 a xs)/\(∃ys,aV K H2 b ys)/\R (CA K a b) H2
def PH{X:Cx}{K:PySem.W.Frag}{f:List eB}{k:Nat}{tpos:Pos}{l1 l2:eB}{ta tb:TE}{p pos:Pos}(B:X.K=K)(hg:Gl X "zip")(hm:X.mg "zip"=none)(ha:PE X l1 ta)(hb:PE X l2 tb)(hs:cc [l1,l2] X.env=[(false,eval l1 X.env),(false,eval l2 X.env)]:=by rfl)(m:cc [l2] X.env=[(false,eval l2 X.env)]:=by rfl)(hpl:(i5 pos (cc [l2] X.env)).any (·.1)=false:=by rfl):
    PI X (.Tuple f k tpos) (.Call (.Name "zip" p) [l1,l2] [] pos) (Tt K ta tb):=by
  subst B;intro pins s σ H R I h;have hA:PA X [l1,l2] (bV ta (bV tb cG)):=aa ha (aa hb ak (by rw[m];rfl)) (by rw[hs,m]);refine y7 (nU I hg hm boot_zip (qR (aT (hA pos pins s σ H (λvs H1=>match vs with|[x,y]=>∃a b,x= .ref a/\y= .ref b/\(∃xs,aV X.K H1 a xs)/\(∃ys,aV X.K H1 b ys)/\R (CA X.K a b) H1|_=>False) I h) λus s1 ⟨vs,H1,I1,M,O⟩=>?_) (by rw[hs,m]) hpl));cases M with
  |nil=>exact O.elim
  | cons r n =>
    cases n with
    |nil=>exact O.elim
    |cons U n=>
    cases n with
    |cons _ _=>exact O.elim
    |nil=>
    obtain⟨a,b,e1,e2,⟨xs,hq⟩,⟨ys,C⟩,q⟩:=O;subst e1 e2;cases r;cases U;obtain⟨its,rv,p,hz⟩:=I1.list hq;obtain⟨d,S,p2,Z⟩:=I1.list C;refine call_zip_2 p.isList p2.isList λh' hz e i j g hsz hk=>?_;refine pb hz ?_;have I2:Inv X pins σ H1 {s1 with heap:=h'}:=I1.kept (t':=s1.toks) hk;refine⟨s1.heap.objs.size+4,[s1.heap.objs.size+4,s1.heap.objs.size+2,s1.heap.objs.size+3,s1.heap.objs.size,s1.heap.objs.size+1],_,_,H1,rfl,I2,VN _ _ _ _ _ a b (by simp),⟨hz,e,⟨_,_,i⟩,j,g⟩,λb hb=>?_,q⟩;have c:s1.heap.objs.size<=b:=by
      simp only[aY,dR,or_false] at hb;rcases hb with z|z|z|z|z<;>subst z
      · exact BQ _ _
      · exact BQ _ _
      · exact BQ _ _
      · exact aW _
      · exact BQ _ _
    exact I1.qU c (I1.hok.fresh c)
theorem R.VJ{K:PySem.W.Frag}{ys:List V}{g:TG}{d:Hp->Prop}(hlen:ys.length=xs.length)(Pv:Nat->qr->Hp->Prop)(h0:Pv 0 σ H)(hl:∀i σ H,i<=xs.length->Pv i σ H->aV K H a xs/\aV K H b ys)
  (hs:∀i x y σ H p,xs[i]?=some x->ys[i]?=some y->Pv i σ H->H p=none->g (.ref p) σ (upd H p (.tup [x,y])) λc H2=>tc c H2 λb H3=>if b=true then te c H3 λv H4=>∃ys,H4 acc=some (.lst ys)/\ys.length<sizeLine/\Pv (i+1) c (upd H4 acc (.lst (ys++[v]))) else Pv (i+1) c H3)
  (hd:∀σ H,Pv xs.length σ H->d H):qD (CA K a b) g tc te acc d σ H:=by
 refine⟨λi m σ H=>m=xs.length-i/\i<=xs.length/\Pv i σ H,⟨xs.length,by simp,gE _,h0⟩,?_⟩;rintro i m σ H ⟨rfl,hi,p⟩;obtain⟨q,q2⟩:=hl i σ H hi p;by_cases hlt:i<xs.length
 .refine .inr ⟨⟨xs,ys,xs[i],ys[i]'∅,q,q2,by simp[hlt],aC _⟩,Pv (i+1),λM H' j=>⟨xs.length-(i+1),∅,rfl,hlt,j⟩,λx H' y=>?_⟩;obtain⟨pp,y,y2,e,hn,hy,f,e2⟩:=y;subst e e2;exact hs i y y2 σ H pp (hy xs q) (f ys q2) p hn
 .have e:i=xs.length:=∅
  subst e;exact .inl ⟨⟨xs,ys,q,q2,∅⟩,hd σ H p⟩
section
variable{G:Gx}{ρ c8:Rh}{te:TE}{s:TS}{gt:TG}{E:DE}{K:PySem.W.Frag}{Θ:Bool->List PyData->Prop}{tc:TT}{mp:List (Option Nat)}
theorem az.Ub{U N:TE}(hm:(mp.filterMap id).Nodup)(u:mY mp ρ=c8)(h:Ev G ρ U λf1 x=>∃es,x= .list es/\fc es=true/\es.length<=10000/\∀v,Ev (G.hd f1 (.list es) v) ρ N λf2 y=>∃f,y= .list f/\fc f=true/\f.length=es.length/\∀v2,jA ((G.hd f1 (.list es) v).hd f2 (.list f) v2) c8 es.length (λi d=>∃e e2,es[i]?=some e/\f[i]?=some e2/\d= .tuple [e,e2]) true gt tc te Θ):az G ρ (mF (Tt K U N) gt tc te mp) Θ:=λnb σ H Q W z=>
 h nb σ H _ W λf1 v H0 x ⟨es,ex,hs,hn,q⟩ s0 hv=>by
  subst ex;have Wa:=(W.step s0).hd hv;refine q v nb σ H0 _ Wa λf2 v2 H1 y ⟨f,r,m,hlen,q⟩ s1 hv2=>?_;subst r;obtain⟨fl,I,h0,ht,he⟩:=q v2;have W0:=(Wa.step s1).hd hv2;obtain⟨_,c⟩:=(Wa.step s1).jb;obtain⟨a,xs,rfl,n,hx,hd⟩:=c.dW;obtain⟨b,J,rfl,Z,oZ,hd2⟩:=hv2.dW;have l1:=hd.length;have l2:=hd2.length;refine⟨a,b,rfl,rfl,⟨xs, .of hx⟩,⟨J, .of oZ⟩,λacc k=>?_⟩;have C:Wd ((G.hd f1 (.list es) (.ref a)).hd f2 (.list f) (.ref b)) nb c8 (L2.iA mp σ) H1:=by rw[<-u];exact W0.iA hm
  have W1:=C.more k (o:= .lst []);have F:Step G.B H H1:=s0.trans s1;have hN:=NB.new F.2 k;have hno:=B4 C k;have A:Step G.B H1 (upd H1 acc (.lst [])):= .same F.2 (dB k);have D:NB G.B a:=jl λz=>n (.inr (.inr (.inl z)));have O:NB G.B b:=jl λz=>Z (.inr (.inr (.inl z)));refine R.VJ (xs:=xs) (ys:=J) ∅ (λi σ H=>∃ds ys,Wd ((G.hd f1 (.list es) (.ref a)).hd f2 (.list f) (.ref b)) (λx=>nb x\/x=acc) c8 σ H/\Step G.B H1 H/\H acc=some (.lst ys)/\af (G.S (λx=>nb x\/x=acc) fl) H ds ys/\ds.length<=i/\I i ds/\H a=some (.lst xs)/\H b=some (.lst J)) ⟨[],[],W1,A,bx, .nil,aW _,h0,A.1 _ _ D hx,A.1 _ _ O oZ⟩ ?_ ?_ ?_
  .rintro i σ H hi ⟨ds,ys,W,st,_,_,_,_,ha,hb⟩;exact⟨.of ha, .of hb⟩
  .rintro i x y σ H p hi hi2 ⟨ds,ys,W,st,hy,l,hl,hI,ha,hb⟩ hp;have hil:i<es.length:=by have:=(aO.mp hi).1;omega
   obtain⟨Y,L,dx⟩:=hd.get (aC hil);rw[hi] at L;cases L
   obtain⟨y',j,T⟩:=hd2.get (aC (show i<f.length by omega));rw[hi2] at j;cases j
   have P:Step ((G.hd f1 (.list es) (.ref a)).hd f2 (.list f) (.ref b)).B H (upd H p (.tup [x,y])):= .same W.aG (dB hp);have E:acc≠p:=λz=>by subst z;rw[hp] at hy;cases hy
   have sx:=g6.mp hs _ (cU hil);have sy:=g6.mp m _ (cU (show i<f.length by omega));refine zY (G:=(G.hd f1 (.list es) (.ref a)).hd f2 (.list f) (.ref b)) hn hil (W.step P) (.inr rfl) hN hno (st.trans P) k (by rw[aH E];exact hy) (l.keep P.dj) hl (.tup (W.fresh hp) bx (.cons (dx.jH sx) (.cons (T.jH sy) .nil))) (ht i _ ds ⟨_,_,aC hil,aC (show i<f.length by omega),rfl⟩ hl hI) λM H' w t W' g L l hl' s=>⟨w,t,W',g,L,l,hl',s,g.1 _ _ D hx,g.1 _ _ O oZ⟩
  .rintro σ H' ⟨ds,ys,W',st,hy,l,hl,hI,_⟩;rw[show xs.length=es.length by omega] at hl hI;exact B9 W F k st hy l (he ds hl hI) z
end
abbrev pI(h:eo)(e it:aF)(i:Int)(z:ag)(b:Bool)(old:ag):Prop:=
 h.get? e=some {cls:= .type "enumerate",dict:=none,data:= .fields #[z, .bool b, .ref it,cf i, .none,old],slots:= #[]}
def sY(h:eo)(e it:aF)(i:Int):Prop:=∃(z:ag) (b:Bool) (old:ag),(z= .none\/∃a:Int,z=cf a)/\pI h e it i z b old
section
variable{prog:bc}{w:cx}{A:c3}{E:ag->aw->Prop}{s:aw}
def UC{Q:Option Obj->aw->Prop}(h:Q (s.heap.get? a) s):wpAny M A (loadIfAlive a) Q E s:=λb p _=>by
 show Sem.wp M b (.loadIfAlive a .pure) _ _ _ _;rw[Sem.wp_loadIfAlive];exact h
def WU{e l:aF}{x:ag}{Q:Option ag->aw->Prop}(he:sY s.heap e it i)(c:s.heap.IsListIter it l i)(hl:s.heap.IsList l items)(hx:items[i]?=some x)(J:e≠it)
    (hQ:∀h',sY h' e it ((i:Int)+1)->h'.IsListIter it l (i+1)->h'.get? s.heap.objs.size=some {cls:= .type "tuple",data:= .seq #[.int i s.toks,x]}->h'.objs.size=s.heap.objs.size+1->
      (∀b o,b≠e->b≠it->s.heap.get? b=some o->h'.get? b=some o)->Q (some (.ref s.heap.objs.size)) {s with heap:=h',toks:=s.toks+1}):wpAny (bj prog w) A (gw (.ref e)) Q E s:=by
  obtain⟨z,g,old,hz,he⟩:=he;have hT:s.TypeIs (.ref e) "enumerate":=⟨_,he,rfl⟩;unfold gw;refine ae (gq (dC (name:=fI "__next__") hT yN (cv yN hT kz ?_ (kf _))));obtain⟨hp,h,dd,tk,ss⟩:=s;show wpAny _ _ (field (.ref e) 2>>=_) _ _ ⟨hp,h,dd,tk,ss⟩;refine ae (fA he rfl (x:= .ref it) rfl ?_);refine ae (wpAny_nextOf_list_item c hl hx λk1 D m1=>?_);replace m1:da it hp k1:=m1;have n1:pI k1 e it i z g old:=(m1.2 e J).trans he;show wpAny _ _ (field (.ref e) 3>>=_) _ _ ⟨k1,h,dd,tk,ss⟩;refine ae (fA n1 rfl (x:=cf i) rfl ?_);show wpAny _ _ (field (.ref e) 4>>=_) _ _ ⟨k1,h,dd,tk,ss⟩;refine ae (fA n1 rfl (x:= .none) rfl ?_);show wpAny _ _ (mkInt i>>=_) _ _ ⟨k1,h,dd,tk,ss⟩;refine ae (wpAny_mkInt ?_);show wpAny _ _ (iW (.ref e) 3 (cf ((i:Int)+1))>>=_) _ _ ⟨k1,h,dd,tk+1,ss⟩;refine ae (et n1 (by simp) λk2 Z m2=>?_);replace m2:da e k1 k2:=m2;replace Z:pI k2 e it ((i:Int)+1) z g old:=Z;show wpAny _ _ (iW (.ref e) 4 .none>>=_) _ _ ⟨k2,h,dd,tk+1,ss⟩;refine ae (et Z (by simp) λk3 d m3=>?_);replace m3:da e k2 k3:=m3;replace d:pI k3 e it ((i:Int)+1) z g old:=d;show wpAny _ _ (yQ [.int i tk,x]>>=_) _ _ ⟨k3,h,dd,tk+1,ss⟩;refine ae (wpAny_newTuple ?_);have k:pI (k3.push {cls:= .type "tuple",data:= .seq #[.int i tk,x]}) e it ((i:Int)+1) z g old:=cF _ d;generalize hk:k3.push {cls:= .type "tuple",data:= .seq #[.int i tk,x]}=k4 at k;have hsz:k3.objs.size=hp.objs.size:=by rw[m3.1,m2.1,m1.1]
  have n:e<hp.objs.size:=bN he;have t4:k4.get? hp.objs.size=some {cls:= .type "tuple",data:= .seq #[.int i tk,x]}:=by rw[<-hk,<-hsz];exact gk _ rfl
  have t:k4.objs.size=hp.objs.size+1:=by rw[<-hk,lH,hsz]
  have M:∀b o,b≠e->b≠it->hp.get? b=some o->k4.get? b=some o:=λb o c1 c2 q=>by
    rw[<-hk];exact cF _ (m3.extBut b o c1 (m2.extBut b o c1 (m1.extBut b o c2 q)))
  have v:k4.IsListIter it l (i+1):=by
    rw[<-hk];obtain⟨o,ho,r⟩:=(D.extBut m2.extBut (bH J)).extBut m3.extBut (bH J);exact⟨o,cF _ ho,r⟩
  rw[hsz];show wpAny _ _ (fD (.ref e)>>=_) _ _ ⟨k4,h,dd,tk+1,ss⟩;clear hk d m3 Z m2 n1 m1 D hsz k3 k2 k1;have fin:∀k5,sY k5 e it ((i:Int)+1)->da e k4 k5->Q (some (.ref hp.objs.size)) ⟨k5,h,dd,tk+1,ss⟩:=λk5 r m=>by
    refine hQ k5 r (v.extBut m.extBut (bH J)) (m.extBut _ _ (kO n) t4) (by rw[m.1];exact t) λb o c1 c2 q=>m.extBut b o c1 (M b o c1 c2 q)
  have free:∀(QQ:Fin->aw->Prop) (p:ag->aw->Prop),(∀k5,sY k5 e it ((i:Int)+1)->da e k4 k5->QQ (.done (.ret (.ref hp.objs.size))) ⟨k5,h,dd,tk+1,ss⟩)->wpAny (bj prog w) A.in1 (do
      rule "enumerate.__next__.owned-tuple-again"
      let old<-field (.ref e) 5
      iW (.ref e) 5 x
      fy (.ref e) (.ref hp.objs.size)
      letGo [old] [.ref hp.objs.size]
      ret (.ref hp.objs.size)) QQ p ⟨k4,h,dd,tk+1,ss⟩:=by
    intro QQ p hF;refine ae (jE ?_);refine ae (fA k rfl (x:=old) rfl ?_);refine ae (et k (by simp) λk5 f m5=>?_);replace m5:da e k4 k5:=m5;replace f:pI k5 e it ((i:Int)+1) z g x:=f;refine ae ?_;unfold fy;refine ae (et f (by simp) λk6 u m6=>?_);replace m6:da e k5 k6:=m6;replace u:pI k6 e it ((i:Int)+1) (cf hp.objs.size) g x:=u;refine et u (by simp) λk7 j m7=>?_;replace m7:da e k6 k7:=m7;replace j:pI k7 e it ((i:Int)+1) (cf hp.objs.size) false x:=j;refine ae (wpAny_letGo (ax (hF k7 ⟨_,_,_, .inr ⟨_,rfl⟩,j⟩ ?_)));exact⟨by rw[m7.1,m6.1,m5.1],λb hb=>((m7.2 b hb).trans (m6.2 b hb)).trans (m5.2 b hb)⟩
  refine ae ?_;unfold fD;rcases hz with rfl|⟨a,rfl⟩
  · refine ae (fA k rfl (x:= .none) rfl (ax ?_))
    exact free _ _ λk5 r m=>⟨_,rfl,ax (fin k5 r m)⟩
  · refine ae (fA k rfl (x:=cf a) rfl ?_)
    refine ae (UC ?_);cases hal:k4.get? a.toNat with
    | none =>
      refine ax ?_;exact free _ _ λk5 r m=>⟨_,rfl,ax (fin k5 r m)⟩
    | some B =>
      refine ae (fA k rfl (x:= .bool g) rfl ?_);cases g with
      |true=>exact ax (ax ⟨_,rfl,ax (fin k4 ⟨_,_,_, .inr ⟨a,rfl⟩,k⟩ ⟨rfl,λ_ _=>rfl⟩)⟩)
      | false =>
        refine ae (et k (by simp) λk5 f m5=>?_);exact ax (ax ⟨_,rfl,ax (fin k5 ⟨_,_,_, .inr ⟨a,rfl⟩,f⟩ m5)⟩)
def V3{e l:aF}{Q:Option ag->aw->Prop}(Y:A.handled=none)(he:sY s.heap e it i)(c:s.heap.IsListIter it l i)(hl:s.heap.IsList l items)(hx:items[i]?=none)
  (hQ:∀h',Heap.ExtBut it s.heap h'->Q none {s with heap:=h'}):wpAny (bj prog w) A (gw (.ref e)) Q E s:=by
 obtain⟨z,g,old,hz,he⟩:=he;have hT:s.TypeIs (.ref e) "enumerate":=⟨_,he,rfl⟩;unfold gw;refine ae (gq (dC (name:=fI "__next__") hT yN (cv yN hT kz ?_ (kf _))));show wpAny _ _ (field (.ref e) 2>>=_) _ _ _;refine ae (fA he rfl (x:= .ref it) rfl ?_);refine ae (wpAny_nextOf_list_end Y c hl hx λk1 y O q2=>?_);obtain⟨o,ho,hc⟩:=q2;refine ae (kk (T:="StopIteration") (b:=true) ⟨o,ho,hc⟩ rf ?_);exact ax (hQ _ O)
def Dq(h:eo)(n0:Nat)(items:Array ag)(acc:Array ag)(i:Nat):Prop:=acc.size=i/\∀(j:Nat) v,acc[j]?=some v->∃(T:aF) (t:Nat) (x:ag),v= .ref T/\items[j]?=some x/\n0<=T/\h.get? T=some {cls:= .type "tuple",data:= .seq #[.int j t,x]}
theorem X9{R:sv->aw->Prop}(Y:A.handled=none){e it l S:aF}{items:Array ag}{n0:Nat}(m:e≠it)(C:l≠e)(hli:l≠it)(r:S≠e)(h:S≠it)(u:l≠S)(E:e<n0)(a:it<n0)(p:S<n0)(hn:items.size<=sizeLine)(res:ag):
    ∀(k i:Nat) (s:aw) (acc:Array ag) (c:Nat),items.size-i=k->i<=items.size->n0<=s.heap.objs.size->sY s.heap e it i->s.heap.IsListIter it l i->s.heap.IsList l items->s.heap.get? S=some {cls:= .type "list",dict:=none,data:= .seq acc c,slots:= #[]}->Dq s.heap n0 items acc i->
    (∀h' tk f c',(∀b o,b≠S->b≠e->b≠it->s.heap.get? b=some o->h'.get? b=some o)->h'.get? S=some {cls:= .type "list",dict:=none,data:= .seq f c',slots:= #[]}->Dq h' n0 items f items.size->R (.ok (.ret res)) {s with heap:=h',toks:=tk})->
    codeAny (bj prog w) A (.builtin "list.extend.loop" ⟨[.ref S, .ref e,res],[]⟩) R s:=by
  intro k;induction k with
  | zero =>
    intro i s acc c hk hi hsz he hit hl hS hacc hR;have y:i=items.size:=∅
    subst y;refine de mc ?_;rw[l7 Ew _];show wpAny _ A.in1 (gw (.ref e)>>=_) _ _ s;refine ae (V3 Y he hit hl (by simp) λk1 O=>?_);refine ax (hR k1 _ acc c (λb o _ _ d q=>O b o d q) (O _ _ h hS) ⟨hacc.1,λj v q=>?_⟩);obtain⟨T,t,x,h1,h2,h3,h4⟩:=hacc.2 j v q;exact⟨T,t,x,h1,h2,h3,O _ _ (kO (eK a h3)) h4⟩
  | succ k ih =>
    intro i s acc c hk hi hsz he hit hl hS hacc hR;have hlt:i<items.size:=∅
    refine de mc ?_;rw[l7 Ew _];show wpAny _ A.in1 (gw (.ref e)>>=_) _ _ s;refine ae (WU he hit hl (lC hlt) m λk1 M D U B o1=>?_);have Ie:=o1 S _ r h hS;show wpAny _ A.in1 (lh S (·.push (.ref s.heap.objs.size))>>=_) _ _ _;refine ae ?_;have n:∀b o,b≠S->k1.get? b=some o->(k1.update S (cq (·.push (.ref s.heap.objs.size)))).get? b=some o:=λb o hb q=>(kr _ _ (bH hb)).trans q;obtain⟨z,g,old,hz,M⟩:=M;refine e7 Ie rfl (ax ⟨eh Ew _,ih (i+1) _ (acc.push (.ref s.heap.objs.size)) _ ∅ hlt ?_ ⟨z,g,old,hz,n e _ (bH r) M⟩ ?_ ?_ (o9 _ Ie rfl) ⟨by rw[Gf,hacc.1],λj v q=>?_⟩ λk2 tk f c' o2 h2 a2=>hR k2 tk f c' (λb o c1 c2 d q=>o2 b o c1 c2 d (n b o c1 (o1 b o c2 d q))) h2 a2⟩) (by rw[hacc.1];omega) (by show(acc.push (bo s.heap.objs.size)).size<=sizeLine+1;rw[Gf,hacc.1];omega)
    · show n0<=(k1.update S (cq (·.push (.ref s.heap.objs.size)))).objs.size
      rw[(uJ ..).1,B];omega
    · exact D.at λo q=>n it o (bH h) q
    · exact(hl.at λo q=>o1 l o C hli q).at λo q=>n l o u q
    · rw[FD] at q
      split at q
      · rename_i hj
        cases q;have:j=i:=by rw[hj,hacc.1]
        subst this;exact⟨_,_,_,rfl,lC hlt,hsz,n _ _ (kO (eK p hsz)) U⟩
      · obtain⟨T,t,x,h1,h2,h3,h4⟩:=hacc.2 j v q
        exact⟨T,t,x,h1,h2,h3,n _ _ (kO (eK p h3)) (o1 _ _ (kO (eK E h3)) (kO (eK a h3)) h4)⟩
end
section
variable{prog:bc}{w:cx}{A:c3}{E:ag->aw->Prop}{s:aw}
def Uo:ls (.type "enumerate") "__len__"=pure none:=by rw[eD,dy];kernel_rfl
def ZK:ls (.type "enumerate") "__length_hint__"=pure none:=by rw[eD,dy];kernel_rfl
def F9{r:aF}{Q:Bool->aw->Prop}(hT:s.TypeIs (.ref r) "enumerate")(h:Q true s):wpAny (bj prog w) A (ej (.ref r)) Q E s:=by
 unfold ej;refine ae (il hT Uo ?_);refine e6 (λa=>absurd a ⋯) (λ_=>?_);refine e6 (λa=>absurd a ⋯) (λ_=>?_);exact ae (il hT ZK (ax h))
theorem KZ(Y:A.handled=none){e it l:aF}{old:ag}{items:Array ag}(he:IsEnum s.heap e it 0 old)(c:s.heap.IsListIter it l 0)(hl:s.heap.IsList l items)(m:e≠it)(C:l≠e)(hli:l≠it)(hn:items.size<=sizeLine)
  (hQ:∀h' tk f c',(∀b o,b≠e->b≠it->s.heap.get? b=some o->h'.get? b=some o)->h'.get? s.heap.objs.size=some {cls:= .type "list",dict:=none,data:= .seq f c',slots:= #[]}->Dq h' (s.heap.objs.size+1) items f items.size->Q (.ref s.heap.objs.size) {s with heap:=h',toks:=tk}):
  wpAny (bj prog w) A (call (.type "list") [.ref e]) Q E s:=by
 have e0:e<s.heap.objs.size:=bN he;have i0:it<s.heap.objs.size:=by obtain⟨_,q,_⟩:=c;exact bN q
 have l0:l<s.heap.objs.size:=by obtain⟨_,q,_⟩:=hl;exact bN q
 refine sg (Q₁:=λobj s₁=>obj= .ref s.heap.objs.size/\s₁={s with heap:=s.heap.push {cls:= .type "list",data:= .seq #[]}}) PySem.F.called_list (PySem.F.typeCall_list_1 _) PySem.F.entry_list_init (code_list_new _ ⟨rfl,rfl⟩) λobj s₁ h₁=>?_;obtain⟨rfl,rfl⟩:=h₁;have O:(s.heap.push {cls:= .type "list",data:= .seq #[]}).get? s.heap.objs.size=some {cls:= .type "list",data:= .seq #[]}:=gk _ rfl;refine⟨⟨_,O,rfl⟩,PySem.F.args_list_init_2 _ _,?_⟩;have o1:∀b o,s.heap.get? b=some o->(s.heap.push {cls:= .type "list",data:= .seq #[]}).get? b=some o:=λb o q=>cF _ q;have B:(s.heap.push {cls:= .type "list",data:= .seq #[]}).objs.size=s.heap.objs.size+1:=lH ..;generalize s.heap.push {cls:= .type "list",data:= .seq #[]}=k1 at O o1 B;generalize N:s.heap.objs.size=S at*;show wpAny _ _ (do let old<-kA (.ref S);uD (.ref S) (λ_=> #[]);letGo old.toList.reverse;df (.ref S) (.ref e) .none) _ _ _;refine ae ?_;unfold kA;refine ae (i3 O rfl (ax ?_));show wpAny _ _ (lh S (λ_=> #[])>>=λ_=>letGo (#[]:Array ag).toList.reverse>>=λ_=>df (.ref S) (.ref e) .none) _ _ _;refine ae (e7 O rfl ?_);have q2:=o9 (cq (λ_=>(#[]:Array ag))) O rfl;have o2:∀b o,b≠S->k1.get? b=some o->(k1.update S (cq (λ_=>(#[]:Array ag)))).get? b=some o:=λb o hb q=>(kr _ _ (bH hb)).trans q;have z2:(k1.update S (cq (λ_=>(#[]:Array ag)))).objs.size=S+1:=by rw[(uJ ..).1,B]
 refine ae (wpAny_letGo ?_);generalize k1.update S (cq (λ_=>(#[]:Array ag)))=k2 at q2 o2 z2;have ne:e≠S:=dz e0;have ni:it≠S:=dz i0;have g:l≠S:=dz l0;have U:IsEnum k2 e it 0 old:=o2 _ _ ne (o1 _ _ he);have k:k2.IsListIter it l 0:=c.at λo q=>o2 _ _ ni (o1 _ _ q);have m2:k2.IsList l items:=hl.at λo q=>o2 _ _ g (o1 _ _ q);unfold df;refine ae (i1 (T:="enumerate") ⟨_,U,rfl⟩ ?_);have h1:fJ (.ref S) (.ref e)=false:=by simp[fJ,bH ne]
 simp only[h1,show(dE "enumerate"==dE "list")=false by decide,show(dE "enumerate"==dE "tuple")=false by decide,p7,FW,if_false];refine ae (jL U ?_);refine ae (dA (F9 ⟨_,U,rfl⟩ ?_));refine e6 (λ_=>?_) (λa=>absurd rfl a);refine ae (jE ?_);refine ae ?_;show wpAny _ _ (lh S (·.push .none)>>=λ_=>lh S (·.pop)) _ _ _;refine ae (e7 q2 rfl ?_);have q3:=o9 (cq (·.push ek)) q2 rfl;have d:∀b o,b≠S->k2.get? b=some o->(k2.update S (cq (·.push ek))).get? b=some o:=λb o hb q=>(kr _ _ (bH hb)).trans q;have z3:(k2.update S (cq (·.push ek))).objs.size=S+1:=by rw[(uJ ..).1,z2]
 generalize k2.update S (cq (·.push ek))=k3 at q3 d z3;refine e7 (hz:=by seq_fits) q3 rfl ?_;have q4:=o9 (cq (·.pop)) q3 rfl;have M:∀b o,b≠S->k3.get? b=some o->(k3.update S (cq (·.pop))).get? b=some o:=λb o hb q=>(kr _ _ (bH hb)).trans q;have t:(k3.update S (cq (·.pop))).objs.size=S+1:=by rw[(uJ ..).1,z3]
 refine ax ⟨eh Fv _,?_⟩;refine X9 (A:=A.in1) (n0:=S+1) (items:=items) (l:=l) (it:=it) Y m C hli (bH ne) (bH ni) g (mK e0) (mK i0) (o6 _) hn .none items.size 0 {s with heap:=k3.update S (cq (·.pop))} #[] _ ∅ (gE _) ?_ ⟨_,_,_, .inl rfl,M _ _ ne (d _ _ ne U)⟩ (k.at λo q=>M _ _ ni (d _ _ ni q)) (m2.at λo q=>M _ _ g (d _ _ g q)) q4 ⟨rfl,λj v q=>by simp at q⟩ λh' tk f c' n i h=>?_;·exact sX t.symm
 exact⟨rfl,hQ h' tk f c' (λb o c1 c2 q=>by
  have c0:b≠S:=λz=>by subst z;exact absurd (bN q) (by rw[N];exact i7 _)
  exact n b o c0 c1 c2 (M _ _ c0 (d _ _ c0 (o2 _ _ c0 (o1 _ _ q))))) i h⟩
end
section
variable{X:Cx}{pins:List (aF×Obj)}{σ:List (Option V)}{H H':Hp}{s:aw}{h':eo}
def Inv.afb(I:Inv X pins σ H s)(k:∀b u,s.heap.get? b=some u->h'.get? b=some u)(A:dG H H')(new:∀b u,H' b=some u->H b=some u\/(s.heap.objs.size<=b/\cK X.prog X.w H' h' b u)):Inv X pins σ H' {s with heap:=h',toks:=t'}:=by
  refine I.step (g':=s.gens) (d':=s.drawn) (ch:=[]) (λb hb=>by cases hb) (λb o _ _ _ q _=>k b o q) (λb o _ _ _ q _=>⟨o.slots,k b o q⟩)
    (λb o _ q n=>?_) (λb o _ q=>⟨o,k b o q⟩) (λb xs q=>A b _ q) (λb o u q=>A b _ q) (λb ps q=>⟨#[],by rw[A b _ q];simp⟩) (λm hm=>?_) (λb u q=>?_) I.bare
  · cases e:H' b with
    |none=>rfl
    | some u =>
      rcases new b u e with z|⟨z,_⟩
      · rw[n] at z;cases z
      · exact absurd (eK (bN q) z) (i7 _)
  · obtain⟨o,es,ep,ho,r⟩:=hm
    exact⟨o,es,ep,k _ o ho,r⟩
  · rcases new b u q with z|⟨_,z⟩
    · exact(I.hok b u z).stay (λc v _ y=>k c v y) (λc y=>A c _ y) λc xs y=>A c _ y
    · exact z
end
def SQ(K:PySem.W.Frag)(tl:TE):TE:=λσ H Q=>tl σ H λx H1=>∃a xs,x= .ref a/\aV K H1 a xs/\∀(S:aF) (g:List aF) (H':Hp),g.length=xs.length->H1 S=none->dG H1 H'->H' S=some (.lst (g.map V.ref))->(∀(j:Nat) T x,g[j]?=some T->xs[j]?=some x->H1 T=none/\T≠S/\H' T=some (.tup [.int j,x]))->Q (.ref S) H'
theorem Dt{X:Cx}{K:PySem.W.Frag}{l:eB}{tl:TE}{k p2 F d:Pos}(B:X.K=K)(hc:X.calm=true)(W6:Gl X "list")(U:X.mg "list"=none)(FP:Gl X "enumerate")(R:X.mg "enumerate"=none)(hl:PE X l tl)(hs:cc [l] X.env=[(false,eval l X.env)]:=by rfl)
    (hs1:cc [.Call (.Name "enumerate" p2) [l] [] d] X.env=[(false,eval (.Call (.Name "enumerate" p2) [l] [] d) X.env)]:=by rfl):
    PE X (.Call (.Name "list" k) [.Call (.Name "enumerate" p2) [l] [] d] [] F) (SQ K tl):=by
  subst B;intro pins s σ H Q I h;have ha:PA X [l] (bV tl cG):=aa hl ak (by rw[hs];rfl);refine y7 (nU I W6 U jD (qR ?_ hs1 rfl));rw[hs1];refine mn ?_;refine y7 (nU I FP R rE (qR (aT (ha d pins s σ H (λvs H1=>match vs with|[x]=>∃a xs,x= .ref a/\aV X.K H1 a xs/\∀(S:aF) (g:List aF) (H':Hp),g.length=xs.length->H1 S=none->dG H1 H'->H' S=some (.lst (g.map V.ref))->(∀(j:Nat) T x,g[j]?=some T->xs[j]?=some x->H1 T=none/\T≠S/\H' T=some (.tup [.int j,x]))->Q (.ref S) H'|_=>False) I h) λus s1 ⟨vs,H1,I1,M,O⟩=>?_) hs rfl));cases M with
  |nil=>exact O.elim
  | cons r n =>
    cases n with
    |cons _ _=>exact O.elim
    |nil=>
    obtain⟨a,xs,e2,hq,q⟩:=O;subst e2;cases r;obtain⟨its,rv,p,hz⟩:=I1.list hq;obtain⟨m,hn,_⟩:=I1.loc;refine enum_rows (h₀:={objs:= #[]}) (L:=X.env.locals) (m:=m) ⟨hn,λb o z=>?_,gE _⟩ p.isList λh' e1 e2 e3 e4 kp ne n1 Z _ _=>?_;· cases z
    refine m9 ?_;have I2:Inv X pins σ H1 {s1 with heap:=h'}:=I1.kept (t':=s1.toks) kp;have hlt:s1.heap.objs.size+1<h'.objs.size:=bN e1;have hal:a<s1.heap.objs.size:=by obtain⟨_,e,_⟩:=p.isList;exact bN e
    have hlen:=rv.length;refine KZ (I.ok.hd hc) e1 e2 e3 ne n1 Z (by rw[cY,<-hlen];exact hz) λh2 tk acc c k2 N hA=>?_;have Ua:∃g:List aF,acc.toList=g.map bo:=by
      have:∀L:List ag,(∀v∈L,∃T,v=bo T)->∃g:List aF,L=g.map bo:=by
        intro L;induction L with
        |nil=>exact λ_=>⟨[],rfl⟩
        | cons v L ih =>
          intro hv;obtain⟨T,rfl⟩:=hv v (cN ..);obtain⟨g,rfl⟩:=ih λw hw=>hv w (cM _ hw);exact⟨T::g,rfl⟩
      refine this _ λv hv=>?_;obtain⟨j,hj⟩:=ic hv;obtain⟨T,_,_,e,_⟩:=hA.2 j v (by rw[<-lU];exact hj);exact⟨T,e⟩
    obtain⟨g,zM⟩:=Ua;have Y:g.length=xs.length:=by
      have h1:=hA.1;rw[<-mj,zM,ao,cY] at h1;omega
    have f:∀(j:Nat) T x,g[j]?=some T->xs[j]?=some x->h'.objs.size+1<=T/\∃t u,RelV x u/\h2.get? T=some {cls:= .type "tuple",data:= .seq #[.int j t,u]}:=λj T x hT hx=>by
      obtain⟨E,t,u,e,hu,y,ho⟩:=hA.2 j (.ref T) (by rw[<-lU,zM,bw,hT];rfl);cases e;obtain⟨D,ZV,G⟩:=rv.get hx;have:D=u:=by
        rw[HU] at hu;rw[ZV] at hu;exact fP hu
      subst this;exact⟨y,t,D,G,ho⟩
    have inj:∀(i j:Nat) T,g[i]?=some T->g[j]?=some T->i=j:=λi j T h1 h3=>by
      have hi:=(aO.mp h1).1;have hj:=(aO.mp h3).1;obtain⟨_,t,u,_,g1⟩:=f i T _ h1 (aC ∅);obtain⟨_,t',D,_,g2⟩:=f j T _ h3 (aC ∅);rw[g1] at g2;injection g2 with g2
      injection g2 with _ _ g2
      injection g2 with g2 _
      injection g2 with g2
      injection g2 with g2 _
      injection g2 with g2 _
      exact z9 g2
    have y:∀T∈g,h'.objs.size+1<=T:=λT hT=>by
      obtain⟨j,hj⟩:=ic hT;have hj':=(aO.mp hj).1;exact(f j T _ hj (aC ∅)).1
    have hsz:s1.heap.objs.size<=h'.objs.size:=∅
    have fS:H1 h'.objs.size=none:=I1.hok.fresh hsz;have fT:∀T∈g,H1 T=none:=λT hT=>I1.hok.fresh (dP hsz (n6 (y T hT)));have JV:∀T∈g,T≠h'.objs.size:=λT hT z=>absurd (y T hT) (by rw[z];exact Nat.not_succ_le_self _);obtain⟨H',P,C,eO⟩:∃H':Hp,H' h'.objs.size=some (.lst (g.map V.ref))/\(∀(j:Nat) T x,g[j]?=some T->xs[j]?=some x->H' T=some (.tup [.int j,x]))/\∀b,b≠h'.objs.size->b∉g->H' b=H1 b:=by
      refine⟨λb=>if b=h'.objs.size then some (.lst (g.map V.ref)) else match g.findIdx? (λT=>T==b) with|some j=>(xs[j]?).map λx=>HO.tup [.int j,x]|none=>H1 b,if_pos rfl,λj T x hT hx=>?_,λb h1 h3=>?_⟩
      · have hTm:=bC hT
        show(if _ then _ else _)=_;rw[if_neg (JV T hTm)];have:g.findIdx? (λE=>E==T)=some j:=by
          cases e:g.findIdx? (λE=>E==T) with
          | none =>
            rw[FU] at e;have:=e T hTm;simp at this
          | some i =>
            rw[R8] at e;obtain⟨hi,h4,_⟩:=e;have:g[i]=T:=by simpa using h4
            rw[inj i j T (by rw[aC hi,this]) hT]
        rw[this];show(xs[j]?).map _=_;rw[hx]
        rfl
      · show(if _ then _ else _)=_
        rw[if_neg h1];have:g.findIdx? (λE=>E==b)=none:=by
          rw[FU];intro T hT;have:T≠b:=λz=>h3 (z▸hT);simpa using this
        rw[this]
    have A:dG H1 H':=λb u hb=>by
      rw[eO b (λz=>by rw[z,fS] at hb;cases hb) (λz=>by rw[fT b z] at hb;cases hb)];exact hb
    refine⟨.ref h'.objs.size,H',?_,rfl,q _ g H' Y fS A P λj T x h1 h3=>⟨fT T (bC h1),JV T (bC h1),C j T x h1 h3⟩⟩;have J:∀b u,s1.heap.get? b=some u->h2.get? b=some u:=λb u hb=>k2 b u (dz (mK (bN hb))) (dz (bN hb)) (kp b u hb);refine I1.afb (t':=tk) J A λb u hb=>?_;by_cases c1:b=h'.objs.size
    · subst c1
      rw[P] at hb;cases hb
      refine .inr ⟨hsz,by rw[ao,Y];exact hz,g.map bo,c,?_,?_⟩
      · clear P C eO A q hA N zM f inj y fT JV Y
        induction g with
        |nil=>exact .nil
        |cons T g ih=>exact .cons rfl ih
      · rw[<-zM,Rl];exact N
    · by_cases c2:b∈g
      · obtain⟨j,hj⟩:=ic c2
        have hj':=(aO.mp hj).1;have hx:xs[j]?=some (xs[j]'∅):=aC ∅;rw[C j b _ hj hx] at hb;cases hb
        obtain⟨g1,t,w,G,ho⟩:=f j b _ hj hx;exact .inr ⟨dP hsz (n6 g1),by show 2<=sizeLine;decide,[.int j t,w], .cons ⟨t,rfl⟩ (.cons G .nil),_,ho,rfl,_,rfl⟩
      · rw[eO b c1 c2] at hb
        exact .inl hb
section
variable{G:Gx}{ρ:Rh}{te:TE}{K:PySem.W.Frag}{Θ:Bool->List PyData->Prop}
theorem az.Rc(h:Ev G ρ te λ_ x=>∃ds,x= .list ds/\fc ds=true/\Θ true (ds.zipIdx.map λq=> .tuple [.int q.2,q.1])):az G ρ (SQ K te) Θ:=λnb σ H Q W z=>
 h nb σ H _ W λf v H1 x ⟨ds,ex,b,q⟩ s1 hv=>by
  subst ex;obtain⟨a,xs,rfl,n,hx,hd⟩:=hv.dW;have hl:=hd.length;refine⟨a,xs,rfl, .of hx,λS g H' Y N A P C=>?_⟩;have st:Step G.B H H':=s1.trans (.same s1.2 A);have p:H S=none:=by
   cases e:H S with
   |none=>rfl
   |some o=>rw[s1.1 S o (NB.new s1.2 N) e] at N;cases N
  refine z true S _ H' _ q st p P ?_;refine af.HC (by rw[ao,ao,mN];omega) λj d w hj hw=>?_;rw[bw,zy] at hj;rw[bw] at hw;obtain⟨T,hT,rfl⟩:=kK.mp hw;have hjl:j<ds.length:=by have:=(aO.mp hT).1;omega
  rw[aC hjl] at hj;have s:d= .tuple [.int j,ds[j]]:=by simpa using hj.symm
  subst s;obtain⟨x,c,dx⟩:=hd.get (aC hjl);obtain⟨g1,g2,g3⟩:=C j T x hT c;have sx:=g6.mp b _ (cU hjl);have m:H T=none:=by
   cases e:H T with
   |none=>rfl
   |some o=>rw[s1.1 T o (NB.new s1.2 g1) e] at g1;cases g1
  refine .tup (λy=>?_) g3 (.cons (.int _) (.cons (dx.jH sx) .nil));rcases y with y|y
  .exact W.fresh m y
  .exact g2 y
end
noncomputable def aE:(Nat->Int)->List Int->Int
 |_,[]=>0
 |f,x::xs=>f 0*x+aE (λi=>f (i+1)) xs
noncomputable def mulR(p c:Int)(r:List Int):List Int:=r.map λx=>c*x%p
noncomputable def gZ(p c:Int)(r o:List Int):List Int:=vc (λx y=>(x-c*y)%p) r o
noncomputable def gI(r:List Int)(i:Nat):Int:=r.getD i 0
structure cZ(p:Int)(w:Nat)(r:List Int):Prop where
 len:r.length=w
 rg:∀x∈r,0<=x/\x<p
def cZ.g{w:Nat}(h:cZ p w r)(hp:0<p):0<=gI r i/\gI r i<p:=by
 unfold gI;rw[br];cases e:r[i]? with
 |none=>exact⟨xn 0,hp⟩
 |some x=>exact h.rg x (bC e)
def cZ.at{w:Nat}(h:cZ p w r)(hi:i<w):r[i]?=some (gI r i):=by
 unfold gI;rw[br,aC (by rw[h.len];exact hi)]
 rfl
theorem Fb(p c:Int):∀(f:Nat->Int) (r:List Int),∃k,aE f (mulR p c r)=c*aE f r+p*k
  |_,[]=>⟨0,by simp[aE,mulR]⟩
  | f, x :: xs => by
    obtain⟨k,hk⟩:=Fb p c (λi=>f (i+1)) xs;refine⟨k-f 0*(c*x/p),?_⟩;show f 0*(c*x%p)+aE _ (mulR p c xs)=c*(f 0*x+aE _ xs)+_;rw[hk,qX]
    grind
theorem Hx(p c:Int):∀(f:Nat->Int) (r o:List Int),r.length=o.length->∃k,aE f (gZ p c r o)=aE f r-c*aE f o+p*k
  |_,[],[],_=>⟨0,by simp[aE,gZ]⟩
  |_,[],_::_,h=>by simp at h
  |_,_::_,[],h=>by simp at h
  | f, x :: xs, y :: ys, h => by
    obtain⟨k,hk⟩:=Hx p c (λi=>f (i+1)) xs ys (by simpa using h);refine⟨k-f 0*((x-c*y)/p),?_⟩;show f 0*((x-c*y)%p)+aE _ (gZ p c xs ys)=(f 0*x+aE _ xs)-c*(f 0*y+aE _ ys)+_;rw[hk,qX]
    grind
def Ox{c:Int}(hi:i<r.length):gI (mulR p c r) i=c*gI r i%p:=by
 unfold gI mulR;rw[br,bw,br,aC hi]
 rfl
def Wu{c:Int}{o:List Int}(hi:i<r.length)(ho:i<o.length):gI (gZ p c r o) i=(gI r i-c*gI o i)%p:=by
 unfold gI gZ;rw[br,Bo,br,br,aC hi,aC ho]
 rfl
theorem cZ.mul{c:Int}{w:Nat}(h:cZ p w r)(hp:0<p):cZ p w (mulR p c r):=by
 refine⟨by unfold mulR;rw[ao,h.len],λx hx=>?_⟩;obtain⟨y,_,rfl⟩:=cL.mp hx;exact⟨iw _ ∅,g7 _ hp⟩
theorem cZ.less{c:Int}{w:Nat}{o:List Int}(h:cZ p w r)(h2:cZ p w o)(hp:0<p):cZ p w (gZ p c r o):=by
 refine⟨by unfold gZ;rw[EW,h.len,h2.len];omega,λx hx=>?_⟩;obtain⟨i,hi⟩:=ic hx;unfold gZ at hi;rw[Bo] at hi;cases e1:r[i]?<;>cases e2:o[i]?<;>rw[e1,e2] at hi<;>simp at hi;subst hi;exact⟨iw _ ∅,g7 _ hp⟩
theorem VA{w:Nat}{o:List Int}(h:cZ p w r)(h2:cZ p w o):gZ p 0 r o=r:=by
 apply oP;·unfold gZ;rw[EW,h.len,h2.len];omega
 .intro i h3 h4;have e:(gZ p 0 r o)[i]'h3=(r[i]-0*o[i]'(by rw[h2.len,<-h.len];exact h4))%p:=Nq ..;rw[e];obtain⟨a,b⟩:=h.rg _ (cU h4);rw[kC,tY,kX a b]
noncomputable def jk(p inv:Int)(R:List (List Int))(k pl:Nat):List (List Int):=
 (R.map λr=>gZ p (gI r pl) r (mulR p inv (R.getD k []))).set k (mulR p inv (R.getD k []))
def ny(p:Int)(w:Nat)(R:List (List Int)):Prop:=∀r∈R,cZ p w r
def pB(p:Int)(R c:List (List Int)):Prop:=∀f:Nat->Int,(∀r∈R,p∣aE f r)↔∀r∈c,p∣aE f r
def pB.refl(p:Int)(R:List (List Int)):pB p R R:=λ_=>Iff.rfl
theorem pB.trans{p:Int}{R c K4:List (List Int)}(a:pB p R c)(b:pB p c K4):pB p R K4:=λf=>(a f).trans (b f)
section
variable{p inv:Int}{w k pl:Nat}{R:List (List Int)}
def BY:(jk p inv R k pl).length=R.length:=by unfold jk;rw[fR,ao]
def S6(h:(jk p inv R k pl)[i]?=some r)(hk:k<R.length):∃r0,R[i]?=some r0/\((i=k/\r=mulR p inv r0)\/(i≠k/\r=gZ p (gI r0 pl) r0 (mulR p inv (R.getD k [])))):=by
 unfold jk at h;by_cases c:k=i
 .subst c;rw[cI (by rw[ao];exact hk)] at h;refine⟨R[k],aC hk, .inl ⟨rfl,?_⟩⟩;rw[br,aC hk] at h;exact(fP h).symm
 .rw[bI c,bw] at h;obtain⟨r0,e,h⟩:=kK.mp h;exact⟨r0,e, .inr ⟨λz=>c z.symm,h.symm⟩⟩
def RR(hR:ny p w R)(hp:0<p)(hk:k<R.length):ny p w (jk p inv R k pl):=λr hr=>by
 obtain⟨i,hi⟩:=ic hr;obtain⟨r0,e,⟨_,rfl⟩|⟨_,rfl⟩⟩:=S6 hi hk;·exact(hR r0 (bC e)).mul hp
 .have:cZ p w (R.getD k []):=by rw[br,aC hk];exact hR _ (cU hk)
  exact(hR r0 (bC e)).less (this.mul hp) hp
theorem Ed(hR:ny p w R)(hp:0<p)(hk:k<R.length)(m:∃j,inv*gI (R.getD k []) pl=1+p*j):pB p R (jk p inv R k pl):=by
 have b:R.getD k []=R[k]:=by rw[br,aC hk];rfl
 have l:cZ p w R[k]:=hR _ (cU hk);obtain⟨j,hj⟩:=m;rw[b] at hj;intro f;obtain⟨k1,e1⟩:=Fb p inv f R[k];constructor
 .intro h r hr;obtain⟨i,hi⟩:=ic hr;obtain⟨r0,e,⟨_,rfl⟩|⟨_,rfl⟩⟩:=S6 hi hk
  .obtain⟨k2,e2⟩:=Fb p inv f r0;rw[e2];exact xr (tV (h r0 (bC e))) (AW ..)
  .rw[b];obtain⟨k2,e2⟩:=Hx p (gI r0 pl) f r0 (mulR p inv R[k]) (by rw[(hR r0 (bC e)).len,(l.mul hp).len]);rw[e2,e1];refine xr (Hh (h r0 (bC e)) (tV ?_)) (AW ..);exact xr (tV (h _ (cU hk))) (AW ..)
 .intro h;have a:p∣aE f (mulR p inv R[k]):=by
   refine h _ ?_;have:(jk p inv R k pl)[k]?=some (mulR p inv R[k]):=by
    unfold jk;rw[cI (by rw[ao];exact hk),b]
   exact bC this
  intro r hr;obtain⟨i,hi⟩:=ic hr;by_cases c:i=k
  .subst c;rw[aC hk] at hi;cases hi;rw[e1] at a;obtain⟨q,hq⟩:=a;refine⟨gI R[i] pl*(q-k1)-aE f R[i]*j,?_⟩;have:aE f R[i]=(inv*gI R[i] pl-p*j)*aE f R[i]:=by rw[hj];grind
   rw[this]
   grind
  .have hm:gZ p (gI r pl) r (mulR p inv R[k])∈jk p inv R k pl:=by
    have:(jk p inv R k pl)[i]?=some (gZ p (gI r pl) r (mulR p inv R[k])):=by
     unfold jk;rw[bI (λz=>c z.symm),bw,hi,b]
     rfl
    exact bC this
   obtain⟨k2,e2⟩:=Hx p (gI r pl) f r (mulR p inv R[k]) (by rw[(hR r hr).len,(l.mul hp).len]);have h3:=h _ hm;rw[e2] at h3;have:aE f r=(aE f r-gI r pl*aE f (mulR p inv R[k])+p*k2)+gI r pl*aE f (mulR p inv R[k])-p*k2:=∅
   rw[this];exact Hh (xr h3 (tV a)) (AW ..)
def mP{R:List (List Int)}(hi:i<R.length):R.getD i []=R[i]:=by rw[br,aC hi];rfl
def ME{d:Nat}(hR:ny p w R)(hp:0<p)(hk:k<R.length)(hi:i<R.length)(hd:d<w):
  gI ((jk p inv R k pl).getD i []) d=if i=k then inv*gI (R.getD k []) d%p else(gI (R.getD i []) d-gI (R.getD i []) pl*(inv*gI (R.getD k []) d%p))%p:=by
 have l:cZ p w R[k]:=hR _ (cU hk);have a:cZ p w R[i]:=hR _ (cU hi);unfold jk;rw[br];by_cases c:i=k
 .subst c;rw[if_pos rfl,cI (by rw[ao];exact hi),mP hi];exact Ox (by rw[a.len];exact hd)
 .rw[if_neg c,bI (λz=>c z.symm),bw,aC hi,mP hk,mP hi];show gI (gZ p (gI R[i] pl) R[i] (mulR p inv R[k])) d=_;rw[Wu (by rw[a.len];exact hd) (by rw[(l.mul hp).len];exact hd),Ox (by rw[l.len];exact hd)]
end
def pre_of{D D1 D2:List Nat}{x d:Nat}(e:D++[d]=D1++x::D2)(hx:x∈D)(hn:x∉D1):∃D3,D=D1++x::D3:=by
 rcases Ri D2 with rfl|⟨D3,y,rfl⟩
 .have h:=pd e rfl;rw[h.1] at hx;exact absurd hx hn
 .have e':D++[d]=(D1++x::D3)++[y]:=by rw[e];simp
  exact⟨D3,(pd e' rfl).1⟩
structure jc(p:Int)(w:Nat)(R0 R:List (List Int))(T:List (Nat×Nat))(D:List Nat):Prop where
 ok:ny p w R
 len:R.length=R0.length
 sp:pB p R0 R
 nd:(T.map (·.1)).Nodup
 rg:∀q∈T,q.1<R.length/\q.2∈D
 one:∀q∈T,∀i<R.length,gI (R.getD i []) q.2=if i=q.1 then 1 else 0
 zero:∀i<R.length,i∉T.map (·.1)->∀d∈D,gI (R.getD i []) d=0
 ah:∀D1 D2 q,q∈T->D=D1++q.2::D2->q.2∉D1->∀d∈D1,gI (R.getD q.1 []) d=0
section
variable{p inv:Int}{w k d:Nat}{R R0:List (List Int)}{T:List (Nat×Nat)}{D:List Nat}
def jc.init(h:ny p w R):jc p w R R [] []:=⟨h,rfl, .refl _ _, .nil,(λq hq=>by cases hq),(λq hq=>by cases hq),(λ_ _ _ d hd=>by cases hd),λ_ _ q hq=>by cases hq⟩
def jc.skip(h:jc p w R0 R T D)(hz:∀i<R.length,i∉T.map (·.1)->gI (R.getD i []) d=0):jc p w R0 R T (D++[d]):=
 ⟨h.ok,h.len,h.sp,h.nd,λq hq=>⟨(h.rg q hq).1,jB _ (h.rg q hq).2⟩,h.one,λi hi hn e he=>by
  rcases dM.mp he with z|z
  .exact h.zero i hi hn e z
  .rw[aZ.mp z];exact hz i hi hn,λD1 D2 q hq e hn x hx=>by
  obtain⟨s,e3⟩:=pre_of e (h.rg q hq).2 hn;exact h.ah D1 s q hq e3 hn x hx⟩
theorem jc.take(h:jc p w R0 R T D)(hp:1<p)(A:∀e∈D,e<w)(C:d<w)(hk:k<R.length)(o:k∉T.map (·.1))(J:gI (R.getD k []) d≠0)(m:∃j,inv*gI (R.getD k []) d=1+p*j):jc p w R0 (jk p inv R k d) (T++[(k,d)]) (D++[d]):=by
 have l:0<p:=∅
 have e1:inv*gI (R.getD k []) d%p=1:=by
  obtain⟨j,hj⟩:=m;rw[hj,uT,kX ∅ hp]
 have n:∀e∈D,gI (R.getD k []) e=0:=λe he=>h.zero k hk o e he;have r:∀e∈D,∀i<R.length,gI ((jk p inv R k d).getD i []) e=if i=k then 0 else gI (R.getD i []) e:=λe he i hi=>by
  rw[ME h.ok l hk hi (A e he),n e he];by_cases c:i=k;·rw[if_pos c,if_pos c,iu,yM]
  .rw[if_neg c,if_neg c,iu,yM,iu,tY];have hr:cZ p w (R.getD i []):=by rw[mP hi];exact h.ok _ (cU hi)
   obtain⟨a,b⟩:=hr.g (i:=e) l;exact kX a b
 have v:∀i<R.length,gI ((jk p inv R k d).getD i []) d=if i=k then 1 else 0:=λi hi=>by
  rw[ME h.ok l hk hi C,e1];by_cases c:i=k;·rw[if_pos c,if_pos c]
  .rw[if_neg c,if_neg c,se,Int.sub_self,yM]
 refine⟨RR h.ok l hk,by rw[BY,h.len],h.sp.trans (Ed h.ok l hk m),?_,λq hq=>?_,λq hq i hi=>?_,λi hi hn e he=>?_,λD1 D2 q hq e hn x hx=>?_⟩
 .rw[bS,l9];refine⟨h.nd,by simp,λa ha b hb=>?_⟩;rw[FJ,aZ] at hb;rw[hb];exact λz=>o (by rw[show a=k from z] at ha;exact ha)
 .rw[BY];rcases dM.mp hq with z|z
  .exact⟨(h.rg q z).1,jB _ (h.rg q z).2⟩
  .rw[aZ.mp z];exact⟨hk,jI _ (by simp)⟩
 .rw[BY] at hi;rcases dM.mp hq with z|z
  .rw[r _ (h.rg q z).2 i hi];have t:k≠q.1:=λy=>o (y▸uI z);by_cases c:i=k;·rw[if_pos c,if_neg (by rw[c];exact t)]
   .rw[if_neg c,h.one q z i hi]
  .rw[aZ.mp z];exact v i hi
 .rw[BY] at hi;rw[bS,dM,not_or] at hn;have f:i≠k:=λy=>hn.2 (by rw[y];simp);rcases dM.mp he with z|z
  .rw[r e z i hi,if_neg f];exact h.zero i hi hn.1 e z
  .rw[aZ.mp z,v i hi,if_neg f]
 .rcases dM.mp hq with z|z
  .obtain⟨s,e3⟩:=pre_of e (h.rg q z).2 hn;have u:x∈D:=by rw[e3];exact jB _ hx
   rw[r x u q.1 (h.rg q z).1,if_neg (λy=>o (by rw[<-y];exact uI z))];exact h.ah D1 s q z e3 hn x hx
  .rw[aZ.mp z] at e hn⊢;have u:x∈D:=by
    have L:x∈D++[d]:=by rw[e];exact jB _ hx
    rcases dM.mp L with y|y
    .exact y
    .rw[aZ.mp y] at hx;exact absurd hx hn
   rw[r x u k hk,if_pos rfl]
end
theorem DI(f g:Nat->Int):∀r:List Int,aE (λi=>f i+g i) r=aE f r+aE g r
  |[]=>by simp[aE]
  | x :: xs => by
    show(f 0+g 0)*x+aE _ xs=(f 0*x+aE _ xs)+(g 0*x+aE _ xs);rw[DI (λi=>f (i+1)) (λi=>g (i+1)) xs]
    grind
theorem qI:∀(f:Nat->Int) (r:List Int),(∀i<r.length,f i*gI r i=0)->aE f r=0
  |_,[],_=>rfl
  | f, x :: xs, h => by
    show f 0*x+aE _ xs=0;rw[qI (λi=>f (i+1)) xs λi hi=>h (i+1) (by simpa using hi)];have:f 0*x=0:=h 0 (by simp);omega
theorem tT:∀(f:Nat->Int) (r:List Int) (pl:Nat),pl<r.length->(∀i<r.length,i≠pl->f i*gI r i=0)->aE f r=f pl*gI r pl
  |_,[],_,h,_=>by simp at h
  | f, x :: xs, 0, _, h => by
    show f 0*x+aE _ xs=f 0*x;rw[qI (λi=>f (i+1)) xs λi hi=>h (i+1) (by simpa using hi) ∅];omega
  | f, x :: xs, pl + 1, hl, h => by
    show f 0*x+aE _ xs=f (pl+1)*gI xs pl;rw[tT (λi=>f (i+1)) xs pl (by simpa using hl) λi hi c=>h (i+1) (by simpa using hi) ∅];have:f 0*x=0:=h 0 (by simp) ∅;omega
theorem CN:∀(f:Nat->Int) (r:List Int) (i:Nat) (x:Int),i<r.length->aE f (r.set i x)=aE f r+f i*(x-gI r i)
  |_,[],_,_,h=>by simp at h
  | f, y :: ys, 0, x, _ => by
    show f 0*x+aE _ ys=f 0*y+aE _ ys+f 0*(x-y)
    grind
  | f, y :: ys, i + 1, x, h => by
    show f 0*y+aE _ (ys.set i x)=f 0*y+aE _ ys+f (i+1)*(x-gI ys i);rw[CN (λi=>f (i+1)) ys i x (by simpa using h)]
    grind
theorem Er:∀(f:Nat->Int) (n:Nat),aE f (ar n 0)=0
  |_,0=>rfl
  | f, n + 1 => by
    show f 0*0+aE _ (ar n 0)=0;rw[Er];omega
def Ev.inv(h:Av G ρ t λes=>∃p b:Int,es.map (·.2)=[.int p, .int b]/\gc p/\p<10^40/\b%p≠0/\∀u:Int,0<=u->u<p->(∃k,u*b=1+p*k)->Φ true (.int u)):
  Ev G ρ (iS Am [] E0 t) Φ:=λnb σ H Q W z=>
 h nb σ H _ W λes vs H1 ⟨p,b,e,h1,h2,h3,q⟩ s1 O=>by
  have hd:=O.all (f:=false) (λz=>by cases z);rw[e] at hd;unfold af at hd;obtain⟨x,ys,rfl,d1,hd⟩:=hd;unfold af at hd;obtain⟨y,zs,rfl,d2,hd⟩:=hd;unfold af at hd;subst hd;rw[d1.cC,d2.cC];exact⟨p,b,rfl,h1,h2,h3,λu a u1 u2=>z true _ H1 _ (q u a u1 u2) s1 (.int u)⟩
structure iB(p n:Int)(cs:List aj):Prop where
 hp:gc p
 iE:p<10^40
 n0:1<=n
 n1:n<=400
 cl:cs.length<=500
 ok:∀prs∈cs,(prs.map (·.1)).Nodup/\prs.length<=1000/\∀pr∈prs,0<=pr.1/\pr.1<n/\0<=pr.2/\pr.2<p
noncomputable def jz(r:List Int)(prs:aj):List Int:=prs.foldl (λr pr=>r.set pr.1.toNat pr.2) r
noncomputable def o7(n m c:Nat)(prs:aj):List Int:=(jz (ar (n+m) 0) prs).set (n+c) 1
noncomputable def iz(n m:Nat)(cs:List aj):List (List Int):=cs.zipIdx.map λq=>o7 n m q.2 q.1
theorem wW:∀(prs:aj) (r:List Int),(jz r prs).length=r.length
  |[],_=>rfl
  | pr :: prs, r => by
    show(jz (r.set pr.1.toNat pr.2) prs).length=_;rw[wW prs,fR]
theorem K7:∀(prs:aj) (r:List Int) (x:Int),x∈jz r prs->x∈r\/x∈prs.map (·.2)
  |[],_,x,h=> .inl h
  | pr :: prs, r, x, h => by
    rcases K7 prs (r.set pr.1.toNat pr.2) x h with z|z
    · rcases nZ z with y|y
      · exact .inl y
      · exact .inr (by rw[y];simp)
    · exact .inr (by rw[bG];exact cM _ z)
theorem SS:∀(prs:aj) (r:List Int) (i:Nat),(∀pr∈prs,pr.1.toNat≠i)->gI (jz r prs) i=gI r i
  |[],_,_,_=>rfl
  | pr :: prs, r, i, h => by
    show gI (jz (r.set pr.1.toNat pr.2) prs) i=_;rw[SS prs _ i λq hq=>h q (cM _ hq)];unfold gI;rw[br,bI (h pr (cN ..)),br]
theorem Sh(f:Nat->Int):∀(prs:aj) (r:List Int),(prs.map (·.1)).Nodup->(∀pr∈prs,0<=pr.1/\pr.1.toNat<r.length/\gI r pr.1.toNat=0)->aE f (jz r prs)=aE f r+(prs.map λpr=>f pr.1.toNat*pr.2).sum
  |[],r,_,_=>by simp[jz]
  | pr :: prs, r, hn, h => by
    rw[bG,jn] at hn;obtain⟨h0,h1,h2⟩:=h pr (cN ..);show aE f (jz (r.set pr.1.toNat pr.2) prs)=_;rw[Sh f prs _ hn.2 λq hq=>?_,CN f r _ _ h1,h2,bG,lB];· grind
    · obtain⟨T,g1,g2⟩:=h q (cM _ hq)
      refine⟨T,by rw[fR];exact g1,?_⟩
      have:pr.1.toNat≠q.1.toNat:=λz=>hn.1 (by
        have e:pr.1=q.1:=∅
        rw[e];exact uI hq)
      unfold gI;rw[br,bI this,<-br];exact g2
def zV(n i:Nat):gI (ar n 0) i=0:=by
 unfold gI;rw[br,gf];split<;>rfl
section
variable{p n:Int}{cs:List aj}{prs:aj}{m c:Nat}
theorem QU(f:Nat->Int)(hn:(prs.map (·.1)).Nodup)(h:∀pr∈prs,0<=pr.1/\pr.1<n)(n0:0<=n)(hc:c<m):aE f (o7 n.toNat m c prs)=(prs.map λpr=>f pr.1.toNat*pr.2).sum+f (n.toNat+c):=by
 unfold o7;have h1:gI (jz (ar (n.toNat+m) 0) prs) (n.toNat+c)=0:=by
  rw[SS _ _ _ λpr G=>by have:=h pr G;omega,zV]
 rw[CN _ _ _ _ (by rw[wW,lN];omega),h1,Sh f prs _ hn λpr G=>?_,Er];·omega
 .have:=h pr G;exact⟨this.1,by rw[lN];omega,zV ..⟩
theorem Ot(hp:1<p)(h:∀pr∈prs,0<=pr.2/\pr.2<p):cZ p (n.toNat+m) (o7 n.toNat m c prs):=by
 unfold o7;refine⟨by rw[fR,wW,lN],λx hx=>?_⟩;rcases nZ hx with z|z
 .rcases K7 _ _ _ z with y|y
  .rw[J6] at y;omega
  .obtain⟨pr,G,rfl⟩:=cL.mp y;exact h pr G
 .omega
def NC(h:r∈iz n.toNat m cs):∃c prs,cs[c]?=some prs/\r=o7 n.toNat m c prs:=by
 obtain⟨q,hq,rfl⟩:=cL.mp h;obtain⟨i,hi⟩:=ic hq;rw[zy] at hi;obtain⟨x,e,h2⟩:=kK.mp hi;subst h2;exact⟨_,x,by simpa using e,by simp⟩
def En:(iz n.toNat m cs).length=cs.length:=by unfold iz;rw[ao,mN]
def ZT{c:Nat}(h:cs[c]?=some prs):o7 n.toNat m c prs∈iz n.toNat m cs:=by
 unfold iz;refine cL.mpr ⟨(prs,c),?_,rfl⟩;refine bC (i:=c) ?_;rw[zy,h];simp
def iB.rows(h:iB p n cs):ny p (n.toNat+cs.length) (iz n.toNat cs.length cs):=λr hr=>by
 obtain⟨c,prs,e,rfl⟩:=NC hr;exact Ot h.hp.1 λpr G=>((h.ok prs (bC e)).2.2 pr G).2.2
end
noncomputable def dD(wd:Wo)(i:Nat):Int:=match wd[i]? with
 |some (some x)=>x
 |_=>0
theorem Ow(wd:Wo):∀(xs:List Int) (k:Nat),((xs.zipIdx k).map λq=>gY wd ((q.2:Int),q.1)).sum=aE (λi=>dD wd (k+i)) xs
  |[],_=>rfl
  | x :: xs, k => by
    rw[ph,bG,lB,Ow wd xs (k+1)];show _=dD wd (k+0)*x+aE _ xs;have e:(λi=>dD wd (k+1+i))=λi=>dD wd (k+(i+1)):=by funext i;rw[show k+1+i=k+(i+1) by omega]
    rw[e]
    congr 1
    unfold gY dD;simp only[jw,JD];cases wd[k]? with
    |none=>simp
    |some o=>cases o<;>simp[mh]
theorem Fg:∀(f:Nat->Int) (r:List Int) (n:Nat),(∀i,n<=i->f i=0)->aE f (r.take n)=aE f r
  |_,[],_,_=>by simp
  | f, x :: xs, 0, h => by
    rw[qS,qI f (x::xs) λi _=>by rw[h i (gE _),kC]]
    rfl
  | f, x :: xs, n + 1, h => by
    show f 0*x+aE _ (xs.take n)=f 0*x+aE _ xs;rw[Fg (λi=>f (i+1)) xs n λi hi=>h (i+1) ∅]
theorem Tb(hw:wd.length=n):aQ ((r.take n).zipIdx.map λq=>((q.2:Int),q.1)) wd=aE (dD wd) r:=by
 unfold aQ;rw[j7];have:=Ow wd (r.take n) 0;simp only[vt] at this;rw[<-Fg (dD wd) r n λi hi=>?_];·exact this
 .unfold dD;rw[jT ∅]
noncomputable def jZ(wd:Wo):List Nat:=(aL wd.length).filter λi=>wd[i]?==some none
def FF:i∈jZ wd↔wd[i]?=some none:=by
 unfold jZ;rw[fG,iQ,beq_iff_eq];exact⟨λh=>h.2,λh=>⟨(aO.mp h).1,h⟩⟩
structure FI(p n:Int)(wd:Wo)(R:List (List Int))(T:List (Nat×Nat))(i:Nat)(v:List Int):Prop where
 len:v.length=n.toNat
 rg:∀x∈v,0<=x/\x<p
 known:∀(j:Nat) x,wd[j]?=some (some x)->gI v j=x
 Ay:∀q∈T,q.1<i->gI v q.2= -(aE (dD wd) (R.getD q.1 []))%p
 rest:∀j,wd[j]?=some none->(∀q∈T,q.2=j->i<=q.1)->gI v j=0
 free:∀k<i,k∉T.map (·.1)->p∣aE (dD wd) (R.getD k [])
theorem jc.inj{w:Nat}{R0 R:List (List Int)}{D:List Nat}(h:jc p w R0 R T D){a b:Nat×Nat}(ha:a∈T)(hb:b∈T)(e:a.2=b.2):a.1=b.1:=by
 have h1:=h.one a ha a.1 (h.rg a ha).1;have h2:=h.one b hb a.1 (h.rg a ha).1;rw[if_pos rfl] at h1;rw[<-e,h1] at h2;by_cases c:a.1=b.1;·exact c
 .rw[if_neg c] at h2;omega
def CW(hi:i<r.length)(j:Nat):gI (r.set i x) j=if j=i then x else gI r j:=by
 unfold gI;rw[br];by_cases c:j=i;·subst c;rw[cI hi,if_pos rfl];rfl
 .rw[bI (λz=>c z.symm),if_neg c,br]
section
variable{p n:Int}{wd:Wo}{R R0:List (List Int)}{T:List (Nat×Nat)}{i w:Nat}{v:List Int}
theorem FI.rows(h:FI p n wd R T R.length v)(hp:0<p)(hwl:wd.length=n.toNat)(N:jc p w R0 R T (jZ wd))(hw:n.toNat<=w):∀r∈R,p∣aE (gI v) r:=by
  intro r hr;obtain⟨k,hk⟩:=ic hr;have vB:=(aO.mp hk).1;have hg:R.getD k []=r:=by rw[br,hk];rfl
  have hrl:=(N.ok r hr).len;obtain⟨hf,d⟩:∃hf:Nat->Int,∀i,hf i=if wd[i]?=some none then gI v i else 0:=⟨_,λ_=>rfl⟩
  have split:gI v=λi=>dD wd i+hf i:=by
    funext i
    rw[d];unfold dD;cases e:wd[i]? with
    | none =>
      have:gI v i=0:=by
        unfold gI;have:wd.length<=i:=zp.mp e;rw[br,jT (by rw[h.len];omega)]
        rfl
      rw[this];simp
    | some o =>
      cases o with
      |none=>simp
      |some x=>rw[h.known i x e];simp
  rw[split,DI];by_cases c:k∈T.map (·.1)
  · obtain⟨q,hq,rfl⟩:=cL.mp c
    have f:wd[q.2]?=some none:=FF.mp (N.rg q hq).2;have C:q.2<r.length:=by
      have:=(aO.mp f).1;omega
    have h1:=N.one q hq q.1 vB;rw[if_pos rfl,hg] at h1;rw[tT hf r q.2 C λi hi J=>?_,h1,d,if_pos f,se,h.Ay q hq vB,hg,qX];· exact⟨-(-(aE (dD wd) r)/p),by grind⟩
    · rw[d]
      by_cases cl:wd[i]?=some none
      · rw[if_pos cl]
        by_cases ct:∃L∈T,L.2=i
        · obtain⟨L,g,e⟩:=ct
          have h2:=N.one L g q.1 vB
          have:q.1≠L.1:=λz=>J (by
            have h3:=N.one L g L.1 (N.rg L g).1;have h4:=N.nd;rw[<-e];have key:∀(T:List (Nat×Nat)),(T.map (·.1)).Nodup->∀a b:Nat×Nat,a∈T->b∈T->a.1=b.1->a=b:=by
              intro T;induction T with
              |nil=>intro _ a b ha;cases ha
              | cons t T ih =>
                intro hn a b ha hb e;rw[bG,jn] at hn;rcases aY.mp ha with y|y<;>rcases aY.mp hb with y2|y2
                · rw[y,y2]
                · exact absurd (cL.mpr ⟨b,y2,by rw[<-e,y]⟩) hn.1
                · exact absurd (cL.mpr ⟨a,y,by rw[e,y2]⟩) hn.1
                · exact ih hn.2 a b y y2 e
            exact congrArg Prod.snd (key T h4 L q g hq z.symm))
          rw[if_neg this,hg,e] at h2;rw[h2,iu]
        · rw[h.rest i cl λL g e=>absurd ⟨L,g,e⟩ ct,kC]
      · rw[if_neg cl,kC]
  · rw[qI hf r λi hi=>?_,rW]
    · have:=h.free k vB c
      rw[hg] at this;exact this
    · rw[d]
      by_cases cl:wd[i]?=some none
      · have:=N.zero k vB c i (FF.mpr cl)
        rw[hg] at this;rw[this,iu]
      · rw[if_neg cl,kC]
end
structure fW(p n:Int)(cs:List aj)(wd:Wo)(v:List Int):Prop where
 len:v.length=n.toNat
 rg:∀x∈v,0<=x/\x<p
 known:∀(j:Nat) x,wd[j]?=some (some x)->gI v j=x
 p8:∀prs∈cs,p∣aQ prs (v.map some)
theorem yR{v:List Int}{n:Int}(hv:v.length=n.toNat):∀(prs:aj),(∀pr∈prs,0<=pr.1/\pr.1<n)->aQ prs (v.map some)=(prs.map λpr=>gI v pr.1.toNat*pr.2).sum
  |[],_=>rfl
  | pr :: prs, h => by
    show gY _ pr+aQ prs _=_;rw[yR hv prs λq hq=>h q (cM _ hq),bG,lB]
    congr 1
    obtain⟨h0,h1⟩:=h pr (cN ..);unfold gY gI;rw[bw,br,aC (show pr.1.toNat<v.length by omega)];exact mh ..
theorem FI.word{n:Int}{R:List (List Int)}{v:List Int}(hN:iB p n cs)(h:FI p n wd R T R.length v)(hwl:wd.length=n.toNat)(N:jc p (n.toNat+cs.length) (iz n.toNat cs.length cs) R T (jZ wd)):fW p n cs wd v:=by
 have p2:=hN.hp.1;have n0:=hN.n0;refine⟨h.len,h.rg,h.known,λprs O=>?_⟩;have key:=(N.sp (gI v)).mpr (h.rows ∅ hwl N ∅);obtain⟨c,hc⟩:=ic O;have hcl:=(aO.mp hc).1;have:=key _ (ZT (n:=n) (m:=cs.length) hc);obtain⟨g1,g2,g3⟩:=hN.ok prs O;have G:∀pr∈prs,0<=pr.1/\pr.1<n:=λpr G=>⟨(g3 pr G).1,(g3 pr G).2.1⟩;rw[QU (gI v) g1 G ∅ hcl] at this;have z:gI v (n.toNat+c)=0:=by
  unfold gI;rw[br,jT (by rw[h.len];omega)]
  rfl
 rw[z,rW] at this;rw[yR h.len prs G];exact this
noncomputable def co(prs:aj)(j:Nat):Int:=(prs.map λpr=>if pr.1.toNat=j then pr.2 else 0).sum
noncomputable def iI:List aj->List Int->Nat->Int
 |prs::cs,x::xs,j=>co prs j*x+iI cs xs j
 |_,_,_=>0
theorem Tw:∀(n:Nat) (f:Nat->Int) (r:List Int),n<=r.length->aE f r=aE f (r.take n)+aE (λi=>f (n+i)) (r.drop n)
  |0,f,r,_=>by simp[aE]
  |n+1,f,[],h=>by simp at h
  | n + 1, f, x :: xs, h => by
    show f 0*x+aE _ xs=(f 0*x+aE _ (xs.take n))+aE _ (xs.drop n);rw[Tw n (λi=>f (i+1)) xs (by simpa using h),Int.add_assoc]
    congr 2
    congr 1
    funext i
    rw[show n+i+1=n+1+i by omega]
theorem QW(j:Nat):∀(cs:List aj) (xs:List Int),xs.length=cs.length->aE (λi=> -(co (cs.getD i []) j)) xs= -iI cs xs j
  |[],[],_=>rfl
  |[],_::_,h=>by simp at h
  |_::_,[],h=>by simp at h
  | prs :: cs, x :: xs, h => by
    show-(co prs j)*x+aE (λi=> -(co (cs.getD i []) j)) xs= -(co prs j*x+iI cs xs j);rw[QW j cs xs (by simpa using h)]
    grind
theorem Ol{n:Int}{R:List (List Int)}{D:List Nat}(hN:iB p n cs)(N:jc p (n.toNat+cs.length) (iz n.toNat cs.length cs) R T D){r:List Int}(hr:r∈R){j:Nat}(hj:j<n.toNat):p∣gI r j-iI cs (r.drop n.toNat) j:=by
 have n0:=hN.n0;obtain⟨f,ef⟩:∃f:Nat->Int,∀i,f i=if i=j then 1 else if n.toNat<=i then-(co (cs.getD (i-n.toNat) []) j) else 0:=⟨_,λ_=>rfl⟩
 have h0:∀r∈iz n.toNat cs.length cs,p∣aE f r:=λr0 a=>by
  obtain⟨c,prs,e,rfl⟩:=NC a;obtain⟨g1,g2,g3⟩:=hN.ok prs (bC e);have hcl:=(aO.mp e).1;rw[QU f g1 (λpr G=>⟨(g3 pr G).1,(g3 pr G).2.1⟩) ∅ hcl,ef (n.toNat+c),if_neg ∅,if_pos ∅,show n.toNat+c-n.toNat=c by omega];have e1:cs.getD c []=prs:=by rw[br,e];rfl
  have e2:(prs.map λpr=>f pr.1.toNat*pr.2).sum=co prs j:=by
   unfold co
   congr 1
   apply tU;intro pr G;have:=g3 pr G;rw[ef];by_cases c:pr.1.toNat=j;·rw[if_pos c,if_pos c,uQ]
   .rw[if_neg c,if_neg c,if_neg ∅,kC]
  rw[e1,e2];exact⟨0,∅⟩
 have h1:=(N.sp f).mp h0 r hr;have hl:=(N.ok r hr).len;rw[Tw n.toNat f r ∅,tT f (r.take n.toNat) j (by rw[iG];omega) λi hi J=>?_] at h1
 .have e3:(λi=>f (n.toNat+i))=λi=> -(co (cs.getD i []) j):=by
   funext i
   rw[ef,if_neg ∅,if_pos ∅,show n.toNat+i-n.toNat=i by omega]
  have e4:gI (r.take n.toNat) j=gI r j:=by
   unfold gI;rw[br,yL hj,br]
  rw[e3,QW j cs (r.drop n.toNat) (by rw[sW];omega),ef,if_pos rfl,e4,uQ] at h1;exact h1
 .rw[iG] at hi;rw[ef,if_neg J,if_neg ∅,kC]
theorem Ma{p u:Int}:∀(f:Nat->Int) (a b:List Int),a.length=b.length->(∀i<a.length,p∣gI a i-u*gI b i)->p∣aE f a-u*aE f b
  |_,[],[],_,_=>by simp[aE]
  |_,[],_::_,h,_=>by simp at h
  |_,_::_,[],h,_=>by simp at h
  | f, x :: xs, y :: ys, h, hh => by
    obtain⟨k,hk⟩:=Ma (u:=u) (λi=>f (i+1)) xs ys (by simpa using h) λi hi=>hh (i+1) (by simpa using hi);obtain⟨k2,s⟩:=hh 0 (by simp);have s:x-u*y=p*k2:=s;refine⟨f 0*k2+k,?_⟩;show(f 0*x+aE _ xs)-u*(f 0*y+aE _ ys)=_;have e1:x=u*y+p*k2:=∅
    have e2:aE (λi=>f (i+1)) xs=u*aE (λi=>f (i+1)) ys+p*k:=∅
    rw[e2,e1]
    grind
def tu:Sp:=λvs H Q _=>∃(nb:aF->Prop) (p n:Int) (cs:List aj) (v:V),vs=[v]/\kh nb H/\ai nb H (bR p n cs) v/\cs.length<=10000/\
 ∀T L xs H',dG H H'->H T=none->H L=none->H' T=some (.tup [.int p, .int n, .ref L])->H' L=some (.lst xs)->af (λa=>nb a\/a=L) H' (cs.map cy) xs->Q (.ref T) H'
section
variable{G:Gx}{ρ:Rh}{t:TA}{Φ:Pd}{E:DE}{K:PySem.W.Frag}{i j k:Nat}
def LV{S:aF->Prop}(h:af S H [d] vs):∃v,vs=[v]/\ai S H d v:=by
 unfold af at h;obtain⟨v,r,rfl,h1,h⟩:=h;unfold af at h;subst h;exact⟨v,rfl,h1⟩
def Ev.sI(h:Av G ρ t λes=>∃(p n:Int) (cs:List aj),es.map (·.2)=[bR p n cs]/\cs.length<=10000/\Φ false (bR p n cs)):Ev G ρ (iS tu [] E0 t) Φ:=λnb σ H Q W z=>
 h nb σ H _ W λes vs H1 ⟨p,n,cs,e,hl,q⟩ s1 O=>by
  have hd:=O.all (f:=false) (λz=>by cases z);rw[e] at hd;obtain⟨v,rfl,hv⟩:=LV hd;have W1:=W.step s1;refine⟨G.S nb false,p,n,cs,v,rfl,W1.ig,hv,hl,λT L xs H' A hT hL C l I=>?_⟩;have m:¬G.S nb false T:=λy=>absurd hT (W1.ig T y);have k:¬G.S nb false L:=λy=>absurd hL (W1.ig L y);refine z false _ H' _ q (s1.trans (.same s1.2 A)) (.tup m C (.cons (.int _) (.cons (.int _) (.cons (.lst k l (I.av λa y=> .inl y)) .nil))))
def Sv.aeG(hij:i≠k/\j≠k)(h:Av G ρ t λes=>∃(p n:Int) (cs:List aj),es.map (·.2)=[bR p n cs]/\cs.length<=10000/\∀c,E.nx (((ρ.set k (.own c false (cs.map cy))).set i (.d true (.int p))).set j (.d true (.int n)))):
  Sv G ρ (fV (iS tu [] E0 t) (qM K 3 (mV (fB i) (mV (fB j) (mV (fB k) tW))))) E:=λnb σ H D W KK=>
 h nb σ H _ W λes vs H1 ⟨p,n,cs,e,hl,q⟩ s1 O=>by
  have hd:=O.all (f:=false) (λz=>by cases z);rw[e] at hd;obtain⟨v,rfl,hv⟩:=LV hd;have W1:=W.step s1;refine⟨G.S nb false,p,n,cs,v,rfl,W1.ig,hv,hl,λT L xs H' A hT hL C l I=>?_⟩;have W2:=Wd.mz (i:=j) (f:=true) (d:= .int n) (v:= .int n) (Wd.mz (i:=i) (f:=true) (d:= .int p) (v:= .int p) (xA (i:=k) W1 (.same s1.2 A) hL l I) (.int p)) (.int n);refine⟨T,_,rfl, .of C,rfl,_,_,rfl,_,_,rfl,_,_,rfl,rfl,?_⟩;have e1:((σ.set k (some (V.ref L))).set i (some (.int p))).set j (some (.int n))=((σ.set i (some (.int p))).set j (some (.int n))).set k (some (V.ref L)):=by
   rw[uY _ _ (bH hij.1),uY _ _ (bH hij.2)]
  have h9:=KK.nx _ _ _ _ (q L) W2;rw[e1] at h9;exact h9
end
def Um{P:qr->Hp->Prop}(hl:kh nb H)(hd:af nb H ds vs)(u:ρ=ds.map (Sl.d false)++ar (N.length-ds.length) .no)
  (h:∀bq σ H1,Wd ⟨none,H,nb,[]⟩ bq ρ σ H1->P σ H1):P (start N vs) H:=
 Sv.fu (t:=λ_ σ H1=>P σ H1) (Φ:=λ_ _=>False) (Q:=λ_ _=>True) hl hd (λ_ _ _ _ z=>z.elim) u (λbq σ H1 _ W _=>h bq σ H1 W)
theorem LP(j:Nat)(prs:aj)(x:Int):∀(cs:List aj) (xs:List Int),cs.length=xs.length->iI (cs++[prs]) (xs++[x]) j=iI cs xs j+co prs j*x
  |[],[],_=>by simp[iI]
  |[],_::_,h=>by simp at h
  |_::_,[],h=>by simp at h
  | q :: cs, y :: ys, h => by
    show co q j*y+iI (cs++[prs]) (ys++[x]) j=co q j*y+iI cs ys j+_;rw[LP j prs x cs ys (by simpa using h)];omega
def Y3(prs:aj)(pr:Int×Int)(j:Nat):co (prs++[pr]) j=co prs j+if pr.1.toNat=j then pr.2 else 0:=by
 unfold co;rw[bS,oS];simp
structure jO(p n:Int)(cs:List aj)(bz:List Int)(c:Nat)(prs:aj)(x:Int)(r:List Int):Prop where
 ok:cZ p n.toNat r
 sum:∀i<n.toNat,p∣gI r i-(iI (cs.take c) (bz.take c) i+co prs i*x)
theorem jO.step{n:Int}{c:Nat}(h:jO p n cs bz c prs x r)(hp:0<p)(h0:0<=pr.1)(h1:pr.1<n):jO p n cs bz c (prs++[pr]) x (r.set pr.1.toNat ((gI r pr.1.toNat+pr.2*x)%p)):=by
 have hl:=h.ok.len;refine⟨⟨by rw[fR];exact hl,λy hy=>?_⟩,λi hi=>?_⟩
 .rcases nZ hy with z|z
  .exact h.ok.rg y z
  .rw[z];exact⟨iw _ ∅,g7 _ hp⟩
 .rw[CW ∅,Y3];obtain⟨k,hk⟩:=h.sum i hi;by_cases a:i=pr.1.toNat
  .subst a;rw[if_pos rfl,if_pos rfl,qX];refine⟨k-(gI r pr.1.toNat+pr.2*x)/p,?_⟩;have:gI r pr.1.toNat=iI (cs.take c) (bz.take c) pr.1.toNat+co prs pr.1.toNat*x+p*k:=∅
   generalize hd:(gI r pr.1.toNat+pr.2*x)/p=dd;rw[this]
   grind
  .rw[if_neg a,if_neg (λz=>a z.symm),rW];exact⟨k,hk⟩
theorem jO.next{n:Int}{c:Nat}(h:jO p n cs bz c prs x r)(hc:cs[c]?=some prs)(hx:bz[c]?=some x)(hl:bz.length=cs.length):jO p n cs bz (c+1) [] 0 r:=by
 refine⟨h.ok,λi hi=>?_⟩;have h1:=(aO.mp hc).1;have e1:cs.take (c+1)=cs.take c++[prs]:=by rw[xg,hc];rfl
 have e2:bz.take (c+1)=bz.take c++[x]:=by rw[xg,hx];rfl
 rw[e1,e2,LP i prs x _ _ (by rw[iG,iG];omega),iu,rW];exact h.sum i hi
def jO.start{n:Int}{c:Nat}{y:Int}(h:jO p n cs bz c [] x r):jO p n cs bz c [] y r:=by
 refine⟨h.ok,λi hi=>?_⟩;have:=h.sum i hi;simp[co] at this⊢;exact this
theorem jO.init{n:Int}(hp:0<p):jO p n cs bz 0 [] 0 (ar n.toNat 0):=by
 refine⟨⟨lN,λx hx=>by rw[J6] at hx;omega⟩,λi hi=>?_⟩;rw[zV];simp[iI,co]
def je(p:Int)(m:Nat)(prs:aj):Prop:=(prs.map (·.1)).Nodup/\prs.length<=1000/\∀pr∈prs,0<=pr.1/\pr.1<m/\1<=pr.2/\pr.2<p
def cZ.put{w:Nat}(h:cZ p w r)(h0:0<=x)(h1:x<p):cZ p w (r.set i x):=by
 refine⟨by rw[fR];exact h.len,λy hy=>?_⟩;rcases nZ hy with z|z
 .exact h.rg y z
 .rw[z];exact⟨h0,h1⟩
noncomputable def lQ(r:List Int)(i:Nat):aj:=((aL i).filter λk=>decide (gI r k≠0)).map λ(k:Nat)=>((k:Int),gI r k)
theorem adE{w:Nat}(h:cZ p w r)(hp:0<p)(hw:w<=1000):je p w (lQ r w):=by
 refine⟨?_,?_,λpr G=>?_⟩
 .unfold lQ;rw[j7];show(a3 (λ(k:Nat)=>(k:Int)) _).Nodup;rw[aR,qW];exact(List.nodup_range.filter _).imp λ{a b} h z=>h ∅
 .unfold lQ;rw[ao];exact dP (oN ..) (by rw[kD];exact hw)
 .obtain⟨k,hk,rfl⟩:=cL.mp G;rw[fG,iQ] at hk;have h1:=h.g (i:=k) hp;have h2:gI r k≠0:=by simpa using hk.2
  exact⟨by show(0:Int)<=k;omega,by show(k:Int)<w;omega,by show 1<=gI r k;omega,h1.2⟩
def L6(r:List Int)(i:Nat):lQ r (i+1)=lQ r i++if gI r i≠0 then[((i:Int),gI r i)] else[]:=by
 unfold lQ;rw[lI,jx,bS]
 congr 1
 by_cases c:gI r i=0<;>simp[c]
def iM.SW{f:Bool}(i:Nat)(e:ρ[i]?=some (.own a f ds))(h:iM G (ρ.set i (.d f (.list ds))) te Ψ):iM G ρ te Ψ:=λnb σ H Q W z=>h _ σ H Q (Sv.share W e) z
noncomputable def qT(a:aF)(o:Obj)(ps:List (Key×V)):It:=
 ⟨λi H=>H a=some (.cV o (.dK ps))/\i<ps.length,λi H x H'=>H'=H/\∃p,ps[i]?=some p/\x=kV p.1,λi H=>H a=some (.cV o (.dK ps))/\ps.length=i⟩
def YH{P:bc}{k:Key}{v:ag}(h:(eX P w).is k v=true):RelV (kV k) v:=by
 cases k with
 |inl i=>obtain⟨t,rfl⟩:=wm (k:=i) (v:=v) h;exact⟨t,rfl⟩
 |inr x=>obtain⟨t,rfl⟩:=lR (v:=v) h;exact⟨t,rfl⟩
def UU{P:bc}{K:PySem.W.Frag}(a it:aF)(J:a≠it){o:Obj}{ps:List (Key×V)}{vs:List (Key×ag)}{ep:Nat}(rel:KV ps vs)
  (N:∀h:eo,h.get? a=some o->h.DictAt (eX P w) a vs ep):Turn P w K tg (qT a o ps) [it] it (λi h=>h.IsKeyIter it a i vs.length ep) where
 mem:=by simp
 obj:=λi h st b hb=>by
  have e:b=it:=by simpa using hb
  subst e;obtain⟨o,e,c,d⟩:=st;exact⟨o,e,λv z=>by rw[d] at z;cases z⟩
 keep:=λi h h' st k=>st.at λo e=>k it (by simp) o e
 item:=by
  intro X hP hw hK hc i pins s σ H E I hf st hg;subst hP hw hK;obtain⟨hq,hi⟩:=hg;obtain⟨ho,_⟩:=(show cK X.prog X.w H s.heap a (.cV o (.dK ps)) from I.hok a _ hq);have W:=sh (knd:=eX X.prog X.w) (A:=X.A) (I.ok.hd hc) it a J vs ep;obtain⟨M,f1,f2,f3,f4,f5⟩:=hf it (by simp);refine W.item i s _ _ (by rw[<-rel.length];exact hi) ⟨st,N _ ho⟩ λv h' tk hv g kp=>?_;obtain⟨k,x,hk,f⟩:=hv;have I1:Inv X pins σ H {s with heap:=h',toks:=tk}:=I.turned (t':=tk) (λb o hb e=>kp b o (by simpa using hb) e) M f1 f3 f4 f5;obtain⟨C,e,c,d⟩:=id g.1;have j:∃p,ps[i]?=some p/\kV k=kV p.1:=by
   have h1:(ps.map (·.1))[i]?=(vs.map (·.1))[i]?:=by rw[rel.keys]
   rw[bw,bw,hk,aC hi] at h1;exact⟨_,aC hi,congrArg kV (fP h1).symm⟩
  exact⟨v,rfl,JK (s:={s with heap:=h',toks:=tk}) e c d ⋯ ⟨kV k,H,I1,YH f,⟨rfl,j⟩,g.1,λb hb=>(hf b hb).1⟩⟩
 done:=by
  intro X hP hw hK hc i pins s σ H E I hf st hg;subst hP hw hK;obtain⟨hq,hi⟩:=hg;obtain⟨ho,_⟩:=(show cK X.prog X.w H s.heap a (.cV o (.dK ps)) from I.hok a _ hq);have W:=sh (knd:=eX X.prog X.w) (A:=X.A) (I.ok.hd hc) it a J vs ep;obtain⟨M,f1,f2,f3,f4,f5⟩:=hf it (by simp);have hl:=rel.length;refine W.done s _ _ ⟨by rw[<-hl,hi];rw[<-hl,hi] at st;exact st,N _ ho⟩ λh' tk kp=>⟨rfl,?_⟩;exact I.turned (t':=tk) (λb o hb e=>kp b o (by simpa using hb) e) M f1 f3 f4 f5
 self:=λ_ _ _ _ _ st h=>wpAny_pyIter_keyiter st h
def yI(X:Cx)(a:aF):Prop:=∀o u,X.H₀ a≠some (.cV o u)
section
variable{X:Cx}{pins:List (aF×Obj)}{σ:List (Option V)}{H:Hp}{s:aw}
def Inv.freeze(I:Inv X pins σ H s)(h:H a=some (.dK ps))(ho:s.heap.get? a=some o):Inv X pins σ (upd H a (.cV o (.dK ps))) s:=by
 have ne:∀b u,H b=some u->(∀z,u≠ .dK z)->b≠a:=λb u q z e=>by subst e;rw[h] at q;cases q;exact z _ rfl
 have nn:∀b,H b=none->b≠a:=λb q e=>by subst e;rw[h] at q;cases q
 refine I.step (h':=s.heap) (g':=s.gens) (d':=s.drawn) (t':=s.toks) (ch:=[]) (λ_ z=>nomatch z) (λb o _ _ _ e _=>e) (λb o _ _ _ e _=>⟨o.slots,e⟩) (λb o _ e n=>by rw[aH (nn b n)];exact n) (λb o _ e=>⟨o,e⟩)
  (λb xs q=>by rw[aH (ne b _ q (λz=>nofun))];exact q) (λb o u q=>by rw[aH (ne b _ q (λz=>nofun))];exact q) (λb p q=>⟨#[],by rw[aH (ne b _ q (λz=>nofun)),q];simp⟩) (λm hm=>hm) (λb u q=>?_) I.bare
 by_cases hb:b=a
 .subst hb;rw[bx] at q;cases q
  refine⟨ho,(I.hok b _ h).stay (λc v hc z=>z) (λc z=>?_) λc xs z=>?_⟩;·rw[aH (ne c _ z (λz=>nofun))];exact z
  .rw[aH (ne c _ z (λz=>nofun))];exact z
 .rw[aH hb] at q;refine(I.hok b u q).stay (λc v hc z=>z) (λc z=>?_) λc xs z=>?_;·rw[aH (ne c _ z (λz=>nofun))];exact z
  .rw[aH (ne c _ z (λz=>nofun))];exact z
def Inv.pJ(I:Inv X pins σ H s)(h:H a=some (.cV o (.dK ps)))(t:yI X a):Inv X pins σ (upd H a (.dK ps)) s:=by
 have ne:∀b u,H b=some u->(∀z z',u≠ .cV z z')->b≠a:=λb u q z e=>by subst e;rw[h] at q;cases q;exact z _ _ rfl
 have nn:∀b,H b=none->b≠a:=λb q e=>by subst e;rw[h] at q;cases q
 refine⟨I.ok,I.os,I.bare,⟨I.base.keep,I.base.slot,λb o q n hx=>?_,I.base.there,λb xs q=>?_,λb o u q=>?_,λb p q=>?_⟩,I.loc,I.cell,?_,λx c e=>?_,λp hp=>?_,λb u q=>?_,I.len⟩
 .have z:=I.base.free b o q n hx;rw[aH (nn b z)];exact z
 .have z:=I.base.tups b xs q;rw[aH (ne b _ z (λ_ z=>nofun))];exact z
 .have z:=I.base.lY b o u q;have:b≠a:=λe=>by subst e;exact t _ _ q
  rw[aH this];exact z
 .obtain⟨m,z⟩:=I.base.n9 b p q;exact⟨m,by rw[aH (ne b _ z (λ_ z=>nofun))];exact z⟩
 .rw[aH (nn _ I.free)];exact I.free
 .rw[aH (nn _ (I.kJ x c e))];exact I.kJ x c e
 .obtain⟨B,z2,z3⟩:=I.pin p hp;exact⟨B,by rw[aH (nn _ z2)];exact z2,z3⟩
 .by_cases hb:b=a
  .subst hb;rw[bx] at q;cases q
   have w:=(show cK X.prog X.w H s.heap b (.dK ps) from(Rd.ok (.inr ⟨o,h⟩) I.hok));refine w.stay (λc v hc z=>z) (λc z=>?_) λc xs z=>?_;·rw[aH (ne c _ z (λ_ z=>nofun))];exact z
   .rw[aH (ne c _ z (λ_ z=>nofun))];exact z
  .rw[aH hb] at q;refine(I.hok b u q).stay (λc v hc z=>z) (λc z=>?_) λc xs z=>?_;·rw[aH (ne c _ z (λ_ z=>nofun))];exact z
   .rw[aH (ne c _ z (λ_ z=>nofun))];exact z
end
def nD(k:aF->Prop)(Q:Hp->Prop)(H:Hp):Prop:=Q H\/∃a o ps,H a=some (.cV o (.dK ps))/\k a/\Q (upd H a (.dK ps))
noncomputable def F4(k:aF->Prop)(D:Ends):Ends:={nx:=λσ=>nD k (D.nx σ),rt:=λv=>nD k (D.rt v),bk:=λσ=>nD k (D.bk σ),ct:=λσ=>nD k (D.ct σ)}
def Of(k:aF->Prop)(b:TS):TS:=λD σ H=>b (F4 k D) σ H
section
variable{X:Cx}
def nD.inv{Q:Hp->Prop}(I:Inv X pins σ H s)(h:nD (yI X) Q H):∃H',Inv X pins σ H' s/\Q H':=by
 rcases h with h|⟨a,o,ps,e,nf,q⟩
 .exact⟨H,I,h⟩
 .exact⟨_,I.pJ e nf,q⟩
def TX{st:eQ}{b:TS}(h:PS X st b):PS X st (Of (yI X) b):=by
 intro pins s σ H D I q;refine aT (h pins s σ H _ I q) λf s7 S=>?_;cases f with
 |next=>obtain⟨c,U,R,j⟩:=S;obtain⟨V,I8,a⟩:=nD.inv R j;exact⟨c,V,I8,a⟩
 |cont=>obtain⟨c,U,R,j⟩:=S;obtain⟨V,I8,a⟩:=nD.inv R j;exact⟨c,V,I8,a⟩
 |brk=>obtain⟨c,U,R,j⟩:=S;obtain⟨V,I8,a⟩:=nD.inv R j;exact⟨c,V,I8,a⟩
 |ret v=>obtain⟨B,c,U,R,k,j⟩:=S;obtain⟨V,I8,a⟩:=nD.inv R j;exact⟨B,c,V,I8,k,a⟩
def Rb(k:aF->Prop)(tl:TE):TI:=λσ H R=>tl σ H λx H1=>∃a ps,x= .ref a/\((H1 a=some (.dK ps)/\∀o,k a->R (qT a o ps) (upd H1 a (.cV o (.dK ps))))\/∃o,H1 a=some (.cV o (.dK ps))/\R (qT a o ps) H1)
def Oy{l:eB}(hl:PE X l tl):PI X tg l (Rb (yI X) tl):=by
 intro pins s σ H R I h;refine aT (hl pins s σ H _ I h) λv s1 ⟨x,H1,I1,M,O⟩=>?_;obtain⟨a,ps,e,q⟩:=O;subst e;cases M;have key:∃o H2,s1.heap.get? a=some o/\H2 a=some (.cV o (.dK ps))/\Inv X pins σ H2 s1/\R (qT a o ps) H2:=by
  rcases q with ⟨h1,q⟩|⟨o,h1,q⟩
  .obtain⟨z,hd,vs,rel,o,es,ep,ho,r⟩:=uv I1.hok h1;refine⟨o,_,ho,bx,I1.freeze h1 ho,q o λo' D z=>?_⟩;rw[I1.base.lY _ _ _ z] at h1;cases h1
  .obtain⟨ho,_⟩:=(show cK X.prog X.w H1 s1.heap a (.cV o (.dK ps)) from I1.hok a _ h1);exact⟨o,H1,ho,h1,I1,q⟩
 obtain⟨o,H2,ho,h2,I2,q⟩:=key;obtain⟨z,hd,vs,rel,dd⟩:=rH I2.hok (.inr ⟨o,h2⟩);obtain⟨ep,S⟩:=dd.dictAt;refine wpAny_pyIter_dict hd S ?_;refine⟨s1.heap.objs.size,[s1.heap.objs.size],_,_,H2,rfl,I2.kept (t':=s1.toks) λb o e=>cF _ e,UU a _ (dz (bN ho)) rel (λh Y=>S.at' λo' e=>by rw[ho] at e;cases e;exact Y),⟨_,gk _ rfl,rfl,rfl⟩,λb hb=>?_,q⟩;have e:b=s1.heap.objs.size:=by simpa using hb
 subst e;exact I2.qU (aW _) (I2.hok.fresh (aW _))
end
structure Mv(H H':Hp):Prop where
 lst:∀b xs,H b=some (.lst xs)->H' b=some (.lst xs)
 tup:∀b xs,H b=some (.tup xs)->H' b=some (.tup xs)
 bK:∀b ps,Rd H b (.dK ps)->Rd H' b (.dK ps)
mutual
theorem ai.mv{S:aF->Prop}{H H':Hp}(m:Mv H H'):∀{d:PyData} {v:V},ai S H d v->ai S H' d v
 | .none,_,h=>by unfold ai at h⊢;exact h
 | .bool _,_,h=>by unfold ai at h⊢;exact h
 | .int _,_,h=>by unfold ai at h⊢;exact h
 | .str _,_,h=>by unfold ai at h⊢;exact h
 | .list ds,_,h=>by unfold ai at h⊢;obtain⟨a,xs,e,n,s,r⟩:=h;exact⟨a,xs,e,n,m.lst _ _ s,af.mv m r⟩
 | .tuple ds,_,h=>by unfold ai at h⊢;obtain⟨a,xs,e,n,s,r⟩:=h;exact⟨a,xs,e,n,m.tup _ _ s,af.mv m r⟩
 | .dict kvs,_,h=>by unfold ai at h⊢;obtain⟨a,xs,e,n,s,r⟩:=h;exact⟨a,xs,e,n,m.bK _ _ s,ay.mv m r⟩
theorem af.mv{S:aF->Prop}{H H':Hp}(m:Mv H H'):∀{ds:List PyData} {vs:List V},af S H ds vs->af S H' ds vs
 |[],_,h=>by unfold af at h⊢;exact h
 |d::ds,_,h=>by unfold af at h⊢;obtain⟨y,ys,e,h1,h2⟩:=h;exact⟨y,ys,e,ai.mv m h1,af.mv m h2⟩
theorem ay.mv{S:aF->Prop}{H H':Hp}(m:Mv H H'):∀{ds:List (PyData×PyData)} {vs:List (Key×V)},ay S H ds vs->ay S H' ds vs
 |[],_,h=>by unfold ay at h⊢;exact h
 |d::ds,_,h=>by unfold ay at h⊢;obtain⟨y,ys,e,h1,h2⟩:=h;exact⟨y,ys,e,cJ.mv m h1,ay.mv m h2⟩
theorem cJ.mv{S:aF->Prop}{H H':Hp}(m:Mv H H'):∀{d:PyData×PyData} {v:Key×V},cJ S H d v->cJ S H' d v
 |(k,d),_,h=>by unfold cJ at h⊢;exact⟨h.1,ai.mv m h.2⟩
end
theorem Mv.cV{H:Hp}{a:aF}{o:Obj}{ps:List (Key×V)}(h:H a=some (.dK ps)):Mv H (upd H a (.cV o (.dK ps))) where
 lst:=λb xs q=>by rw[aH (λe=>by subst e;rw[h] at q;cases q)];exact q
 tup:=λb xs q=>by rw[aH (λe=>by subst e;rw[h] at q;cases q)];exact q
 bK:=λb j q=>by
  by_cases e:b=a
  .subst e;rcases q with q|⟨u,q⟩
   .rw[h] at q;cases q;exact .inr ⟨o,bx⟩
   .rw[h] at q;cases q
  .rcases q with q|⟨u,q⟩
   .exact .inl (by rw[aH e];exact q)
   .exact .inr ⟨u,by rw[aH e];exact q⟩
def Mv.pJ(h:H a=some (.cV o (.dK ps))):Mv H (upd H a (.dK ps)) where
 lst:=λb xs q=>by rw[aH (λe=>by subst e;rw[h] at q;cases q)];exact q
 tup:=λb xs q=>by rw[aH (λe=>by subst e;rw[h] at q;cases q)];exact q
 bK:=λb j q=>by
  by_cases e:b=a
  .subst e;rcases q with q|⟨u,q⟩
   .rw[h] at q;cases q
   .rw[h] at q;cases q;exact .inl bx
  .rcases q with q|⟨u,q⟩
   .exact .inl (by rw[aH e];exact q)
   .exact .inr ⟨u,by rw[aH e];exact q⟩
noncomputable def lM(a:aF)(u:HO)(H:Hp):Hp:=λb=>if b=a/\H a≠none then some u else H b
def t8{u:HO}:lM a u H b=none↔H b=none:=by
 unfold lM;by_cases c:b=a/\H a≠none
 .rw[if_pos c];constructor;·intro z;cases z
  .intro z;rw[c.1] at z;exact absurd z c.2
 .rw[if_neg c]
def yZ{u:HO}(h:b≠a):lM a u H b=H b:=by
 unfold lM;rw[if_neg (λz=>h z.1)]
noncomputable abbrev Gx.fz(G:Gx)(a:aF)(o:Obj)(ps:List (Key×V)):Gx:={G with H0:=lM a (.cV o (.dK ps)) G.H0,hold:=(false, .fz o ps, .ref a)::G.hold}
section
variable{G:Gx}{ρ c8:Rh}{Φ Ψ:Pd}{ta tb te:TE}{t:TA}{i:Nat}{f g:Bool}{d e:PyData}{ds es:List PyData}{K:PySem.W.Frag}{nb:aF->Prop}{σ:qr}{H:Hp}{a:aF}{o:Obj}{ps:List (Key×V)}
def Gx.Cs:(G.fz a o ps).S nb f b↔G.S nb f b:=by
 unfold Gx.S;constructor
 .rintro(z|z|z|⟨z,q⟩);·exact .inl z
  .exact .inr (.inl z)
  .exact .inr (.inr (.inl z))
  .exact .inr (.inr (.inr ⟨z,λw=>q (t8.mpr w)⟩))
 .rintro(z|z|z|⟨z,q⟩);·exact .inl z
  .exact .inr (.inl z)
  .exact .inr (.inr (.inl z))
  .exact .inr (.inr (.inr ⟨z,λw=>q (t8.mp w)⟩))
def fh.mv{H:Hp}{l:aF}(h:fh H b l)(k:∀c xs,H c=some (.lst xs)->H' c=some (.lst xs)):fh H' b l:=by
 obtain⟨ns,W,B,u,N,h1,h2,h3⟩:=h;exact⟨ns,W,B,u,N,k _ _ h1,k _ _ h2,h3⟩
def Wd.freeze(W:Wd G nb ρ σ H)(h:H a=some (.dK ps))(N:¬G.S nb false a)(hT:∀f c v,(f,HD.th c,v)∈G.hold->a∉c.F):Wd (G.fz a o ps) nb ρ σ (upd H a (.cV o (.dK ps))):=by
  have mv:=Mv.cV (o:=o) h;have hN:NB G.B a:=jl λz=>N (.inr (.inr (.inl z)));have t:¬nb a:=λz=>N (.inl z);have y:∀u,G.H0 a=some u->u= .dK ps:=λu e=>by have:=W.old a u hN e;rw[h] at this;exact(fP this).symm
  have g:∀f b,(G.fz a o ps).S nb f b->G.S nb f b:=λf b z=>Gx.Cs.mp z;refine⟨λb l e=>(W.aG b l e).mv mv.lst,λb n=>?_,λb u n e=>?_,λb n q=>t8.mpr (W.ez b n q),λb n e=>W.gA b n (t8.mp e),W.len,λb l e=>(W.gB b l e).mv λc xs q=>?_,λx m=>?_,λi s e=>?_,W.apart,W.gz,W.eZ⟩
  · by_cases hb:b=a
    · subst hb;exact absurd n t
    · rw[aH hb];exact W.live b n
  · by_cases hb:b=a
    · subst hb
      rw[bx];change lM b _ G.H0 b=some u at e;unfold lM at e;by_cases c:b=b/\G.H0 b≠none;· rw[if_pos c] at e;exact e
      · rw[if_neg c] at e;exact absurd ⟨rfl,by rw[e];exact jP _⟩ c
    · rw[aH hb]
      change lM a _ G.H0 b=some u at e;rw[yZ hb] at e;exact W.old b u n e
  · have hc:c≠a:=λz=>by subst z;have:=y _ q;cases this
    show lM a _ G.H0 c=_;rw[yZ hc];exact q
  · rcases aY.mp m with e|m
    · subst e
      exact⟨a,rfl,λz=>N (g _ _ z),bx⟩
    · have w:=W.eU x m
      obtain⟨f,x,v⟩:=x;cases x with
      |d x=>exact(ai.mv mv w).av (g f)
      | fz u j =>
        obtain⟨c,e1,e2,e3⟩:=w;by_cases hc:c=a
        · subst hc
          rw[h] at e3;cases e3
        · exact⟨c,e1,λz=>e2 (g _ _ z),by rw[aH hc];exact e3⟩
      | th c =>
        have hc:=hT f c v m;obtain⟨e,n,q⟩:=w;exact⟨e,λb hb=>⟨λz=>(n b hb).1 (g _ _ z),by rw[aH (λz=>by subst z;exact hc hb)];exact(n b hb).2⟩,c.av (g f) (c.keep ⟨λb hb o e=>by rw[aH (λz=>by subst z;exact hc hb)];exact e,λb xs _=>mv.lst b xs,λb xs _=>mv.tup b xs,λb j _=>mv.bK b j⟩ q)⟩
  · obtain⟨x,e1,w⟩:=W.ok i s e
    refine⟨x,e1,?_⟩;cases s with
    |no=>trivial
    |d f d=>obtain⟨v,e,w⟩:=w;exact⟨v,e,(ai.mv mv w).av (g f)⟩
    |own c f es=>obtain⟨e,n,q,xs,hx,hd⟩:=w;exact⟨e,n,q,xs,mv.lst _ _ hx,(af.mv mv hd).av (g f)⟩
    |aG=>exact w
    |raw v=>exact w
    | bK c f es =>
      obtain⟨e,n,q,xs,hx,hd⟩:=w;exact⟨e,n,q,xs,by rw[aH (λz=>by subst z;exact t n)];exact hx,(ay.mv mv hd).av (g f)⟩
    | cu c =>
      obtain⟨e,n,q⟩:=w;exact⟨e,n,c.av (g c.f) (c.keep ⟨λb hb o e=>by rw[aH (λz=>by subst z;exact t (n _ hb).1)];exact e,λb xs _=>mv.lst b xs,λb xs _=>mv.tup b xs,λb j _=>mv.bK b j⟩ q)⟩
theorem Wd.pJ(W:Wd (G.fz a o ps) nb ρ σ H)(y:∀u,G.H0 a=some u->u= .dK ps)(X:∀f o' j v,(f,HD.fz o' j,v)∈G.hold->v≠ .ref a)(hT:∀f c v,(f,HD.th c,v)∈G.hold->a∉c.F):Wd G nb ρ σ (upd H a (.dK ps))/\H a=some (.cV o (.dK ps)):=by
  obtain⟨r,L,hS',h⟩:=(show gG ((G.fz a o ps).S nb false) H (.fz o ps) (.ref a) from W.eU _ (cN ..));cases L;have mv:=Mv.pJ h;have g:∀f b,G.S nb f b->(G.fz a o ps).S nb f b:=λf b z=>Gx.Cs.mpr z;have N:¬G.S nb false a:=λz=>hS' (g _ _ z);have hN:NB G.B a:=jl λz=>N (.inr (.inr (.inl z)));have t:¬nb a:=λz=>N (.inl z);refine⟨⟨λb l e=>(W.aG b l e).mv mv.lst,λb n=>?_,λb u n e=>?_,λb n q=>t8.mp (W.ez b n q),λb n e=>W.gA b n (t8.mpr e),W.len,λb l e=>(W.gB b l e).mv λc xs q=>?_,λx m=>?_,λi s e=>?_,W.apart,W.gz,W.eZ⟩,h⟩
  · by_cases hb:b=a
    · subst hb;exact absurd n t
    · rw[aH hb];exact W.live b n
  · by_cases hb:b=a
    · subst hb
      rw[bx,y u e]
    · rw[aH hb]
      exact W.old b u n (by show lM a _ G.H0 b=_;rw[yZ hb];exact e)
  · change lM a _ G.H0 c=_ at q
    by_cases hc:c=a
    · subst hc
      unfold lM at q;by_cases z:c=c/\G.H0 c≠none;· rw[if_pos z] at q;cases q
      · rw[if_neg z] at q;exact q
    · rw[yZ hc] at q;exact q
  · have w:=W.eU x (cM _ m)
    obtain⟨f,x,v⟩:=x;cases x with
    |d x=>exact(ai.mv mv w).av (g f)
    | fz u j =>
      obtain⟨c,e1,e2,e3⟩:=w;subst e1;have hc:c≠a:=λz=>X f u j _ m (by rw[z]);exact⟨c,rfl,λz=>e2 (g _ _ z),by rw[aH hc];exact e3⟩
    | th c =>
      have hc:=hT f c v m;obtain⟨e,n,q⟩:=w;exact⟨e,λb hb=>⟨λz=>(n b hb).1 (g _ _ z),by rw[aH (λz=>by subst z;exact hc hb)];exact(n b hb).2⟩,c.av (g f) (c.keep ⟨λb hb o e=>by rw[aH (λz=>by subst z;exact hc hb)];exact e,λb xs _=>mv.lst b xs,λb xs _=>mv.tup b xs,λb j _=>mv.bK b j⟩ q)⟩
  · obtain⟨x,e1,w⟩:=W.ok i s e
    refine⟨x,e1,?_⟩;cases s with
    |no=>trivial
    |d f d=>obtain⟨v,e,w⟩:=w;exact⟨v,e,(ai.mv mv w).av (g f)⟩
    |own c f es=>obtain⟨e,n,q,xs,hx,hd⟩:=w;exact⟨e,n,q,xs,mv.lst _ _ hx,(af.mv mv hd).av (g f)⟩
    |aG=>exact w
    |raw v=>exact w
    | bK c f es =>
      obtain⟨e,n,q,xs,hx,hd⟩:=w;exact⟨e,n,q,xs,by rw[aH (λz=>by subst z;exact t n)];exact hx,(ay.mv mv hd).av (g f)⟩
    | cu c =>
      obtain⟨e,n,q⟩:=w;exact⟨e,n,c.av (g c.f) (c.keep ⟨λb hb o e=>by rw[aH (λz=>by subst z;exact t (n _ hb).1)];exact e,λb xs _=>mv.lst b xs,λb xs _=>mv.tup b xs,λb j _=>mv.bK b j⟩ q)⟩
noncomputable abbrev Gx.hz(G:Gx)(a:aF)(o:Obj)(ps:List (Key×V)):Gx:={G with hold:=(false, .fz o ps, .ref a)::G.hold}
theorem Wd.hz(W:Wd G nb ρ σ H)(N:¬G.S nb false a)(h:H a=some (.cV o (.dK ps))):Wd (G.hz a o ps) nb ρ σ H:=
 ⟨W.aG,W.live,W.old,W.ez,W.gA,W.len,W.gB,λx m=>by
  rcases aY.mp m with e|m
  .subst e;exact⟨a,rfl,N,h⟩
  .exact W.eU x m,λi s e=>by
   obtain⟨x,e1,h⟩:=W.ok i s e;refine⟨x,e1,?_⟩;cases s<;>exact h,W.apart,W.gz,W.eZ⟩
def Wd.Dn(W:Wd (G.hz a o ps) nb ρ σ H):Wd G nb ρ σ H/\H a=some (.cV o (.dK ps)):=by
 refine⟨⟨W.aG,W.live,W.old,W.ez,W.gA,W.len,W.gB,λx m=>W.eU x (cM _ m),λi s e=>by
   obtain⟨x,e1,h⟩:=W.ok i s e;refine⟨x,e1,?_⟩;cases s<;>exact h,W.apart,W.gz,W.eZ⟩,?_⟩
 obtain⟨r,L,_,h⟩:=(show gG ((G.hz a o ps).S nb false) H (.fz o ps) (.ref a) from W.eU _ (cN ..));cases L;exact h
theorem QA{l:Gx}{ks:Ks}{E:DE}{s:TS}(W3:Wd (l.hd f dd (.ref a)) nb ρ σ H)(hl:ps.map (·.1)=(ks.map (·.1)).map dn)
  (hz:∀{nb ρ σ H},Wd l nb ρ σ H->H a=some (.cV o (.dK ps))) (KK:CB l {E with bk:=λ_=>False,ct:=λ_=>False} D)
  (q:Sv.sG (l.hd f dd (.ref a)) ρ ks.length (λi d=>∃p,ks[i]?=some p/\d= .int p.1) true gt s E):
  ∃W:Nat->Nat->qr->Hp->Prop,(∃m,W 0 m σ H)/\∀i m σ H,W i m σ H->
   ((qT a o ps).stop i H/\D.nx σ H)\/((qT a o ps).go i H/\∃N:qr->Hp->Prop,(∀M H',N M H'->∃O,O<m/\W (i+1) O M H')/\∀x H',(qT a o ps).nN i H x H'->gt x σ H' λc H2=>s {D with nx:=N,ct:=N,bk:=D.nx} c H2):=by
 obtain⟨I,h0,ht,he⟩:=q;have hlen:ps.length=ks.length:=by have:=congrArg l3 hl;simpa using this
 refine⟨λi m σ H=>m=ks.length-i/\i<=ks.length/\∃nb J,I i J/\Wd (l.hd f dd (.ref a)) nb J σ H,⟨ks.length,by simp,gE _,nb,ρ,h0,W3⟩,?_⟩;rintro i m σ H ⟨rfl,hi,nb,J,hI,W⟩;have M7:=hz W.jb.1;by_cases hlt:i<ks.length
 .refine .inr ⟨⟨M7,∅⟩,λσ H=>∃nb J,I (i+1) J/\Wd (l.hd f dd (.ref a)) nb J σ H,λM H' q=>⟨ks.length-(i+1),∅,rfl,hlt,q⟩,λx H' y=>?_⟩;obtain⟨e1,p,b,e2⟩:=y;subst e1 e2;have hk:p.1=dn ks[i].1:=by
   have h1:(ps.map (·.1))[i]?=((ks.map (·.1)).map dn)[i]?:=by rw[hl]
   rw[bw,bw,bw,b,aC hlt] at h1;exact fP h1
  rw[hk];refine ht i _ J ⟨_,aC hlt,rfl⟩ hI nb σ _ _ _ W (.int _) λc g q W2=>q nb c _ _ W2 ?_;exact⟨λnb ρ σ H q W=>⟨nb,ρ,q,W⟩,λnb ρ σ H q W=>KK.nx nb ρ σ H q W.jb.1,λnb ρ σ H q W=>⟨nb,ρ,q,W⟩,λnb ρ σ f v H d q W hv=>KK.rt nb ρ σ f v H d q W.jb.1 hv,λnb ρ σ v H q W=>KK.rw nb ρ σ v H q W.jb.1⟩
 .have e:i=ks.length:=∅
  subst e;exact .inl ⟨⟨M7,hlen⟩,KK.nx nb J σ H (he J hI) W.jb.1⟩
def Sv.YC{k:aF->Prop}{E:DE}{s:TS}(h:Ev G ρ te λf x=>∃ks:Ks,x= .dict (ks.map cP)/\∀l v,sG (Gx.hd l f x v) ρ ks.length (λi d=>∃p,ks[i]?=some p/\d= .int p.1) true gt s {E with rw:=λ_ _ _ _=>False})(g:∀f c v,(f,HD.th c,v)∉G.hold:=by intro _ _ _ z;first|exact nomatch z|(simp at z;done)):
  Sv G ρ (Of k (qj (Rb k te) gt s)) E:=λnb σ H D W KK=>
 h nb σ H _ W λf v H1 x ⟨ks,ex,q⟩ s1 hv=>by
  subst ex;have W1:=W.step s1;have hv0:=hv;unfold ai at hv;obtain⟨a,ps,rfl,n,hp,hd⟩:=hv;have hkeys:=ay.keys hd;have N:¬G.S nb false a:=λz=>n (c7 (λw=>by cases w) (λ_ w=>w) a z);have hN:NB G.B a:=jl λz=>N (.inr (.inr (.inl z)));refine⟨a,ps,rfl,?_⟩;rcases hp with hp|⟨o,hp⟩
  .refine .inl ⟨hp,λo t=>?_⟩;have y:∀u,G.H0 a=some u->u= .dK ps:=λu e=>by have:=W1.old a u hN e;rw[hp] at this;exact(fP this).symm
   have X:∀f o' j v,(f,HD.fz o' j,v)∈G.hold->v≠ .ref a:=λf o' j v m e=>by
    obtain⟨c,e1,_,e3⟩:=(show gG (G.S nb f) H1 (.fz o' j) v from W1.eU _ m);rw[e1] at e;cases e
    rw[hp] at e3;cases e3
   have W2:=W1.freeze (o:=o) hp N λf c v m=>absurd m (g f c v);have mv:=Mv.cV (o:=o) hp;have W3:=W2.hd (f:=f) (d:= .dict (ks.map cP)) (v:= .ref a) ((ai.mv mv hv0).av λb z=>Gx.Cs.mp z);refine QA (E:={E with rw:=λ_ _ _ _=>False}) W3 hkeys (λW=>(W.pJ y X λf c v m=>absurd m (g f c v)).2) ⟨λnb ρ σ H q W=>?_,λ_ _ _ _ q _=>q.elim,λ_ _ _ _ q _=>q.elim,λnb ρ σ f v H d q W hv=>?_,λ_ _ _ _ _ q _=>q.elim⟩ (q _ _)
   .obtain⟨W',hz⟩:=W.pJ y X λf c v m=>absurd m (g f c v);exact .inr ⟨a,o,ps,hz,t,KK.nx nb ρ σ _ q W'⟩
   .obtain⟨W',hz⟩:=W.pJ y X λf c v m=>absurd m (g f c v);exact .inr ⟨a,o,ps,hz,t,KK.rt nb ρ σ f v _ d q W' ((ai.mv (Mv.pJ hz) hv).av λb z=>Gx.Cs.mpr z)⟩
  .refine .inr ⟨o,hp,?_⟩;have W2:=W1.hz N hp;have W3:=W2.hd (f:=f) (d:= .dict (ks.map cP)) (v:= .ref a) hv0;refine QA (E:={E with rw:=λ_ _ _ _=>False}) W3 hkeys (λW=>W.Dn.2) ⟨λnb ρ σ H q W=> .inl (KK.nx nb ρ σ H q W.Dn.1),λ_ _ _ _ q _=>q.elim,λ_ _ _ _ q _=>q.elim,λnb ρ σ f v H d q W hv=> .inl (KK.rt nb ρ σ f v H d q W.Dn.1 hv),λ_ _ _ _ _ q _=>q.elim⟩ (q _ _)
end
noncomputable def mJ(wd:Wo)(pl:Nat):List Nat:=(jZ wd).filter λi=>decide (i≠pl)
def xq:i∈mJ wd pl↔wd[i]?=some none/\i≠pl:=by
 unfold mJ;rw[fG,FF,decide_eq_true_eq]
structure sD(p n:Int)(cs:List aj)(wd:Wo)(pl:Nat)(v:Int)(bz:List Int):Prop where
 len:bz.length=cs.length
 rg:∀x∈bz,0<=x/\x<p
 v0:0<=v
 v1:v<p
 S4:∀rw:List Int,rw.length=n.toNat->(∀i<n.toNat,p∣gI rw i-iI cs bz i)->(∀i,wd[i]?=some none->p∣gI rw i-if i=pl then 1 else 0)/\p∣v+aE (dD wd) rw
theorem Yo{n:Int}{R:List (List Int)}{k:Nat}(hN:iB p n cs)(hwl:wd.length=n.toNat)(N:jc p (n.toNat+cs.length) (iz n.toNat cs.length cs) R T (mJ wd pl++[pl]))(hT:(k,pl)∈T):
  sD p n cs wd pl (-(aE (dD wd) (R.getD k []))%p) ((R.getD k []).drop n.toNat):=by
 have p2:=hN.hp.1;have hk:=(N.rg _ hT).1;have hone:=N.one _ hT k hk;have Nl:=N.ah (mJ wd pl) [] (k,pl) hT rfl (λz=>(xq.mp z).2 rfl);rw[if_pos rfl] at hone;dsimp only at hone Nl hk;rw[mP hk] at hone⊢;have hr:=N.ok _ (cU hk);have hl:=hr.len;have hd:cZ p cs.length (R[k].drop n.toNat):=⟨by rw[sW];omega,λx hx=>hr.rg x (EX hx)⟩;refine⟨hd.len,hd.rg,iw _ ∅,g7 _ ∅,λe hrl b=>?_⟩;have d:∀i<n.toNat,p∣gI e i-1*gI R[k] i:=λi hi=>by
  obtain⟨a,ha⟩:=b i hi;obtain⟨c,hc⟩:=Ol hN N (cU hk) hi;exact⟨a-c,by rw[kG,<-ha,<-hc];omega⟩
 refine⟨λi hi=>?_,?_⟩
 .have hil:i<n.toNat:=by have:=(aO.mp hi).1;omega
  have h1:=d i hil;by_cases c:i=pl
  .subst c;rw[hone] at h1;rw[if_pos rfl];exact h1
  .have z:=Nl i (xq.mpr ⟨hi,c⟩);rw[mP hk] at z;rw[z,iu] at h1;rw[if_neg c];exact h1
 .have h1:=Ma (p:=p) (u:=1) (dD wd) e (R[k].take n.toNat) (by rw[iG];omega) λi hi=>by
   have e4:gI (R[k].take n.toNat) i=gI R[k] i:=by
    unfold gI;rw[br,yL ∅,br]
   rw[e4];exact d i ∅
  rw[Fg (dD wd) R[k] n.toNat λi hi=>by unfold dD;rw[jT ∅]] at h1;obtain⟨a,ha⟩:=h1;rw[qX];refine⟨a-(-aE (dD wd) R[k]/p),?_⟩;rw[kG,<-ha];omega
noncomputable def jm(wd:Wo)(pl:Nat):Wo:=(aL wd.length).map λi=>if i=pl then some 1 else if wd[i]?=some none then none else some 0
def ly(hi:i<wd.length):(jm wd pl)[i]?=some (if i=pl then some 1 else if wd[i]?=some none then none else some 0):=by
 unfold jm;rw[bw,NS hi]
 rfl
def tO:(jm wd pl).length=wd.length:=by unfold jm;rw[ao,kD]
theorem Lo(hp:pl<wd.length)(i:Nat):dD (jm wd pl) i=if i=pl then 1 else 0:=by
 unfold dD;by_cases hi:i<wd.length
 .rw[ly hi];by_cases c:i=pl;·rw[if_pos c,if_pos c]
  .rw[if_neg c,if_neg c];by_cases c2:wd[i]?=some none;·rw[if_pos c2]
   .rw[if_neg c2]
 .rw[jT (by rw[tO];omega),if_neg ∅]
def Ux:jZ (jm wd pl)=mJ wd pl:=by
 unfold mJ jZ;rw[Fo,tO];apply wN;intro i hi;rw[ly (iQ.mp hi)];by_cases c:i=pl;·simp[c]
 .by_cases c2:wd[i]?=some none;·simp[c,c2]
  .simp[c,c2]
structure OI(p n:Int)(wd:Wo)(pl:Nat)(R:List (List Int))(T:List (Nat×Nat))(u:List Int):Prop where
 len:u.length=n.toNat
 rg:∀x∈u,0<=x/\x<p
 own:gI u pl=1
 Ay:∀q∈T,gI u q.2= -(gI (R.getD q.1 []) pl)%p
 rest:∀j,j≠pl->(∀q∈T,q.2≠j)->gI u j=0
 no:∀q∈T,q.2≠pl
section
variable{p n:Int}{wd:Wo}{pl:Nat}{R R0:List (List Int)}{T:List (Nat×Nat)}{u:List Int}
theorem OI.init(hp:1<p)(hpl:pl<n.toNat):OI p n wd pl R [] ((ar n.toNat 0).set pl 1):=by
 refine⟨by rw[fR,lN],λx hx=>?_,?_,(λq hq=>by cases hq),λj hj _=>?_,(λq hq=>by cases hq)⟩
 .rcases nZ hx with z|z
  .rw[J6] at z;omega
  .omega
 .rw[CW (by rw[lN];exact hpl),if_pos rfl]
 .rw[CW (by rw[lN];exact hpl),if_neg hj,zV]
theorem OI.step{q:Nat×Nat}(h:OI p n wd pl R T u)(hp:0<p)(hq:q.2<n.toNat)(J:q.2≠pl)(c:∀L∈T,L.2≠q.2):OI p n wd pl R (T++[q]) (u.set q.2 (-(gI (R.getD q.1 []) pl)%p)):=by
 have hl:=h.len;have hs:=λj=>CW (r:=u) (i:=q.2) (x:= -(gI (R.getD q.1 []) pl)%p) ∅ j;refine⟨by rw[fR];exact hl,λx hx=>?_,?_,λL g=>?_,λj hj hT=>?_,λL g=>?_⟩
 .rcases nZ hx with z|z
  .exact h.rg x z
  .rw[z];exact⟨iw _ ∅,g7 _ hp⟩
 .rw[hs,if_neg (bH J)];exact h.own
 .rcases dM.mp g with z|z
  .rw[hs,if_neg (c L z)];exact h.Ay L z
  .rw[aZ.mp z,hs,if_pos rfl]
 .rw[hs,if_neg (λz=>hT q (by simp) z.symm)];exact h.rest j hj λL m=>hT L (jB _ m)
 .rcases dM.mp g with z|z
  .exact h.no L z
  .rw[aZ.mp z];exact J
theorem OI.word{cs:List aj}(hN:iB p n cs)(h:OI p n wd pl R T u)(hwl:wd.length=n.toNat)(hpl:wd[pl]?=some none)(N:jc p (n.toNat+cs.length) (iz n.toNat cs.length cs) R T (mJ wd pl++[pl])):fW p n cs (jm wd pl) u:=by
 have p2:=hN.hp.1;have uy:=(aO.mp hpl).1;have a:∀k<R.length,aE (dD (jm wd pl)) (R.getD k [])=gI (R.getD k []) pl:=λk hk=>by
  have hr:cZ p (n.toNat+cs.length) (R.getD k []):=by rw[mP hk];exact N.ok _ (cU hk)
  rw[tT _ _ pl (by rw[hr.len];omega) λi hi J=>by rw[Lo uy,if_neg J,kC],Lo uy,if_pos rfl,uQ]
 refine FI.word hN ⟨h.len,h.rg,λj x e=>?_,λq hq _=>?_,λj e hj=>?_,λk hk o=>?_⟩ (by rw[tO];exact hwl) (by
  rw[Ux];refine⟨N.ok,N.len,N.sp,N.nd,λq hq=>⟨(N.rg q hq).1,?_⟩,N.one,λi hi hn d hd=>N.zero i hi hn d (jB _ hd),λD1 D2 q hq e hn d hd=>N.ah D1 (D2++[pl]) q hq (by rw[e];simp) hn d hd⟩;rcases dM.mp (N.rg q hq).2 with z|z
  .exact z
  .exact absurd (aZ.mp z) (h.no q hq))
 .have hj:=(aO.mp e).1;rw[tO] at hj;rw[ly hj] at e;by_cases c:j=pl
  .rw[if_pos c] at e;cases e;rw[c];exact h.own
  .rw[if_neg c] at e;by_cases c2:wd[j]?=some none;·rw[if_pos c2] at e;cases e
   .rw[if_neg c2] at e;cases e;refine h.rest j c λq hq z=>c2 ?_;rcases dM.mp (N.rg q hq).2 with y|y
    .rw[<-z];exact(xq.mp y).1
    .exact absurd (aZ.mp y) (h.no q hq)
 .rw[a q.1 (N.rg q hq).1];exact h.Ay q hq
 .have hj2:=(aO.mp e).1;rw[tO] at hj2;have:j≠pl:=λz=>by
   subst z;rw[ly hj2,if_pos rfl] at e;cases e
  exact h.rest j this λq hq z=>by
   have:=hj q hq z;have:=(N.rg q hq).1;omega
 .rw[a k hk,N.zero k hk o pl (by simp)];exact⟨0,∅⟩
end
def Sv.lift{s:TS}{E:DE}{f:Bool}(i:Nat)(e:ρ[i]?=some (.own a f ds))(hs:fc ds=true)(h:Sv G (ρ.set i (.own a true ds)) s E):Sv G ρ s E:=λnb σ H D W K=>by
 obtain⟨x,e1,h1,h2,h3,xs,hx,hd⟩:=W.ok i _ e;have W':=Sv.rL (g:=true) W e (af.jH (bq:=G.S nb true) (H':=H) hs hd);have:upd H a (.lst xs)=H:=by
  funext b
  by_cases c:b=a;·subst c;rw[bx,hx]
  .rw[aH c]
 rw[this] at W';exact h nb σ H D W' K
theorem DQ(g h:Nat->Int):∀(l:List Nat) (f:Nat->Int),aE f (l.map λj=>g j+h j)=aE f (l.map g)+aE f (l.map h)
  |[],_=>rfl
  | j :: l, f => by
    show f 0*(g j+h j)+aE _ _=(f 0*g j+aE _ _)+(f 0*h j+aE _ _);rw[DQ g h l]
    grind
theorem MI(g:Nat->Int)(x:Int):∀(l:List Nat) (f:Nat->Int),aE f (l.map λj=>g j*x)=aE f (l.map g)*x
  |[],_=>by simp[aE]
  | j :: l, f => by
    show f 0*(g j*x)+aE _ _=(f 0*g j+aE _ _)*x;rw[MI g x l]
    grind
def nH(g:Nat->Int)(h:i<n):gI ((aL n).map g) i=g i:=by
 unfold gI;rw[br,bw,NS h]
 rfl
theorem Ly{n:Nat}(f:Nat->Int):∀prs:aj,(∀pr∈prs,pr.1.toNat<n)->aE f ((aL n).map (co prs))=(prs.map λpr=>f pr.1.toNat*pr.2).sum
  | [], _ => by
    rw[qI _ _ λi hi=>by rw[ao,kD] at hi;rw[nH _ hi];show f i*0=0;rw[iu]]
    rfl
  | pr :: prs, h => by
    have e:(co (pr::prs))=λj=>(if pr.1.toNat=j then pr.2 else 0)+co prs j:=by funext j;rfl
    rw[e,DQ,Ly f prs λq hq=>h q (cM _ hq),bG,lB];have hp:=h pr (cN ..)
    congr 1
    rw[tT f _ pr.1.toNat (by rw[ao,kD];exact hp) λi hi J=>?_,nH _ hp,if_pos rfl];rw[ao,kD] at hi;rw[nH _ hi,if_neg (λz=>J z.symm),iu]
theorem LG{p n:Int}{v:List Int}(hv:v.length=n.toNat):∀(cs:List aj) (bz:List Int),(∀prs∈cs,∀pr∈prs,0<=pr.1/\pr.1<n)->(∀prs∈cs,p∣aQ prs (v.map some))->p∣aE (gI v) ((aL n.toNat).map (iI cs bz))
  | [], bz, _, _ => by
    refine⟨0,?_⟩;rw[iu];refine qI _ _ λi hi=>?_;rw[ao,kD] at hi;rw[nH _ hi];show gI v i*0=0;rw[iu]
  | prs :: cs, [], _, _ => by
    refine⟨0,?_⟩;rw[iu];refine qI _ _ λi hi=>?_;rw[ao,kD] at hi;rw[nH _ hi];show gI v i*0=0;rw[iu]
  | prs :: cs, x :: bz, h1, h2 => by
    have e:iI (prs::cs) (x::bz)=λj=>co prs j*x+iI cs bz j:=by funext j;rfl
    have hr:=h1 prs (cN ..);rw[e,DQ,MI,Ly _ _ λpr G=>by have:=hr pr G;omega,<-yR hv prs hr];obtain⟨a,ha⟩:=h2 prs (cN ..);obtain⟨b,hb⟩:=LG hv cs bz (λq hq=>h1 q (cM _ hq)) λq hq=>h2 q (cM _ hq);exact⟨a*x+b,by rw[ha,hb];grind⟩
theorem Sw{p:Int}:∀(f:Nat->Int) (r s:List Int),r.length=s.length->(∀i<r.length,p∣f i*(gI r i-gI s i))->p∣aE f r-aE f s
  |_,[],[],_,_=>⟨0,by simp[aE]⟩
  | f, x :: r, y :: s, hl, h => by
    obtain⟨a,ha⟩:=Sw (λi=>f (i+1)) r s (by simpa using hl) λi hi=>h (i+1) (by simpa using hi);obtain⟨b,hb⟩:=h 0 (by simp);have hb:f 0*(x-y)=p*b:=hb;refine⟨b+a,?_⟩;show(f 0*x+aE _ r)-(f 0*y+aE _ s)=_
    grind
theorem Bn(f g:Nat->Int)(r:List Int):aE f r=aE g r+aE (λi=>f i-g i) r:=by
 rw[<-DI]
 congr 1
 funext i
 omega
noncomputable def eP(n pl:Nat):List Int:=(aL n).map λi=>if i=pl then 1 else 0
def fW.row{n:Int}{w:List Int}(hN:iB p n cs)(h:fW p n cs wd w)(bz:List Int):p∣aE (gI w) ((aL n.toNat).map (iI cs bz)):=
 LG h.len cs bz (λprs O pr G=>⟨((hN.ok prs O).2.2 pr G).1,((hN.ok prs O).2.2 pr G).2.1⟩) h.p8
theorem fW.kn{n:Int}{w:List Int}(h:fW p n cs wd w){i:Nat}(hi:i<wd.length):gI w i-dD wd i=if wd[i]?=some none then gI w i else 0:=by
  unfold dD;rw[aC hi];cases e:wd[i] with
  |none=>simp
  | some x =>
    have:=h.known i x (by rw[aC hi,e]);rw[if_neg (by simp)];dsimp only;omega
theorem xJ{n:Int}{v:Int}{w:List Int}(hN:iB p n cs)(hwl:wd.length=n.toNat)(hpl:wd[pl]?=some none)(h:sD p n cs wd pl v bz)(hw:fW p n cs wd w):gI w pl=v:=by
 have p2:=hN.hp.1;have hlt:pl<n.toNat:=by have:=(aO.mp hpl).1;omega
 obtain⟨g1,g2⟩:=h.S4 ((aL n.toNat).map (iI cs bz)) (by rw[ao,kD]) λi hi=>⟨0,by rw[nH _ hi];omega⟩;have h1:=hw.row hN bz;have h2:=Sw (p:=p) (λi=>gI w i-dD wd i) ((aL n.toNat).map (iI cs bz)) (eP n.toNat pl) (by unfold eP;rw[ao,ao]) λi hi=>by
  rw[ao,kD] at hi;rw[hw.kn ∅];unfold eP;rw[nH (λi=>if i=pl then 1 else 0) hi];split
  .rename_i e
   exact tV (g1 i e)
  .rw[kC];exact⟨0,∅⟩
 rw[show aE (λi=>gI w i-dD wd i) (eP n.toNat pl)=gI w pl by
  unfold eP;rw[tT _ _ pl (by rw[ao,kD];exact hlt) λi hi J=>by rw[ao,kD] at hi;rw[nH (λi=>if i=pl then 1 else 0) hi,if_neg J,iu],nH (λi=>if i=pl then 1 else 0) hlt,if_pos rfl,se];rw[hw.kn ∅,if_pos hpl]] at h2
 rw[Bn (gI w) (dD wd)] at h1;obtain⟨a,ha⟩:=h1;obtain⟨b,hb⟩:=h2;obtain⟨c,hc⟩:=g2;have hwp:0<=gI w pl/\gI w pl<p:=by
  have:pl<w.length:=by rw[hw.len];exact hlt
  unfold gI;rw[br,aC this];exact hw.rg _ (cU _)
 have v0:=h.v0;have v1:=h.v1;have hk:gI w pl-v=p*(a-b-c):=by rw[kG,kG];omega
 rcases AJ (a-b-c) 0 with z|z|z
 .have:p*(a-b-c)<=p*(-1):=oA ∅ ∅;omega
 .rw[z] at hk;omega
 .have:p*1<=p*(a-b-c):=oA ∅ ∅;omega
def As(p n:Int)(cs:List aj)(wd:Wo):Prop:=∃v,fW p n cs wd v
def fW.put{n:Int}{w:List Int}(h:fW p n cs wd w):fW p n cs (wd.set pl (some (gI w pl))) w:=by
 refine⟨h.len,h.rg,λj x e=>?_,h.p8⟩;rw[zI] at e;split at e
 .rename_i e2
  subst e2;split at e;·cases e;rfl
  .cases e
 .exact h.known j x e
def fW.off{n:Int}{w:List Int}(hpl:wd[pl]?=some none)(h:fW p n cs (wd.set pl (some x)) w):fW p n cs wd w/\gI w pl=x:=by
 have hlt:=(aO.mp hpl).1;refine⟨⟨h.len,h.rg,λj y e=>h.known j y ?_,h.p8⟩,h.known pl x ?_⟩
 .rw[zI,if_neg λz=>by rw[<-z,hpl] at e;cases e];exact e
 .rw[cI hlt]
def SK{n:Int}{v:Int}(hN:iB p n cs)(hwl:wd.length=n.toNat)(hpl:wd[pl]?=some none)(h:sD p n cs wd pl v bz):As p n cs (wd.set pl (some x))↔As p n cs wd/\v=x:=by
 constructor
 .rintro⟨w,hw⟩;obtain⟨g1,g2⟩:=hw.off hpl;exact⟨⟨w,g1⟩,by rw[<-g2,xJ hN hwl hpl h g1]⟩
 .rintro⟨⟨w,hw⟩,rfl⟩;have:=xJ hN hwl hpl h hw;exact⟨w,this▸hw.put⟩
theorem Pj{n:Int}{u:List Int}(hN:iB p n cs)(hwl:wd.length=n.toNat)(hk:∀y,some y∈wd->0<=y/\y<p)(hpl:wd[pl]?=some none)(Y:0<=x)(W:x<p)(h:fW p n cs (jm wd pl) u):As p n cs (wd.set pl (some x))↔As p n cs wd:=by
 have p2:=hN.hp.1;have hlt:=(aO.mp hpl).1;constructor
 .rintro⟨w,hw⟩;exact⟨w,(hw.off hpl).1⟩
 .rintro⟨w,hw⟩;have c:w.length=u.length:=by rw[hw.len,h.len]
  have hg:∀j,j<wd.length->gI (oz p w 1 u (x-gI w pl)) j=(gI w j+(x-gI w pl)*gI u j)%p:=λj hj=>by
   have D:j<w.length:=by rw[hw.len];omega
   have k:j<u.length:=∅
   unfold gI oz;rw[br,Bo,br (l:=w) (i:=j),br (l:=u),aC D,aC k];simp
  refine⟨oz p w 1 u (x-gI w pl),?_,λy hy=>?_,λj y e=>?_,λprs O=>?_⟩
  .unfold oz;rw[EW,c,Nat.min_self,h.len]
  .unfold oz at hy;obtain⟨i,hi,e⟩:=List.mem_iff_getElem.mp hy;rw[Nq] at e;rw[<-e];exact⟨iw _ ∅,g7 _ ∅⟩
  .rw[zI] at e;split at e
   .rename_i e2
    subst e2;cases e;have hu:=h.known pl 1 (by rw[ly hlt,if_pos rfl]);rw[hg _ hlt,hu,se,show gI w pl+(x-gI w pl)=x by omega,kX Y W]
   .rename_i e2
    have hj:=(aO.mp e).1;have hu:=h.known j 0 (by rw[ly hj,if_neg (λz=>e2 z.symm),e,if_neg (by simp)]);have hb:=hk y (bC e);rw[hg _ hj,hu,iu,rW,hw.known j y e,kX hb.1 hb.2]
  .have hr:∀pr∈prs,0<=pr.1/\pr.1<w.length:=λpr G=>by
    have:=(hN.ok prs O).2.2 pr G;have:=hw.len;omega
   have:=PM (p:=p) (a:=1) (b:=x-gI w pl) c hr;refine Az ?_;rw[this,rD (hw.p8 prs O),rD (h.p8 prs O)];simp
theorem Oo:∀(f:Nat->Int) (xs:List Int) (x:Int),aE f (xs++[x])=aE f xs+f xs.length*x
  |f,[],x=>by simp[aE]
  | f, y :: ys, x => by
    show f 0*y+aE _ (ys++[x])=_;rw[Oo];show _=f 0*y+aE _ ys+_;rw[eH];omega
theorem Jj{n:Int}{v:List Int}(hv:v.length=n.toNat)(hr:r.length=n.toNat):aQ (lQ r n.toNat) (v.map some)=aE (gI v) r:=by
  rw[yR (n:=n) hv _ λpr G=>by
    unfold lQ at G;obtain⟨k,hk,rfl⟩:=cL.mp G;have:=iQ.mp (fG.mp hk).1;dsimp only;omega]
  have key:∀i,i<=n.toNat->((lQ r i).map λpr=>gI v pr.1.toNat*pr.2).sum=aE (gI v) (r.take i):=by
    intro i;induction i with
    |zero=>intro _;rfl
    | succ i ih =>
      intro hi;have e:r[i]?=some r[i]:=aC ∅;have g:gI r i=r[i]:=by unfold gI;rw[br,e];rfl
      rw[L6,bS,oS,ih ∅,Ai e,Oo,iG,A6 ∅,g];by_cases c:r[i]=0
      · rw[if_neg (by simpa using c),c]
        simp
      · rw[if_pos c]
        simp
  rw[key _ (aW _),<-hr,c6]
def NT{l:Int}{v:List Int}{S:Int}(hp:0<p)(hi:pr.1.toNat<r.length)(h:p∣aE (gI v) r-l*S):p∣aE (gI v) (r.set pr.1.toNat ((gI r pr.1.toNat+l*pr.2)%p))-l*(S+gI v pr.1.toNat*pr.2):=by
 rw[CN _ _ _ _ hi,qX];obtain⟨a,ha⟩:=h;refine⟨a-gI v pr.1.toNat*((gI r pr.1.toNat+l*pr.2)/p),?_⟩
 grind
theorem lq{P:(aF->Prop)->Prop}{H:Hp}(R:∀{S S':aF->Prop},(∀a,S' a->S a)->P S->P S')(hf:∀{S:aF->Prop} {p:aF},H p=none->P S->P λa=>S a\/a=p):∀{L:List aF} {S:aF->Prop},(∀a∈L,H a=none)->P S->P λa=>S a\/a∈L
 |[],S,_,h=>R (λa z=>z.elim (λz=>z) λz=>by cases z) h
 | p :: L, S, hL, h => R (λa z => by
   rcases z with z|z
   .exact .inl (.inl z)
   .rcases aY.mp z with z|z
    .exact .inr z
    .exact .inl (.inr z)) (hf (hL p (cN ..)) (lq R hf (L:=L) (λa m=>hL a (cM _ m)) h))
section
variable{G:Gx}{ρ:Rh}{nb:aF->Prop}{σ:qr}{H H1:Hp}{i:Nat}{L:List aF}{c c':Cu}{f:Bool}{d:PyData}{p:aF}{o:HO}{E:DE}
def Wd.PV(W:Wd G nb ρ σ H)(s1:Step G.B H H1)(ha:∀a∈L,H a=none)(e:∀a∈L,H1 a≠none):Wd G (λx=>nb x\/x∈L) ρ σ H1/\(∀a∈L,NB G.B a)/\∀f x,G.S (λx=>nb x\/x∈L) f x->(G.S nb f x\/x∈L):=by
  have hN:∀a∈L,NB G.B a:=λa m=>NB.new W.aG (ha a m);have hA:∀f x,G.S (λx=>nb x\/x∈L) f x->(G.S nb f x\/x∈L):=λf x z=>by
    rcases z with (z|z)|z|z|z
    · exact .inl (.inl z)
    · exact .inr z
    · exact .inl (.inr (.inl z))
    · exact .inl (.inr (.inr (.inl z)))
    · exact .inl (.inr (.inr (.inr z)))
  have W1:=W.step s1;have I:∀{S:aF->Prop} {d:PyData} {v:V},ai S H d v->ai (λa=>S a\/a∈L) H d v:=λ{S d v} h=>lq (P:=λS=>ai S H d v) (λz h=>ai.av z h) (λhp h=>ai.fresh hp h) ha h;have p:∀{S:aF->Prop} {d:List PyData} {v:List V},af S H d v->af (λa=>S a\/a∈L) H d v:=λ{S d v} h=>lq (P:=λS=>af S H d v) (λz h=>af.av z h) (λhp h=>af.fresh hp h) ha h;have u:∀{S:aF->Prop} {d:List (PyData×PyData)} {v:List (Key×V)},ay S H d v->ay (λa=>S a\/a∈L) H d v:=λ{S d v} h=>lq (P:=λS=>ay S H d v) (λz h=>ay.av z h) (λhp h=>ay.fresh hp h) ha h;have t:∀{S:aF->Prop} {d:HD} {v:V},gG S H d v->gG (λa=>S a\/a∈L) H d v:=λ{S d v} h=>lq (P:=λS=>gG S H d v) (λz h=>gG.av h z) (λhp h=>gG.fresh h hp) ha h;refine⟨?_,hN,hA⟩;refine⟨W1.aG,λx n=>?_,W1.old,λx n q=>?_,W.gA,W.len,W.gB,λh m=>((t (W.eU h m)).keep (s1.but λx z=> .inl (.inr (.inr (.inl z))))).av (hA h.1),λj s e'=>?_,W.apart,W.gz,W.eZ⟩
  · rcases n with n|n
    · exact W1.live x n
    · exact e x n
  · rcases n with n|n
    · exact W.ez x n q
    · cases z:G.H0 x with
      |none=>rfl
      |some o=>have:=ha x n;rw[W.old x o q z] at this;cases this
  · obtain⟨x,e1,h⟩:=W.ok j s e'
    refine⟨x,e1,?_⟩;cases s with
    |no=>trivial
    |d f d=>obtain⟨v,e,h⟩:=h;exact⟨v,e,((I h).keep (s1.but λx z=> .inl (.inr (.inr (.inl z))))).av (hA f)⟩
    |own c f es=>obtain⟨e,n,q,xs,hx,hd⟩:=h;exact⟨e, .inl n,q,xs,s1.1 _ _ q hx,((p hd).keep (s1.but λx z=> .inl (.inr (.inr (.inl z))))).av (hA f)⟩
    |aG=>exact h
    |raw v=>exact h
    |bK c f es=>obtain⟨e,n,q,xs,hx,hd⟩:=h;exact⟨e, .inl n,q,xs,s1.1 _ _ q hx,((u hd).keep (s1.but λx z=> .inl (.inr (.inr (.inl z))))).av (hA f)⟩
    | cu c =>
      obtain⟨e,n,q⟩:=h;refine⟨e,λa ha=>⟨.inl (n a ha).1,(n a ha).2⟩,c.av (hA c.f) (c.keep (.of λx o hx e=>s1.1 x o ?_ e) (lq (P:=λS=>c.P S H) (λz h=>c.av z h) (λhp h=>c.fresh hp h) ha q))⟩;rcases hx with hx|hx
      · exact jl λz=>hx (.inl (.inr (.inr (.inl z))))
      · exact(n x hx).2
def rP.DH{x:Option V}{s:Sl}(h:rP G nb H x s):∀a∈s.adr,nb a/\NB G.B a:=by
 cases s with
 |own a f ds=>intro x hx;rw[aZ.mp hx];exact⟨h.2.1,h.2.2.1⟩
 |bK a f ds=>intro x hx;rw[aZ.mp hx];exact⟨h.2.1,h.2.2.1⟩
 |cu c=>exact h.2.1
 |no=>intro _ z;cases z
 |d _ _=>intro _ z;cases z
 |aG=>intro _ z;cases z
 |raw _=>intro _ z;cases z
def Wd.NU(W:Wd G nb ρ σ H)(s1:Step G.B H H1)(ha:∀a∈c.F,H a=none)(e:∀a∈c.F,H1 a≠none)(R:c.P (λx=>G.S nb c.f x\/x∈c.F) H1):Wd G (λx=>nb x\/x∈c.F) (ρ.set i (.cu c)) (σ.set i (some c.v)) H1:=by
 obtain⟨W2,hN,hA⟩:=W.PV s1 ha e;refine W2.set ⟨rfl,λa m=>⟨.inr m,hN a m⟩,c.av (hA c.f) R⟩ (λ_ _ _ z=>by cases z) (λ_ _ _ z=>by cases z) (λx hx j t hj ht hc z=>?_);obtain⟨y,e1,h⟩:=W.ok j _ ht;exact W.live x (h.DH x z).1 (ha x hx)
def Wd.MP(W:Wd G nb ρ σ H)(e:ρ[i]?=some (.cu c))(hp:p∈c.F)(hv:c'.v=c.v)(X:∀a∈c'.F,a∈c.F)(h:c'.P (G.S nb c'.f) (upd H p o)):Wd G nb (ρ.set i (.cu c')) σ (upd H p o):=by
 obtain⟨x,e1,h1,h2,h3⟩:=W.ok i _ e;subst h1;have hil:i<ρ.length:=(aO.mp e).1;have W0:Wd G nb (ρ.set i .no) (σ.set i (some c.v)) H:=W.set trivial λ_ _ _ z=>by cases z
 have r:∀(j:Nat) s,(ρ.set i .no)[j]?=some s->s≠ .no->p∉s.adr:=λj s hs hn=>by
  have hij:i≠j:=λz=>by subst z;rw[cI hil] at hs;cases hs;exact hn rfl
  rw[bI hij] at hs;exact W.eZ i j c s hij e hs p hp
 have W1:Wd G nb (ρ.set i .no) (σ.set i (some c.v)) (upd H p o):=W0.write (h2 p hp).1 (h2 p hp).2 (λj a f ds hs z=>r j _ hs (by intro z;cases z) (aZ.mpr z.symm)) (λj a f ds hs z=>r j _ hs (by intro z;cases z) (aZ.mpr z.symm)) (λj c hs=>r j _ hs (by intro z;cases z))
 have W2:=W1.set (i:=i) (s:= .cu c') (x:=some c.v) ⟨by rw[hv],λa m=>h2 a (X a m),h⟩ (λ_ _ _ z=>by cases z) (λ_ _ _ z=>by cases z) (λx hx j t hj ht hc=>by
  rw[bI (bH hj)] at ht;exact W.eZ i j c t (bH hj) e ht x (X x hx))
 rw[mL,mL] at W2;have:σ.set i (some c.v)=σ:=by
  apply qo;intro j;by_cases hij:i=j;·subst hij;rw[cI (by rw[W.len];exact hil),e1]
  .rw[bI hij]
 rwa[this] at W2
end
noncomputable def zc(prs:aj)(pl:Int):Option Int:=(prs.find? λpr=>decide (pr.1=pl)).map (·.2)
noncomputable def DL(p:Int)(c:Nat):Option Int->List (Int×Int)
 |some f=>[((c:Int),sol p f 1)]
 |none=>[]
noncomputable def EK(p:Int)(cs:List aj)(pl:Int)(i:Nat):List (Int×Int):=(aL i).flatMap λc=>DL p c (zc (cs.getD c []) pl)
theorem Yj{pl:Int}{q:Int×Int}(hi:i<=cs.length)(h:q∈EK p cs pl i):∃(c:Nat) (prs:aj) (f:Int),cs[c]?=some prs/\c<i/\zc prs pl=some f/\q=((c:Int),sol p f 1):=by
  unfold EK at h;obtain⟨c,hc,hq⟩:=wK.mp h;have hc:=iQ.mp hc;have e:cs[c]?=some cs[c]:=aC ∅;rw[br,e] at hq;cases hf:zc cs[c] pl with
  |none=>simp[DL,hf] at hq
  | some f =>
    have hq:q∈DL p c (zc cs[c] pl):=hq;rw[hf] at hq;exact⟨c,cs[c],f,e,hc,hf,aZ.mp hq⟩
noncomputable def wg(p:Int)(cs:List aj)(ws:List Int)(pl:Int):List Int:=
 (EK p cs pl cs.length).map λq=>(ws.getD pl.toNat 0-aQ (cs.getD q.1.toNat []) (ws.map some)%p*q.2)%p
structure IT(p n:Int)(cs:List aj):Prop where
 hp:gc p
 iE:p<10^40
 n0:1<=n
 n1:n<=400
 cl:cs.length<=400
 ok:∀prs∈cs,je p n.toNat prs
noncomputable def OU(L:List Int)(w x:Int):Bool:=decide (x≠w) && decide (L.length<2*L.count x)
noncomputable def AD(L:List Int)(w:Int):List Int:=(L.filter (OU L w)).take 1
@[reducible] noncomputable def u5(t:Int×Int×Int):PyData:= .tuple [.int t.1, .int t.2.1, .int t.2.2]
noncomputable def Ng(p:Int)(cs:List aj)(ws:List Int)(i:Nat):List (Int×Int×Int):=(AD (wg p cs ws (i:Int)) (ws.getD i 0)).map λx=>((i:Int),ws.getD i 0,x)
noncomputable def wO(p:Int)(cs:List aj)(ws:List Int)(m:Nat):List (Int×Int×Int):=(aL m).flatMap (Ng p cs ws)
noncomputable def brk(p:Int)(cs:List aj)(ws:List Int):Nat:=cs.countP λprs=>decide (aQ prs (ws.map some)%p≠0)
noncomputable abbrev Qs:=Int×Int×Int
theorem WX(b:List Qs):cH (.list (b.map u5))=true:=by
 have h:bp (b.map u5)<=1/\bg (b.map u5)=true:=by
  induction b with
  |nil=>simp[bp,bg]
  |cons a r ih=>simp[u5,bp,er,bg,dk,ih.2];have:=ih.1;omega
 unfold cH;simp only[dk,er,h.2,J5];have:=h.1;simp;omega
def Yb:cH (.list [])=true:=by with_unfolding_all rfl
def XB(b:List Qs):(du (.list (b.map u5)) (.list []) !=false)=decide (b=[]):=by
 cases b<;>simp[du,eJ]
structure pF(P:bc)(w:cx)(K:PySem.W.Frag)(mg:Str->Option ag)(base:eo)(C:aF)(m:Str)(k:Nat)(ps:List Str)(sp:Sp):Prop where
 cl:gM K C
 ex:∃f fd,bD P w K mg base bM k f fd ps sp/\Binds K fd ps []/\Meth K C m f
structure FL(P:bc)(w:cx)(K:PySem.W.Frag)(mg:Str->Option ag)(base:eo)(C:aF)(x:Str)(k:Nat)(ps:List Str)(sp:Sp):Prop where
 ex:∃f fd,bD P w K mg base bM k f fd ps sp/\Binds K fd ps []/\Mk K C f/\mg x=some (.ref C)
section
variable{X:Cx}{C:aF}{k:Nat}{ps:List Str}{sp:Sp}{x m:Str}{p pos apos:Pos}{e o:eB}{es:List eB}{ta:TE}{t:TA}
def zm{pl:Sem Bool}(c:pF X.prog X.w X.K X.mg X.base C m k ps sp)(he:PE X o ta)(hr:fM k X.A)
  (ht : eval (.Call (.Attribute o m apos) [] [] pos) X.env = (do
   let ov<-eval o X.env
   standAt apos.atName
   let (f,first)<-holding [ov] (pL ov m pl)
   callWith pos f first (i5 pos (cc [] X.env)) (x7 pos (pQ [] X.env))):=by rfl):
  PE X (.Call (.Attribute o m apos) [] [] pos) (vQ C m sp [] E0 ta cG):=by
 obtain⟨f,fd,F,b,mm⟩:=c.ex;exact Zr (pl:=pl) he c.cl mm F hr b .nil xD ht
def Kk(c:FL X.prog X.w X.K X.mg X.base C x k ps sp)(hr:fM (k+1) X.A)(ha:PA X (e::es) t)(hg:Gl X x:=by rfl)
  (a:(x==("__debug__":Str))=false:=by decide) (he:cc (e::es) X.env=(false,eval e X.env)::cc es X.env:=by rfl) (hpl:(i5 pos (cc es X.env)).any (·.1)=false:=by rfl):
  PE X (.Call (.Name x p) (e::es) [] pos) (HS C sp [] E0 t):=by
 obtain⟨f,fd,F,b,M,m⟩:=c.ex;exact OK M F hr hg m b .nil xD ha a he hpl
end
section
variable{G:Gx}{ρ:Rh}{nb:aF->Prop}{σ:qr}{H H':Hp}{i:Nat}{c c':Cu}{E:DE}
def Wd.L7(W:Wd G nb ρ σ H)(e:ρ[i]?=some (.cu c))(C:∀a o,a∉c.F->H a=some o->H' a=some o)(hv:c'.v=c.v)(X:∀a∈c'.F,a∈c.F\/H a=none\/(nb a/\NB G.B a/\∀(j:Nat) s,ρ[j]?=some s->a∉s.adr))(hl:∀a,a∈c.F\/a∈c'.F->H' a≠none)
    (h:c'.P (G.S (λx=>nb x\/x∈c'.F) c'.f) H'):Wd G (λx=>nb x\/x∈c'.F) (ρ.set i (.cu c')) σ H':=by
  obtain⟨Y,e1,h1,h2,h3⟩:=W.ok i _ e;subst h1;have hil:i<ρ.length:=(aO.mp e).1;obtain⟨L,hL⟩:∃L,L=c'.F.filter λa=>(H a).isNone:=⟨_,rfl⟩;have ha:∀a∈L,H a=none:=λa m=>by
    rw[hL,fG] at m;exact S5.mp m.2
  have E:∀a∈c'.F,nb a\/a∈L:=λa m=>by
    rcases X a m with z|z|z
    · exact .inl (h2 a z).1
    · exact .inr (by rw[hL];exact fG.mpr ⟨m,S5.mpr z⟩)
    · exact .inl z.1
  have hA:∀f x,G.S (λx=>nb x\/x∈c'.F) f x->(G.S nb f x\/x∈L):=λf x z=>by
    rcases z with (z|z)|z|z|z
    · exact .inl (.inl z)
    · exact(E x z).elim (λz=> .inl (.inl z)) .inr
    · exact .inl (.inr (.inl z))
    · exact .inl (.inr (.inr (.inl z)))
    · exact .inl (.inr (.inr (.inr z)))
  have bt:∀f,bP (G.S (λx=>nb x\/x∈c'.F) f) H H':=λf a o n q=>C a o (λz=>n (.inl (.inl (h2 a z).1))) q;have I:∀{S:aF->Prop} {d:PyData} {v:V},ai S H d v->ai (λa=>S a\/a∈L) H d v:=λ{S d v} h=>lq (P:=λS=>ai S H d v) (λz h=>ai.av z h) (λhp h=>ai.fresh hp h) ha h;have p:∀{S:aF->Prop} {d:List PyData} {v:List V},af S H d v->af (λa=>S a\/a∈L) H d v:=λ{S d v} h=>lq (P:=λS=>af S H d v) (λz h=>af.av z h) (λhp h=>af.fresh hp h) ha h;have u:∀{S:aF->Prop} {d:List (PyData×PyData)} {v:List (Key×V)},ay S H d v->ay (λa=>S a\/a∈L) H d v:=λ{S d v} h=>lq (P:=λS=>ay S H d v) (λz h=>ay.av z h) (λhp h=>ay.fresh hp h) ha h;have t:∀{S:aF->Prop} {d:HD} {v:V},gG S H d v->gG (λa=>S a\/a∈L) H d v:=λ{S d v} h=>lq (P:=λS=>gG S H d v) (λz h=>gG.av h z) (λhp h=>gG.fresh h hp) ha h;have y:∀a∈c'.F,NB G.B a:=λa m=>(X a m).elim (λz=>(h2 a z).2) λz=>z.elim (λz=>NB.new W.aG z) λz=>z.2.1;have D:lu G.B H':=λb l A=>by
    obtain⟨ns,i0,c0,st,n,g1,g2,g3⟩:=W.aG b l A;have hb:b∉c.F:=λz=>(h2 b z).2 b l A rfl;have o8:l∉c.F:=λz=>by
      obtain⟨_,_,_,_,_,_,q2,_⟩:=W.gB b l A;rw[W.ez l (h2 l z).1 (h2 l z).2] at q2;cases q2
    exact⟨ns,i0,c0,st,n,C _ _ hb g1,C _ _ o8 g2,g3⟩
  have r:∀(j:Nat) s,i≠j->ρ[j]?=some s->∀a∈s.adr,a∉c.F:=λj s hij hs a m z=>W.eZ i j c s hij e hs a z m;refine⟨D,λa n=>?_,λa o n q=>?_,λa n q=>?_,W.gA,by rw[fR];exact W.len,W.gB,λh m=>((t (W.eU h m)).av (hA h.1)).keep (bt h.1),λj s e'=>?_,?_,?_,?_⟩
  · rcases n with n|n
    · by_cases z:a∈c.F
      · exact hl a (.inl z)
      · cases q:H a with
        |none=>exact absurd q (W.live a n)
        |some o=>rw[C a o z q];exact jP _
    · exact hl a (.inr n)
  · refine C a o (λz=>?_) (W.old a o n q)
    rw[W.ez a (h2 a z).1 n] at q;cases q
  · rcases n with n|n
    · exact W.ez a n q
    · rcases X a n with z|z|z
      · exact W.ez a (h2 a z).1 q
      · cases w:G.H0 a with
        |none=>rfl
        |some o=>rw[W.old a o q w] at z;cases z
      · exact W.ez a z.1 q
  · by_cases hij:i=j
    · subst hij
      rw[cI hil] at e';cases e';exact⟨some c.v,e1,by rw[hv],λa m=>⟨.inr m,y a m⟩,h⟩
    · rw[bI hij] at e'
      obtain⟨x,e2,q⟩:=W.ok j s e';refine⟨x,e2,?_⟩;have ap:=r j s hij e';cases s with
      |no=>trivial
      |d f d=>obtain⟨v,e,h⟩:=q;exact⟨v,e,((I h).av (hA f)).keep (bt f)⟩
      |own a f es=>obtain⟨e,n,q,xs,hx,hd⟩:=q;exact⟨e, .inl n,q,xs,C _ _ (ap a (aZ.mpr rfl)) hx,((p hd).av (hA f)).keep (bt f)⟩
      |aG=>exact q
      |raw v=>exact q
      |bK a f es=>obtain⟨e,n,q,xs,hx,hd⟩:=q;exact⟨e, .inl n,q,xs,C _ _ (ap a (aZ.mpr rfl)) hx,((u hd).av (hA f)).keep (bt f)⟩
      | cu c2 =>
        obtain⟨e,n,q⟩:=q;refine⟨e,λa ha=>⟨.inl (n a ha).1,(n a ha).2⟩,c2.keep (.of λx o hx e=>C x o ?_ e) (c2.av (hA c2.f) (lq (P:=λS=>c2.P S H) (λz h=>c2.av z h) (λhp h=>c2.fresh hp h) ha q))⟩;rcases hx with hx|hx
        · exact λz=>hx (.inl (.inl (h2 x z).1))
        · exact ap x hx
  all_goals
    intro j k
  · intro a f as c2 g cs hjk q1 q2
    have hj:i≠j:=λz=>by subst z;rw[cI hil] at q1;cases q1
    have hk:i≠k:=λz=>by subst z;rw[cI hil] at q2;cases q2
    rw[bI hj] at q1;rw[bI hk] at q2;exact W.apart j k a f as c2 g cs hjk q1 q2
  · intro a f as c2 g cs hjk q1 q2
    have hj:i≠j:=λz=>by subst z;rw[cI hil] at q1;cases q1
    have hk:i≠k:=λz=>by subst z;rw[cI hil] at q2;cases q2
    rw[bI hj] at q1;rw[bI hk] at q2;exact W.gz j k a f as c2 g cs hjk q1 q2
  · intro c2 s hjk q1 q2 a m z
    have J:∀(j:Nat) s,i≠j->ρ[j]?=some s->∀a∈s.adr,a∉c'.F:=λj s hij hs a m z=>by
      rcases X a z with w|w|w
      · exact r j s hij hs a m w
      · obtain⟨x,_,q⟩:=W.ok j s hs
        exact W.live a (q.DH a m).1 w
      · exact w.2.2 j s hs m
    by_cases hj:i=j
    · subst hj
      rw[cI hil] at q1;cases q1;rw[bI hjk] at q2;exact J k s hjk q2 a z m
    · rw[bI hj] at q1
      by_cases hk:i=k
      · subst hk
        rw[cI hil] at q2;cases q2;exact J j _ hj q1 a m z
      · rw[bI hk] at q2
        exact W.eZ j k c2 s hjk q1 q2 a m z
end
def iH(G:Gx)(ρ:Rh)(te:TE)(Φ:Rh->Pd):Prop:=∀nb σ H (Q:VK),Wd G nb ρ σ H->(∀bq J f v H' d,Φ J f d->Wd G bq J σ H'->ai (G.S bq f) H' d v->Q v H')->te σ H Q
def Bf(G:Gx)(ρ:Rh)(ta:TA)(Φ:Rh->List Fd->Prop):Prop:=∀nb σ H (Q:List V->Hp->Prop),Wd G nb ρ σ H->(∀bq J es vs H',Φ J es->Wd G bq J σ H'->kZ G bq H' es vs->Q vs H')->ta σ H Q
section
variable{G:Gx}{ρ:Rh}{Φ:Rh->Pd}{ta tb te:TE}{t:TA}{c u:TT}{i:Nat}{E:DE}{s s':TS}
def iH.of(h:Ev G ρ te (Φ ρ)):iH G ρ te Φ:=λnb σ H Q W z=>h nb σ H Q W λf v H' d q st hv=>z nb ρ f v H' d q (W.step st) hv
def Bf.cons{Θ:Rh->List Fd->Prop}(h:iH G ρ te λJ f d=>Av G J t λes=>Θ J ((f,d)::es)):Bf G ρ (bV te t) Θ:=λnb σ H Q W z=>
 h nb σ H _ W λbq J f v H1 d k W1 O=>k bq σ H1 _ W1 λes vs H2 p2 s2 q2=>z bq J _ _ H2 p2 (W1.step s2) ⟨v,vs,rfl,O.keep s2.dj,q2⟩
namespace Sv
def Kh{g:TG}(h:iH G ρ te λJ f d=>Gv G J g f d E.nx):Sv G ρ (fV te g) E:=λnb σ H D W K=>h nb σ H _ W λbq J f v H1 d q W1 hv=>q bq σ H1 v _ W1 hv λM J p W'=>K.nx bq J M H1 p W'
def retS(h:iH G ρ te λ_=>E.rt):Sv G ρ (t6 te) E:=λnb σ H D W K=>h nb σ H _ W λbq J f v H1 d q W1 hv=>K.rt bq J σ f v H1 d q W1 (hv.av (c7 (λz=>z) λ_ z=>z.elim))
def IP(h:iH G ρ te λJ f d=>∀nb v H,ai (G.S nb f) H d v->E.rw nb J v H):Sv G ρ (t6 te) E:=λnb σ H D W K=>h nb σ H _ W λbq J f v H1 d q W1 hv=>K.rw bq J σ v H1 (q bq v H1 hv) W1
end Sv
end
structure uH(c c':Cu)(H H':Hp):Prop where
 v:c'.v=c.v
 f:c'.f=false
 sub:∀a∈c.F,a∈c'.F
 new:∀a∈c'.F,a∈c.F\/H a=none
 kp:∀a o,a∉c.F->H a=some o->H' a=some o
 lv:∀a∈c'.F,H' a≠none
abbrev CF:=Cu->List PyData->(Cu->Pd)->Prop
def qY(F:CF):Prop:=∀c ds (Φ Ψ:Cu->Pd),F c ds Φ->(∀c f d,Φ c f d->Ψ c f d)->F c ds Ψ
def jR(n:Nat)(F:CF):Sp:=λvs H Q _=>vs.length=n/\∃(nb:aF->Prop) (c:Cu) (ws:List V) (ds:List PyData),vs=c.v::ws/\kh nb H/\(∀a∈c.F,nb a)/\c.f=false/\c.P nb H/\af nb H ds ws/\
 F c ds λc' f d=>∀v H',uH c c' H H'->c'.P (λa=>nb a\/a∈c'.F) H'->ai (λa=>nb a\/a∈c'.F\/(f=true/\H a≠none)) H' d v->Q v H'
section
variable{G:Gx}{ρ:Rh}{Φ:Rh->Pd}{ta tb te:TE}{t:TA}{i:Nat}{E:DE}{c:Cu}{C:aF}{m:Str}{n:Nat}{F:CF}
def iH.JC{Q:VK}{es:List Fd}(hm:qY F)(e:ρ[i]?=some (.cu c))(W1:Wd G nb ρ σ H1)(O:kZ G nb H1 es vs)(hl:es.length+1=n)(b:c.f=false)(p:F c (es.map (·.2)) λc' f d=>Φ (ρ.set i (.cu c')) f d)
  (z:∀bq J f v H' d,Φ J f d->Wd G bq J σ H'->ai (G.S bq f) H' d v->Q v H'):jR n F (c.v::(vs++[])) H1 Q E0:=by
 rw[jg];obtain⟨Y,e1,h1,h2,h3⟩:=W1.ok i _ e;refine⟨by rw[eH,O.len,hl],G.S nb false,c,vs,es.map (·.2),rfl,W1.ig,λa m=> .inl (h2 a m).1,b,by rw[b] at h3;exact h3,O.all (f:=false) (λz=>by cases z),hm _ _ _ _ p λc' f d hp v H' to R hd=>?_⟩;refine z _ _ f v H' d hp (W1.L7 (c':=c') e to.kp to.v (λa m=>(to.new a m).imp id .inl) (λa m=>m.elim (λm=>to.lv a (to.sub a m)) λm=>to.lv a m) (c'.av (λa y=>?_) R)) (hd.av λa y=>?_)
 .rw[to.f] at y;rcases y with (y|y)|y|y|y
  .exact .inl (.inl y)
  .exact .inr y
  .exact .inl (.inr (.inl y))
  .exact .inl (.inr (.inr (.inl y)))
  .cases y.1
 .rcases y with (y|y)|y|y|y
  .exact .inl (.inl y)
  .exact .inr (.inl y)
  .exact .inl (.inr (.inl y))
  .exact .inl (.inr (.inr (.inl y)))
  .exact .inr (.inr ⟨y.1,W1.ig (f:=true) a (.inr (.inr (.inr ⟨rfl,y.2⟩)))⟩)
def iH.zE(hm:qY F)(e:ρ[i]?=some (.cu c))(b:c.f=false)(hi:∀S H,c.P S H->∃a dx fs,c.v= .ref a/\H a=some (.ins C dx fs)/\fs.lookup m=none)
  (h:Av G ρ t λes=>es.length+1=n/\F c (es.map (·.2)) λc' f d=>Φ (ρ.set i (.cu c')) f d):iH G ρ (vQ C m (jR n F) [] E0 (bZ i) t) Φ:=λnb σ H Q W z=>by
 obtain⟨Y,e1,h1,h2,h3⟩:=W.ok i _ e;subst h1;obtain⟨a,dx,fs,g1,g2,g3⟩:=hi _ _ h3;refine⟨c.v,e1,a,dx,fs,g1,g2,g3,h nb σ H _ W λes vs H1 ⟨hl,p⟩ s1 O=>?_⟩;exact iH.JC hm e (W.step s1) O hl b p z
end
noncomputable def su(F:List aF)(H:Hp)(nb:aF->Prop):Gx:=⟨none,λa=>if a∈F then none else H a,λa=>nb a/\a∉F,[]⟩
structure GG(c c':Cu):Prop where
 v:c'.v=c.v
 f:c'.f=false
 sub:∀a∈c.F,a∈c'.F
noncomputable def objE(G:Gx)(c:Cu)(Φ:Cu->Pd):DE where
 nx:=λρ=>∃c',ρ[0]?=some (.cu c')/\GG c c'/\Φ c' true .none
 rt:=λ_ _=>False
 rw:=λnb ρ v H=>∃c' f d,ρ[0]?=some (.cu c')/\GG c c'/\Φ c' f d/\ai (G.S nb f) H d v
section
variable{ρ:Rh}{t:TS}{N:List Str}{ws:List V}{ds:List PyData}{nb:aF->Prop}{H:Hp}{Q:VK}{Φ:Cu->Pd}{c:Cu}
theorem Sv.Af(hl:kh nb H)(X:∀a∈c.F,nb a)(hf:c.f=false)(R:c.P nb H)(hd:af nb H ds ws)
    (D:∀c' f d v H',Φ c' f d->uH c c' H H'->c'.P (λa=>nb a\/a∈c'.F) H'->ai (λa=>nb a\/a∈c'.F\/(f=true/\H a≠none)) H' d v->Q v H')
    (u:ρ= .cu c::ds.map (Sl.d false)++ar (N.length-(ds.length+1)) .no) (h:Sv (su c.F H nb) ρ t (objE (su c.F H nb) c Φ)):t {nx:=λ_ H'=>Q .aP H',rt:=Q} (start N (c.v::ws)) H:=by
  have hlen:=hd.length;have y:∀a,NB (su c.F H nb).B a:=λa b l e=>by cases e
  have key:∀{bq J M H' c'} {f:Bool} {d:PyData} {v:V},Wd (su c.F H nb) bq J M H'->J[0]?=some (.cu c')->GG c c'->Φ c' f d->ai ((su c.F H nb).S bq f) H' d v->Q v H':=λ{bq J M H' c' f d v} W e up p hv=>by
    obtain⟨Y,e1,h1,h2,h3⟩:=W.ok 0 _ e;have k:∀(f:Bool) a,nb a\/a∈c'.F\/(f=true/\H a≠none)->(su c.F H nb).S bq f a:=λf a z=>by
      by_cases m:a∈c'.F;· exact .inl (h2 a m).1
      have O:a∉c.F:=λz=>m (up.sub a z);rcases z with z|z|z
      · exact .inr (.inl ⟨z,O⟩)
      · exact absurd z m
      · exact .inr (.inr (.inr ⟨z.1,by show(if a∈c.F then none else H a)≠none;rw[if_neg O];exact z.2⟩))
    refine D c' f d v H' p ⟨up.v,up.f,up.sub,λa m=>?_,λa o n q=>?_,λa m=>W.live a (h2 a m).1⟩ (c'.av (λa z=>by rw[up.f];exact k false a (z.elim .inl λz=> .inr (.inl z))) h3) (hv.av (k f))
    · have:=W.ez a (h2 a m).1 (h2 a m).2
      by_cases z:a∈c.F;· exact .inl z
      · exact .inr (by have q:(if a∈c.F then none else H a)=none:=this;rwa[if_neg z] at q)
    · exact W.old a o (y a) (by show(if a∈c.F then none else H a)=_;rw[if_neg n];exact q)
  refine h (λa=>a∈c.F) _ H _ ⟨λ_ _ z=>(by cases z),λa z=>hl a (X a z),λa o _ e=>?_,λa z _=>by show(if a∈c.F then none else H a)=none;rw[if_pos z],λa z=>?_,?_,λ_ _ z=>(by cases z),λ_ m=>(by cases m),λi s e=>?_,?_,?_,?_⟩ ⟨λbq J M H' ⟨c',e,up,p⟩ W=>key W e up p .aP,λ_ _ _ _ q _=>q.elim,λ_ _ _ _ q _=>q.elim,λ_ _ _ _ _ _ _ q _ _=>q.elim,λbq J M v H' ⟨c',f,d,e,up,p,hv⟩ W=>key W e up p hv⟩
  · have e:(if a∈c.F then none else H a)=some o:=e
    by_cases z:a∈c.F;· rw[if_pos z] at e;cases e
    · rwa[if_neg z] at e
  · show(if a∈c.F then none else H a)≠none
    rw[if_neg z.2];exact hl a z.1
  · rw[u];unfold start;simp[hlen]
  · rw[u] at e
    unfold start;have av:∀a,(su c.F H nb).S (λa=>a∈c.F) false a->nb a:=λa z=>by
      rcases z with z|z|z|z
      · exact X a z
      · exact z.1
      · exact absurd (y a) z
      · cases z.1
    cases i with
    |zero=>simp at e;subst e;exact⟨some c.v,by simp,rfl,λa m=>⟨m,y a⟩,by rw[hf];exact c.av av R⟩
    | succ i =>
      simp only[nV,mW,bG,eH] at e⊢;by_cases hi:i<ds.length
      · rw[jj (by rw[ao];exact hi)] at e
        obtain⟨v,d,hv,rfl,q⟩:=m8 hd e;refine⟨some v,?_,v,rfl,q.av av⟩;rw[jj (by rw[ao,hlen];exact hi),bw,hv];rfl
      · rw[jr (by rw[ao];omega),gf] at e
        split at e
        · rename_i h'
          cases e;refine⟨none,?_,trivial⟩;rw[ao] at h';rw[jr (by rw[ao];omega),gf,if_pos (by rw[ao,hlen];exact h')]
        · cases e
  all_goals
    have sl:∀{i:Nat} {s:Sl},ρ[i+1]?=some s->s.adr=[]:=λ{i s} e1=>by
      rw[u] at e1;simp only[nV,mW] at e1;by_cases hi:i<ds.length
      · rw[jj (by rw[ao];exact hi)] at e1
        obtain⟨_,_,_,z,_⟩:=m8 hd e1;subst z;rfl
      · rw[jr (by rw[ao];omega),gf] at e1
        split at e1;· cases e1;rfl
        · cases e1
    have s0:∀{s:Sl},ρ[0]?=some s->s= .cu c:=λ{s} e1=>by rw[u] at e1;simp at e1;exact e1.symm
  · intro i j a f as c2 g cs hij e1
    cases i with
    |zero=>cases s0 e1
    |succ i=>cases sl e1
  · intro i j a f as c2 g cs hij e1
    cases i with
    |zero=>cases s0 e1
    |succ i=>cases sl e1
  · intro i j c2 s hij e1 e2 a m
    cases i with
    | zero =>
      cases j with
      |zero=>exact absurd rfl hij
      |succ j=>rw[sl e2];exact λz=>by cases z
    | succ i =>
      have:=sl e1;rw[show Sl.adr (.cu c2)=c2.F from rfl] at this;rw[this] at m;cases m
end
def Kp.sub{S:aF->Prop}{F b:List aF}(k:Kp S F H H')(h:∀a∈b,a∈F):Kp S b H H':=⟨λa m=>k.own a (h a m),k.lst,k.tup,k.bK⟩
noncomputable def nB(a:aF)(ds:List PyData):Cu where
 v:= .ref a
 F:=[a]
 f:=false
 P:=λS H=>∃xs,H a=some (.lst xs)/\af S H ds xs
 keep:=λk ⟨xs,h,q⟩=>⟨xs,k.own _ (aZ.mpr rfl) _ h,af.kp k q⟩
 av:=λz ⟨xs,h,q⟩=>⟨xs,h,q.av z⟩
 fresh:=λz ⟨xs,h,q⟩=>⟨xs,h,q.fresh z⟩
inductive Fl where
 |d (d:PyData)|cu (c:Cu)
noncomputable def Fl.adr:Fl->List aF
 | .d _=>[]
 | .cu c=>c.F
def nv(S:aF->Prop)(H:Hp)(v:V):Fl->Prop
 | .d d=>ai S H d v
 | .cu c=>v=c.v/\c.P S H
noncomputable abbrev Fs:=List (Str×Fl)
def cX(S:aF->Prop)(H:Hp):Fs->List (Str×V)->Prop
 |[],vs=>vs=[]
 |f::fs,vs=>∃v ws,vs=(f.1,v)::ws/\nv S H v f.2/\cX S H fs ws
noncomputable def dQ(x dx:aF)(fs:Fs):List aF:=x::dx::fs.flatMap λf=>f.2.adr
def nv.map{S S':aF->Prop}{v:V}{fl:Fl}(h:nv S H v fl)(hd:∀d v,ai S H d v->ai S' H' d v)(hc:∀c,fl= .cu c->c.P S H->c.P S' H'):nv S' H' v fl:=by
 cases fl with
 |d d=>exact hd _ _ h
 |cu c=>exact⟨h.1,hc c rfl h.2⟩
theorem cX.map{S S':aF->Prop}{H H':Hp}:∀{fs:Fs} {vs:List (Str×V)},cX S H fs vs->(∀d v,ai S H d v->ai S' H' d v)->(∀f∈fs,∀c,f.2= .cu c->c.P S H->c.P S' H')->cX S' H' fs vs
 |[],_,h,_,_=>h
 |f::fs,_,⟨v,ws,e,h1,h2⟩,hd,hc=>⟨v,ws,e,h1.map hd (hc f (cN ..)),cX.map h2 hd λg m=>hc g (cM _ m)⟩
def Sk{x:aF}{fs:Fs}{f:Str×Fl}(h:f∈fs){a:aF}(m:a∈f.2.adr):a∈dQ x dx fs:=cM _ (cM _ (wK.mpr ⟨f,h,m⟩))
noncomputable def cS(C x dx:aF)(fs:Fs):Cu where
 v:= .ref x
 F:=dQ x dx fs
 f:=false
 P:=λS H=>(dQ x dx fs).Nodup/\H dx=some (.own x)/\fs.length<=900/\∃vs,H x=some (.ins C dx vs)/\cX S H fs vs
 keep:=λk ⟨n,h,l,vs,q,r⟩=>⟨n,k.own _ (by simp[dQ]) _ h,l,vs,k.own _ (by simp[dQ]) _ q,r.map (λd v z=>ai.kp k z) λf m c e z=>c.keep (k.sub λa y=>Sk m (by rw[e];exact y)) z⟩
 av:=λz ⟨n,h,l,vs,q,r⟩=>⟨n,h,l,vs,q,r.map (λd v y=>y.av z) λf m c e y=>c.av z y⟩
 fresh:=λz ⟨n,h,l,vs,q,r⟩=>⟨n,h,l,vs,q,r.map (λd v y=>y.fresh z) λf m c e y=>c.fresh z y⟩
theorem cX.get{S:aF->Prop}{H:Hp}{f:Str}{fl:Fl}:∀{fs:Fs} {vs:List (Str×V)},cX S H fs vs->fs.lookup f=some fl->∃v,vs.lookup f=some v/\nv S H v fl
  |[],_,h,e=>by simp at e
  | (g, x) :: fs, _, ⟨v, ws, e, h1, h2⟩, q => by
    subst e;rw[fY] at q⊢;cases hb:(f==g) with
    |true=>rw[hb] at q;cases q;exact⟨v,rfl,h1⟩
    |false=>rw[hb] at q;exact cX.get h2 q
theorem cX.no{S:aF->Prop}{H:Hp}{f:Str}:∀{fs:Fs} {vs:List (Str×V)},cX S H fs vs->fs.lookup f=none->vs.lookup f=none
  |[],_,h,e=>by unfold cX at h;subst h;rfl
  | (g, x) :: fs, _, ⟨v, ws, e, h1, h2⟩, q => by
    subst e;rw[fY] at q⊢;cases hb:(f==g) with
    |true=>rw[hb] at q;cases q
    |false=>rw[hb] at q;exact cX.no h2 q
noncomputable def gn(f:Str)(v:Fl):Fs->Fs
 |[]=>[(f,v)]
 |(g,x)::r=>if g=f then(g,v)::r else(g,x)::gn f v r
theorem cX.put{S:aF->Prop}{H:Hp}{f:Str}{fl:Fl}{v:V}(hv:nv S H v fl):∀{fs:Fs} {vs:List (Str×V)},cX S H fs vs->cX S H (gn f fl fs) (iy f v vs)
  |[],_,h=>by unfold cX at h;subst h;exact⟨v,[],rfl,hv,rfl⟩
  | (g, x) :: fs, _, ⟨w, ws, e, h1, h2⟩ => by
    subst e;unfold gn iy;by_cases h:g=f;· rw[if_pos h,if_pos h];exact⟨v,ws,rfl,hv,h2⟩
    · rw[if_neg h,if_neg h];exact⟨w,_,rfl,h1,cX.put hv h2⟩
theorem cX.len{S:aF->Prop}{H:Hp}:∀{fs:Fs} {vs:List (Str×V)},cX S H fs vs->vs.length=fs.length
 |[],_,h=>by unfold cX at h;subst h;rfl
 |f::fs,_,⟨v,ws,e,h1,h2⟩=>by subst e;simp[cX.len h2]
def cS.is{x:aF}{fs:Fs}{m:Str}(hm:fs.lookup m=none):∀S H,(cS C x dx fs).P S H->∃a dx' vs,(cS C x dx fs).v= .ref a/\H a=some (.ins C dx' vs)/\vs.lookup m=none:=λS H ⟨n,h,l,vs,q,r⟩=>⟨x,dx,vs,rfl,q,r.no hm⟩
section
variable{G:Gx}{ρ:Rh}{Φ:Pd}{ta tb te:TE}{t:TA}{i:Nat}{E:DE}{C x dx l:aF}{fs:Fs}{K:PySem.W.Frag}{f m:Str}{d:PyData}{ds:List PyData}
def Wd.rT(W:Wd G nb ρ σ H)(e:ρ[i]?=some (.cu (cS C x dx fs))):∃vs,σ[i]?=some (some (.ref x))/\(∀a∈dQ x dx fs,nb a/\NB G.B a)/\(dQ x dx fs).Nodup/\H dx=some (.own x)/\fs.length<=900/\H x=some (.ins C dx vs)/\cX (G.S nb false) H fs vs:=by
 obtain⟨Y,e1,h1,h2,n,h,l,vs,q,r⟩:=W.ok i _ e;subst h1;exact⟨vs,e1,h2,n,h,l,q,r⟩
def Ev.fld(e:ρ[i]?=some (.cu (cS C x dx fs)))(cl:gM K C)(I:ji K C f)(hl:fs.lookup f=some (.d d))(h:Φ false d):Ev G ρ (pK K (bZ i) f) Φ:=λnb σ H Q W z=>by
 obtain⟨vs,e1,h2,n,h3,l,q,r⟩:=W.rT e;obtain⟨v,g1,g2⟩:=r.get hl;exact⟨.ref x,e1,x,C,dx,vs,v,rfl,q,cl,I,g1,z false v H d h (.refl W.aG) g2⟩
theorem lookup_mem{fl:Fl}:∀{fs:Fs},fs.lookup f=some fl->(f,fl)∈fs
  |[],h=>by simp at h
  | (g, y) :: r, h => by
    rw[fY] at h;cases hb:(f==g) with
    |true=>rw[hb] at h;cases h;rw[beq_iff_eq.mp hb];exact cN ..
    |false=>rw[hb] at h;exact cM _ (lookup_mem h)
def Le{fl:Fl}(hl:fs.lookup f=some fl){a:aF}(m:a∈fl.adr):a∈dQ x dx fs:=Sk (lookup_mem hl) m
def FY{Q:VK}{c:Cu}(W:Wd G nb ρ σ H)(e:ρ[i]?=some (.cu (cS C x dx fs)))(cl:gM K C)(I:ji K C f)(hl:fs.lookup f=some (.cu c))
  (z:(∀a∈c.F,nb a/\NB G.B a)->c.P (G.S nb false) H->Q c.v H):pK K (bZ i) f σ H Q:=by
 obtain⟨vs,e1,h2,n,h3,len,q,r⟩:=W.rT e;obtain⟨v,g1,g2,g3⟩:=r.get hl;exact⟨.ref x,e1,x,C,dx,vs,v,rfl,q,cl,I,g1,by rw[g2];exact z (λa m=>h2 a (Le hl m)) g3⟩
theorem D0{fl sC:Fl}(h':sC.adr=fl.adr):∀{fs:Fs},fs.lookup f=some fl->((gn f sC fs).flatMap λg=>g.2.adr)=fs.flatMap λg=>g.2.adr
  |[],h=>by simp at h
  | (g, y) :: r, h => by
    unfold gn;rw[fY] at h;cases hb:(f==g) with
    | true =>
      rw[hb] at h;cases h
      rw[if_pos (beq_iff_eq.mp hb).symm,uC,uC,h']
    | false =>
      rw[hb] at h;rw[if_neg (λz=>by rw[z,beq_self_eq_true] at hb;cases hb),uC,uC,D0 h' h]
theorem Gq{fl sC:Fl}:∀{fs:Fs},fs.lookup f=some fl->(gn f sC fs).length=fs.length
  |[],h=>by simp at h
  | (g, y) :: r, h => by
    unfold gn;rw[fY] at h;cases hb:(f==g) with
    |true=>rw[if_pos (beq_iff_eq.mp hb).symm];rfl
    | false =>
      rw[hb] at h;rw[if_neg (λz=>by rw[z,beq_self_eq_true] at hb;cases hb),eH,eH,Gq h]
def nv.wr{S:aF->Prop}{v:V}{fl:Fl}{p:aF}{o:HO}(N:S p)(hp:p∉fl.adr)(h:nv S H v fl):nv S (upd H p o) v fl:=
 h.map (λd v z=>z.keep (bP.set N)) λc e z=>c.keep (.of λa o' m q=>by
  rw[aH];·exact q
  .rintro rfl;rcases m with m|m
   .exact m N
   .rw[e] at hp;exact hp m) z
theorem cX.JI{S:aF->Prop}{H:Hp}{p:aF}{o:HO}(N:S p):∀{fs:Fs} {vs:List (Str×V)},(p∉fs.flatMap λg=>g.2.adr)->cX S H fs vs->cX S (upd H p o) fs vs
  |[],_,_,h=>h
  | g :: fs, _, hp, ⟨v, ws, e, h1, h2⟩ => by
    rw[uC,dM] at hp;exact⟨v,ws,e,h1.wr N λz=>hp (.inl z),cX.JI N (λz=>hp (.inr z)) h2⟩
theorem cX.wr{S:aF->Prop}{H:Hp}{p:aF}{o:HO}{c c':Cu}(N:S p)(hp:p∈c.F)(hv:c'.v=c.v)(hc:c'.P S (upd H p o)):∀{fs:Fs} {vs:List (Str×V)},(fs.flatMap λg=>g.2.adr).Nodup->fs.lookup f=some (.cu c)->cX S H fs vs->cX S (upd H p o) (gn f (.cu c') fs) vs
  |[],_,_,h,_=>by simp at h
  | (g, y) :: r, _, hn, h, ⟨v, ws, e, h1, h2⟩ => by
    unfold gn;rw[uC,l9] at hn;rw[fY] at h;cases hb:(f==g) with
    | true =>
      rw[hb] at h;cases h
      rw[if_pos (beq_iff_eq.mp hb).symm];exact⟨v,ws,e,⟨by rw[hv];exact h1.1,hc⟩,cX.JI N (λz=>hn.2.2 p hp p z rfl) h2⟩
    | false =>
      rw[hb] at h;rw[if_neg (λz=>by rw[z,beq_self_eq_true] at hb;cases hb)];exact⟨v,ws,e,h1.wr N λz=>hn.2.2 p z p (wK.mpr ⟨_,lookup_mem h,hp⟩) rfl,cX.wr N hp hv hc hn.2.1 h h2⟩
def Wd.UA{c c':Cu}{p:aF}{o:HO}(W:Wd G nb ρ σ H)(e:ρ[i]?=some (.cu (cS C x dx fs)))(hl:fs.lookup f=some (.cu c))(hp:p∈c.F)(hv:c'.v=c.v)(X:c'.F=c.F)(h:c'.P (G.S nb false) (upd H p o)):
  Wd G nb (ρ.set i (.cu (cS C x dx (gn f (.cu c') fs)))) σ (upd H p o):=by
 obtain⟨vs,e1,h2,n,h3,len,q,r⟩:=W.rT e;have eY:p∈dQ x dx fs:=Le hl hp;have N:G.S nb false p:= .inl (h2 p eY).1;have hn:=n;unfold dQ at hn;obtain⟨n1,Z⟩:=jn.mp hn;obtain⟨d,k⟩:=jn.mp Z;have y:p∈fs.flatMap λg=>g.2.adr:=wK.mpr ⟨_,lookup_mem hl,hp⟩;have b:x≠p:=λz=>n1 (by rw[z];exact cM _ y);have j:dx≠p:=λz=>d (by rw[z];exact y);have u:dQ x dx (gn f (.cu c') fs)=dQ x dx fs:=by unfold dQ;rw[D0 (fl:= .cu c) (sC:= .cu c') X hl]
 refine W.MP (c':=cS C x dx (gn f (.cu c') fs)) e eY rfl (λa m=>by rw[show(cS C x dx (gn f (.cu c') fs)).F=dQ x dx fs from u] at m;exact m) ?_;exact⟨by rw[u];exact n,by rw[aH j];exact h3,by rw[Gq hl];exact len,vs,by rw[aH b];exact q,cX.wr N hp hv h k hl r⟩
def cX.Td{S:aF->Prop}{fl:Fl}{v:V}{p:aF}{o:HO}(N:S p)(hv:nv S (upd H p o) v fl){fs:Fs}{vs:List (Str×V)}(hp:p∉fs.flatMap λg=>g.2.adr)(h:cX S H fs vs):cX S (upd H p o) (gn f fl fs) (iy f v vs):=cX.put hv (cX.JI N hp h)
theorem Cp{fl:Fl}:∀{fs:Fs},fs.lookup f=none->gn f fl fs=fs++[(f,fl)]
  |[],_=>rfl
  | (g, y) :: r, h => by
    unfold gn;rw[fY] at h;cases hb:(f==g) with
    |true=>rw[hb] at h;cases h
    | false =>
      rw[hb] at h;rw[if_neg (λz=>by rw[z,beq_self_eq_true] at hb;cases hb),Cp h];rfl
theorem Sv.WL(e:ρ[i]?=some (.cu (cS C x dx fs)))(cl:gM K C)(I:ji K C f)(hl:fs.lookup f=none\/∃d0,fs.lookup f=some (.d d0))(hlen:fs.length<900)(h:Ev G ρ te λ_ d=>E.nx (ρ.set i (.cu (cS C x dx (gn f (.d d) fs))))):Sv G ρ (Jd K (bZ i) te f) E:=λnb σ H D W KK=>
 h nb σ H _ W λj v H1 d q s1 hv=>by
  have W1:=W.step s1;obtain⟨vs,e1,h2,n,h3,len,p,r⟩:=W1.rT e;have t:G.S nb false x:= .inl (h2 x (by simp[dQ])).1;have hn:=n;unfold dQ at hn;obtain⟨n1,Z⟩:=jn.mp hn;have w:dx≠x:=λz=>n1 (by rw[z];exact cN ..);have hx:x∉fs.flatMap λg=>g.2.adr:=λz=>n1 (cM _ z);have u:dQ x dx (gn f (.d d) fs)=dQ x dx fs:=by
   unfold dQ;rcases hl with hl|⟨d0,hl⟩
   .rw[Cp hl,QI];show _::_::(_++([]++[]))=_;rw[jg,jg]
   .rw[D0 (fl:= .d d0) (sC:= .d d) rfl hl]
  have l:(gn f (.d d) fs).length<=900:=by
   rcases hl with hl|⟨d0,hl⟩
   .rw[Cp hl,fk,i9];omega
   .rw[Gq hl];exact len
  refine⟨.ref x,e1,x,C,dx,vs,rfl,p,cl,I,by rw[r.len];omega,KK.nx nb _ _ _ q ?_⟩;refine W1.MP (c':=cS C x dx (gn f (.d d) fs)) e (by show x∈dQ x dx fs;simp[dQ]) rfl (λa m=>by rw[show(cS C x dx (gn f (.d d) fs)).F=dQ x dx fs from u] at m;exact m) ?_;refine⟨by rw[u];exact n,by rw[aH w];exact h3,l,_,bx,cX.Td t ?_ hx r⟩;exact(hv.av (c7 (λz=>by cases z) λ_ z=>z)).keep (bP.set t)
theorem Wd.TJ{c:Cu}{vs:List (Str×V)}{l:aF}(W:Wd G nb ρ σ H)(s1:Step G.B H H1)(e:ρ[i]?=some (.cu (cS C x dx fs)))(hl:fs.lookup f=none)(hlen:fs.length<900)(J:c.F=[l])(L:c.v= .ref l)(A:H l=none)(k:H1 l≠none)
  (R:c.P (λa=>G.S nb false a\/a=l) H1) (p:H1 x=some (.ins C dx vs)):Wd G (λa=>(nb a\/a∈[l])\/a∈dQ x dx (fs++[(f, .cu c)])) (ρ.set i (.cu (cS C x dx (fs++[(f, .cu c)])))) σ (upd H1 x (.ins C dx (iy f c.v vs))):=by
 have h:∀a∈[l],H a=none:=λa m=>by rw[aZ.mp m];exact A
 obtain⟨T,e0,D,_⟩:=W.rT e;have w4:l∉dQ x dx fs:=λz=>W.live l (D l z).1 A;obtain⟨W1,Q,U⟩:=W.PV s1 h (λa m=>by rw[aZ.mp m];exact k);obtain⟨M,e1,h2,n,h3,len,E,r⟩:=W1.rT e;rw[p] at E;cases E;have hn:=n;unfold dQ at hn;obtain⟨n1,Z⟩:=jn.mp hn;have w:dx≠x:=λz=>n1 (by rw[z];exact cN ..);have hx:x∉fs.flatMap λg=>g.2.adr:=λz=>n1 (cM _ z);have hlx:l≠x:=λz=>w4 (by rw[z];simp[dQ]);have K:x∈dQ x dx fs:=by simp[dQ]
 have u:dQ x dx (fs++[(f, .cu c)])=dQ x dx fs++[l]:=by
  unfold dQ;rw[QI];show _::_::(_++(c.F++[]))=_;rw[J]
  rfl
 have N:∀{a},G.S (λy=>(nb y\/y∈[l])\/y∈dQ x dx (fs++[(f, .cu c)])) false a->G.S (λy=>nb y\/y∈[l]) false a:=λ{a} z=>by
  rcases z with (z|z)|z|z|z
  .exact .inl z
  .rw[u,dM] at z;rcases z with z|z
   .exact .inl (h2 a z).1
   .exact .inl (.inr z)
  .exact .inr (.inl z)
  .exact .inr (.inr (.inl z))
  .exact .inr (.inr (.inr z))
 refine W1.L7 (c:=cS C x dx fs) (c':=cS C x dx (fs++[(f, .cu c)])) e (λa o I q=>?_) rfl (λa m=>?_) (λa m=>?_) ?_;·rw[aH (λz=>I (by rw[z];exact K))];exact q
 .rw[show(cS C x dx (fs++[(f, .cu c)])).F=dQ x dx fs++[l] from u,dM] at m;rcases m with m|m
  .exact .inl m
  .rw[aZ.mp m];refine .inr (.inr ⟨.inr (aZ.mpr rfl),Q l (aZ.mpr rfl),λj s hs z=>?_⟩);obtain⟨y,_,q⟩:=W.ok j s hs;exact W.live l (q.DH l z).1 A
 .by_cases z:a=x;·rw[z,bx];exact jP _
  .rw[aH z];rcases m with m|m
   .exact W1.live a (h2 a m).1
   .rw[show(cS C x dx (fs++[(f, .cu c)])).F=dQ x dx fs++[l] from u,dM] at m;rcases m with m|m
    .exact W1.live a (h2 a m).1
    .rw[aZ.mp m];exact k
 .refine⟨?_,by rw[aH w];exact h3,by rw[fk,i9];omega,_,bx,?_⟩
  .rw[u,l9];exact⟨n,by simp,λa m b O z=>w4 (by rw[aZ.mp O] at z;rw[<-z];exact m)⟩
  .have t:G.S (λy=>nb y\/y∈[l]) false x:= .inl (h2 x K).1;have:=cX.Td (f:=f) (fl:= .cu c) (v:=c.v) (o:= .ins C dx (iy f c.v vs)) t ⟨rfl,c.keep (S:=G.S (λy=>nb y\/y∈[l]) false) (.of λa o m q=>?_) (c.av (λa z=>?_) R)⟩ hx r
   .rw[Cp hl] at this;exact this.map (λd v z=>z.av λa=>N) λg m c' e z=>c'.av (λa=>N) z
   .rw[aH];·exact q
    .rintro rfl;rcases m with m|m
     .exact m t
     .rw[J] at m;exact hlx (aZ.mp m).symm
   .rcases U false a z with z|z
    .exact .inl z
    .exact .inr (aZ.mp z)
theorem Sv.Wq(e:ρ[i]?=some (.cu (cS C x dx fs)))(cl:gM K C)(I:ji K C f)(hl:fs.lookup f=none)(hlen:fs.length<900)(h:az G ρ te λ_ ds=>∀l,E.nx (ρ.set i (.cu (cS C x dx (fs++[(f, .cu (nB l ds))]))))):Sv G ρ (Jd K (bZ i) te f) E:=λnb σ H D W KK=>
 h nb σ H _ W λj l xs H1 ds q s1 A b hd=>by
  obtain⟨vs,e1,h2,n,h3,len,p,r⟩:=(W.step s1).rT e;refine⟨.ref x,e1,x,C,dx,vs,rfl,p,cl,I,by rw[r.len];omega,KK.nx _ _ _ _ (q l) (W.TJ (c:=nB l ds) s1 e hl hlen rfl rfl A (by rw[b];exact jP _) ⟨xs,b,hd.av λa z=>?_⟩ p)⟩;rcases z with z|z
  .exact .inl (c7 (λw=>by cases w) (λ_ w=>w) a z)
  .exact .inr z
def Sv.UG{l:aF}(e:ρ[i]?=some (.cu (cS C x dx fs)))(cl:gM K C)(I:ji K C f)(hl:fs.lookup f=some (.cu (nB l ds)))(h:Ev G ρ te λ_ d=>Ev G ρ tb λ_ y=>∃k j,y= .int k/\dS ds.length k=some j/\E.nx (ρ.set i (.cu (cS C x dx (gn f (.cu (nB l (ds.set j d))) fs))))):Sv G ρ (fV te (nY (pK K (bZ i) f) tb qd)) E:=λnb σ H D W KK=>
 h nb σ H _ W λg v H1 d q s1 hv=>FY (W.step s1) e cl I hl λX ⟨xs,hx,hd⟩=>q nb σ H1 _ (W.step s1) λg' u H2 y ⟨k,j,r,hj,p⟩ s2 hu=>by
  subst r;have W2:=(W.step s1).step s2;have w4:=X l (aZ.mpr rfl);have N:G.S nb false l:= .inl w4.1;refine⟨l,xs,k,j,rfl,hu.cC,s2.1 _ _ w4.2 hx,by rw[hd.length];exact hj,KK.nx nb _ _ _ p (W2.UA (c:=nB l ds) (c':=nB l (ds.set j d)) e hl (aZ.mpr rfl) rfl rfl ⟨_,bx,?_⟩)⟩;exact(af.set' ((hv.av (c7 (λz=>by cases z) λ_ z=>z)).keep s2.dj) j (hd.keep s2.dj)).keep (bP.set N)
def az.ZU{l:aF}(e:ρ[i]?=some (.cu (cS C x dx fs)))(cl:gM K C)(I:ji K C f)(hl:fs.lookup f=some (.cu (nB l ds)))(h:Θ (fc ds) ds):az G ρ (ir (jN K) (bV (pK K (bZ i) f) cG)) Θ:=λnb σ H Q W z=>by
 show pK K (bZ i) f σ H _;exact FY W e cl I hl λX ⟨xs,hx,hd⟩=>⟨l,xs,rfl, .inl (.of hx),λp hp=>az.fin (f:=false) W (.refl W.aG) hp hd (by rw[sS];exact h) z⟩
def lA(G:Gx)(ρ:Rh)(ta:TA)(Φ:List PyData->Prop):Prop:=∀nb σ H (Q:List V->Hp->Prop),Wd G nb ρ σ H->(∀ds vs H',Φ ds->Step G.B H H'->af (λa=>¬NB G.B a) H' ds vs->Q vs H')->ta σ H Q
theorem lA.nil{Θ:List PyData->Prop}(h:Θ []):lA G ρ cG Θ:=λnb σ H Q W z=>z [] [] H h (.refl W.aG) .nil
theorem lA.cons{Θ:List PyData->Prop}(h:Ev G ρ te λ_ d=>lA G ρ t λds=>Θ (d::ds)):lA G ρ (bV te t) Θ:=λnb σ H Q W z=>
 h nb σ H _ W λf v H1 d k s1 O=>k nb σ H1 _ (W.step s1) λds vs H2 p2 s2 q2=>z _ _ H2 p2 (s1.trans s2) (.cons ((O.av λa y=> .inr (.inr (.inl y))).keep (s2.but λ_ y=>y)) q2)
def lA.fld{Θ:List PyData->Prop}{l:aF}(e:ρ[i]?=some (.cu (cS C x dx fs)))(cl:gM K C)(I:ji K C f)(hl:fs.lookup f=some (.cu (nB l ds)))(h:lA G ρ t λes=>Θ (.list ds::es)):lA G ρ (bV (pK K (bZ i) f) t) Θ:=λnb σ H Q W z=>by
 show pK K (bZ i) f σ H _;exact FY W e cl I hl λX ⟨xs,hx,hd⟩=>h nb σ H _ W λes vs H2 p2 s2 q2=>z _ _ H2 p2 s2 (.cons (.lst (λy=>y (X l (aZ.mpr rfl)).2) (s2.1 _ _ (X l (aZ.mpr rfl)).2 hx) ((hd.av λa y=> .inr (.inr (.inl y))).keep (s2.but λ_ y=>y))) q2)
def Ev.Xt{F:DF}(hm:cW F)(h:lA G ρ t λds=>ds.length=n/\F ds λf d=>(f=true\/jt d=true)/\Φ true d):Ev G ρ (iS (bF n F) [] E0 t) Φ:=λnb σ H Q W z=>
 h nb σ H _ W λds vs H1 ⟨hl,p⟩ s1 O=>by
  have W1:=W.step s1;rw[jg];refine⟨by rw[O.length,hl],λa=>¬NB G.B a,ds,λa y=>NB.oJ W1.aG y,O,hm _ _ _ p λf d ⟨hf,hp⟩ v H' A hd=>z true v H' d hp (s1.trans (.same W1.aG A)) ?_⟩;rcases hf with hf|hf
  .exact hd.av λa y=> .inr ⟨hf,W1.ig (f:=true) a y⟩
  .exact hd.jH hf
def Sv.make{F:CF}(hm:qY F)(h:Av G ρ t λes=>es.length+1=n/\∀x dx,F (cS C x dx []) (es.map (·.2)) λc' _ d=>d= .none/\E.nx (ρ.set i (.cu c'))):Sv G ρ (fV (HS C (jR n F) [] E0 t) (fB i)) E:=λnb σ H D W KK=>
 h nb σ H _ W λes vs H1 ⟨hl,p⟩ s1 O x dx hx w J=>by
  have W1:=W.step s1;have u:dG H1 (upd (upd H1 dx (.own x)) x (.ins C dx [])):=λa o e=>by
   rw[aH (jJ e hx),aH (jJ e w)];exact e
  have g:∀a,G.S nb false a->H1 a≠none:=λa y=>W1.ig a y;have I:af (λa=>G.S nb false a\/a∈[x,dx]) (upd (upd H1 dx (.own x)) x (.ins C dx [])) (es.map (·.2)) vs:=by
   have hq:=O.all (f:=false) λz=>by cases z
   generalize es.map (·.2)=dl at hq;refine af.keep (bP.of u) ?_
   exact lq (P:=λS=>af S H1 dl vs) (λz h=>af.av z h) (λhp h=>af.fresh hp h) (L:=[x,dx]) (λa m=>by
    rcases aY.mp m with m|m
    .rw[m];exact hx
    .rw[aZ.mp m];exact w) hq
  rw[jg];refine⟨by rw[eH,O.len,hl],λa=>G.S nb false a\/a∈[x,dx],cS C x dx [],vs,es.map (·.2),rfl,λa y=>?_,λa m=> .inr m,rfl,?_,I,hm _ _ _ _ (p x dx) λc' f d ⟨b,hp⟩ v H' to R hd=>?_⟩
  .rcases y with y|y
   .cases e:H1 a with
    |none=>exact absurd e (g a y)
    |some o=>rw[u a o e];exact jP _
   .rcases aY.mp y with m|m
    .rw[m,bx];exact jP _
    .rw[aZ.mp m,aH J,bx];exact jP _
  .refine⟨by simp[dQ,bH J],by rw[aH J,bx],⋯,[],bx,rfl⟩
  .subst b;refine⟨hd.xS,?_⟩;have l:∀a∈c'.F,H1 a=none:=λa m=>by
    rcases to.new a m with y|y
    .rcases aY.mp y with m|m
     .rw[m];exact hx
     .rw[aZ.mp m];exact w
    .cases e:H1 a with
     |none=>rfl
     |some o=>rw[u a o e] at y;cases y
   have st:Step G.B H1 H':=by
    have A:dG H1 H':=λa o e=>to.kp a o (λm=>by
     rcases aY.mp m with m|m
     .rw[m,hx] at e;cases e
     .rw[aZ.mp m,w] at e;cases e) (u a o e)
    exact .same W1.aG A
   have:=W1.NU (i:=i) (c:=c') st l to.lv (c'.av (λa y=>?_) R)
   .rw[to.v] at this;exact KK.nx _ _ _ _ hp this
   .rw[to.f] at y;rcases y with y|y
    .exact .inl (.inl y)
    .exact .inr y
theorem iH.tup{Φ:Rh->Pd}(h:Bf G ρ t λJ es=>es.length<=10000/\Φ J (kI es) (.tuple (es.map (·.2)))):iH G ρ (sA t) Φ:=λnb σ H Q W z=>
 h nb σ H _ W λbq J es vs H1 ⟨hl,p⟩ W1 O=>⟨dP (by rw[O.len];exact hl) ⋯,λa ha=>z bq J _ _ _ _ p (W1.step (.same W1.aG (dB ha)))
  (.tup (W1.fresh ha) bx ((O.all λz=>z).keep (bP.of (dB ha))))⟩
end
noncomputable def eV(p:Int)(cs:List aj)(wd:Wo):Nat->List dN
  |0=>[]
  | i + 1 => match fE p (cs.getD i []) 0 wd with
    |some (a,x)=>if a∈(eV p cs wd i).map (·.1) then eV p cs wd i else eV p cs wd i++[(a,(i:Int),x)]
    |none=>eV p cs wd i
theorem qF{p:Int}{cs:List aj}{wd:Wo}:∀i,((eV p cs wd i).map (·.1)).Nodup
  |0=>by simp[eV]
  | i + 1 => by
    unfold eV;split
    · split
      · exact qF i
      · rename_i a x e c
        rw[bS,l9];refine⟨qF i,by simp,λy hy z hz e=>c ?_⟩;simp at hz;rw[<-hz,<-e];exact hy
    · exact qF i
theorem wo{p:Int}{cs:List aj}{wd:Wo}{m:dN}:∀{i},m∈eV p cs wd i->0<=m.2.1/\m.2.1<i/\fE p (cs.getD m.2.1.toNat []) 0 wd=some (m.1,m.2.2)/\∀c:Nat,(c:Int)<m.2.1->∀x,fE p (cs.getD c []) 0 wd≠some (m.1,x)
  |0,h=>by simp[eV] at h
  | i + 1, h => by
    have key:∀{c:Nat},(∃x,fE p (cs.getD c []) 0 wd=some (m.1,x))->c<i->m.1∈(eV p cs wd i).map (·.1):=λ{c} hx hc=>by
      clear h;induction i with
      |zero=>omega
      | succ i ih =>
        unfold eV;by_cases e:c=i
        · subst e
          obtain⟨x,hx⟩:=hx;rw[hx];dsimp only;split;· rename_i h;exact h
          · simp
        · have:=ih ∅
          split
          · split
            · exact this
            · rw[bS];exact jB _ this
          · exact this
    unfold eV at h;split at h
    · rename_i a x e
      split at h;· obtain⟨h1,h2,h3⟩:=wo h;exact⟨h1,∅,h3⟩
      · rename_i c
        rcases dM.mp h with h|h
        · obtain⟨h1,h2,h3⟩:=wo h;exact⟨h1,∅,h3⟩
        · simp at h
          subst h;refine⟨by simp,by simp;omega,by simpa using e,λc' C Y L=>c ?_⟩;exact key ⟨Y,L⟩ (by simpa using C)
    · obtain⟨h1,h2,h3⟩:=wo h;exact⟨h1,∅,h3⟩
theorem PJ{p:Int}{cs:List aj}{wd:Wo}{c:Nat}{a x:Int}(hx:fE p (cs.getD c []) 0 wd=some (a,x)):∀{i},c<i->a∈(eV p cs wd i).map (·.1)
  |0,h=>∅
  | i + 1, h => by
    unfold eV;by_cases e:c=i
    · subst e
      rw[hx];dsimp only;split;· rename_i h;exact h
      · simp
    · have:=PJ hx (i:=i) ∅
      split
      · split
        · exact this
        · rw[bS];exact jB _ this
      · exact this
noncomputable def bL(p:Int)(cs:List aj)(wd:Wo):List dN:=(eV p cs wd cs.length).mergeSort λa b=>decide (a.1<=b.1)
def xM(p:Int)(cs:List aj)(wd:Wo):(bL p cs wd).Perm (eV p cs wd cs.length):=List.mergeSort_perm _ _
theorem Sz(p:Int)(cs:List aj)(wd:Wo):(bL p cs wd).Pairwise λa b=>a.1<b.1:=by
 have h1:(bL p cs wd).Pairwise λa b=>decide (a.1<=b.1)=true:=List.pairwise_mergeSort (λa b c h1 h2=>by simp at h1 h2⊢;omega) (λa b=>by simp;omega) _;have h2:((bL p cs wd).map (·.1)).Nodup:=((xM p cs wd).map _).nodup_iff.mpr (qF _);have h3:(bL p cs wd).Pairwise λa b=>a.1≠b.1:=qW.mp h2;exact(h1.and h3).imp λ⟨a,b⟩=>by simp at a;omega
theorem OG:∀{a b:List dN},(a.Pairwise λx y=>x.1<y.1)->(b.Pairwise λx y=>x.1<y.1)->a.Perm b->a=b
  |[],b,_,_,h=>by rw[List.nil_perm.mp h]
  |x::a,[],_,_,h=>by cases List.perm_nil.mp h
  | x :: a, y :: b, h1, h2, h => by
    obtain⟨W,B⟩:=Ab.mp h1;obtain⟨t,y2⟩:=Ab.mp h2;have e:x=y:=by
      rcases aY.mp (h.mem_iff.mp (cN ..)) with e|e
      · exact e
      rcases aY.mp (h.symm.mem_iff.mp (cN ..)) with e'|e'
      · exact e'.symm
      have:=t x e;have:=W y e';omega
    subst e;rw[OG B y2 h.cons_inv]
theorem Yl{ms:List dN}(h:ms.Perm (eV p cs wd cs.length))(hs:(ms.map (·.1)).Pairwise (· <= ·)):ms=bL p cs wd:=by
 refine OG ?_ (Sz p cs wd) (h.trans (xM p cs wd).symm);have h2:(ms.map (·.1)).Nodup:=(h.map _).nodup_iff.mpr (qF _);exact((qW.mp hs).and (qW.mp h2)).imp λ⟨a,b⟩=>∅
def Sq{m:dN}(h:m∈bL p cs wd):0<=m.2.1/\m.2.1<cs.length/\fE p (cs.getD m.2.1.toNat []) 0 wd=some (m.1,m.2.2)/\∀c:Nat,(c:Int)<m.2.1->∀x,fE p (cs.getD c []) 0 wd≠some (m.1,x):=wo ((xM p cs wd).mem_iff.mp h)
def ZP{c:Nat}{a:Int}(hc:c<cs.length)(h:fE p (cs.getD c []) 0 wd=some (a,x)):∃m∈bL p cs wd,m.1=a:=by
 have:=PJ h hc;obtain⟨m,hm,e⟩:=cL.mp this;exact⟨m,(xM p cs wd).mem_iff.mpr hm,e⟩
def LC(h:bL p cs wd=[]):outs p cs wd=[]:=by
 unfold outs;rw[Je];intro c hc hs;obtain⟨⟨a,x⟩,e⟩:=CI.mp hs;obtain⟨m,hm,_⟩:=ZP (iQ.mp hc) e;rw[h] at hm;cases hm
def Fu{ms:List dN}{a:Int}(h:fE p prs 0 wd=some (a,x))(ha:∀m∈ms,m.1.toNat≠a.toNat)(hl:∀m∈ms,wd[m.1.toNat]?=some none)(h0:∀pr∈prs,0<=pr.1):fE p prs 0 (Aj wd ms)=some (a,x):=by
  have keep:∀{ms:List dN} {wd:Wo} {k:Nat},(∀m∈ms,m.1.toNat≠k)->(Aj wd ms)[k]?=wd[k]?:=λ{ms}=>by
    induction ms with
    |nil=>intro wd k _;rfl
    | cons m r ih =>
      intro wd k hk;show(Aj (wd.set m.1.toNat (some m.2.2)) r)[k]?=_;rw[ih λO hm'=>hk O (cM _ hm'),bI (hk m (cN ..))]
  obtain⟨pr,e1,e2,e3⟩:=Ku h;have same:∀q∈prs,(Aj wd ms)[q.1.toNat]?=wd[q.1.toNat]?:=λq hq=>keep λm hm z=>by
    have g:q∈eG wd prs:=by
      unfold eG;exact fG.mpr ⟨hq,by rw[<-z,hl m hm];rfl⟩
    rw[e1,aZ] at g;exact ha m hm (by rw[z,g,e2])
  have e4:eG (Aj wd ms) prs=eG wd prs:=by
    unfold eG;exact wN λq hq=>by rw[same q hq]
  have e5:aQ prs (Aj wd ms)=aQ prs wd:=by
    unfold aQ
    congr 1
    exact tU λq hq=>by unfold gY;rw[same q hq]
  unfold fE at h⊢;rw[e4,e5];exact h
def tQ(wd:Wo)(a b:List dN):Aj wd (a++b)=Aj (Aj wd a) b:=by unfold Aj;rw[sf]
theorem lV.cat{a b:List dN}(h1:lV p cs wd a)(h2:lV p cs (Aj wd a) b):lV p cs wd (a++b):=λj hj=>by
 by_cases h:j<a.length
 .obtain⟨m,e1,e2⟩:=h1 j h;refine⟨m,by rw[jj h];exact e1,?_⟩;rw[List.take_append_of_le_length ∅];exact e2
 .rw[fk] at hj;obtain⟨m,e1,e2⟩:=h2 (j-a.length) ∅;refine⟨m,by rw[jr ∅];exact e1,?_⟩;rw[List.take_append,vg ∅,tQ];exact e2
theorem vm(hp:0<p){m:dN}(h:m∈bL p cs wd)(h0:∀prs∈cs,∀pr∈prs,0<=pr.1/\pr.1<wd.length):0<=m.1/\m.1<wd.length/\wd[m.1.toNat]?=some none/\0<=m.2.2/\m.2.2<p:=by
 obtain⟨a1,a2,y,_⟩:=Sq h;obtain⟨pr,b1,b2,b3,b4,b5⟩:=CJ hp y;have hc:m.2.1.toNat<cs.length:=∅
 rw[br,aC hc] at b1;have:=h0 _ (cU hc) pr b1;rw[b2] at this;exact⟨this.1,this.2,b3,b4,b5⟩
theorem Pr(hp:0<p)(h0:∀prs∈cs,∀pr∈prs,0<=pr.1/\pr.1<wd.length):lV p cs wd (bL p cs wd):=λj hj=>by
 refine⟨_,aC hj,?_⟩;have hm:(bL p cs wd)[j]∈bL p cs wd:=cU hj;obtain⟨a1,a2,y,_⟩:=Sq hm;obtain⟨b1,b2,b3,b4,b5⟩:=vm hp hm h0;have tk:∀m∈(bL p cs wd).take j,m∈bL p cs wd/\m.1.toNat≠(bL p cs wd)[j].1.toNat:=λm h=>by
  have hm':=pN h;refine⟨hm',λz=>?_⟩;obtain⟨c1,_⟩:=vm hp hm' h0;have hlt:m.1<(bL p cs wd)[j].1:=by
   obtain⟨i,hi,e⟩:=List.mem_take_iff_getElem.mp h;rw[<-e];exact Mu.mp (Sz p cs wd) i j ∅ hj ∅
  omega
 have hc:(bL p cs wd)[j].2.1.toNat<cs.length:=∅
 have G:∀pr∈cs.getD (bL p cs wd)[j].2.1.toNat [],0<=pr.1:=λpr h=>by
  rw[br,aC hc] at h;exact(h0 _ (cU hc) pr h).1
 have:=Fu y (λm h=>(tk m h).2) (λm h=>(vm hp (tk m h).1 h0).2.2.1) G;exact ZJ a1 a2 this
noncomputable def kq(p:Int)(cs:List aj):Nat->Wo->List (List dN)
 |0,_=>[]
 |k+1,wd=>if bL p cs wd=[] then[] else bL p cs wd::kq p cs k (Aj wd (bL p cs wd))
def xY(hp:0<p)(h0:∀prs∈cs,∀pr∈prs,0<=pr.1/\pr.1<wd.length):cnt (Aj wd (bL p cs wd))+(bL p cs wd).length=cnt wd:=by
 have:=Qm hp (Pr hp h0) (bL p cs wd).length (aW _);rwa[c6] at this
theorem PY{p:Int}{cs:List aj}(hp:0<p):∀{k:Nat} {wd:Wo},(∀prs∈cs,∀pr∈prs,0<=pr.1/\pr.1<wd.length)->cnt wd<=k->kq p cs (k+1) wd=kq p cs k wd
  | 0, wd, h0, h => by
    have e:bL p cs wd=[]:=by
      cases e:bL p cs wd with
      |nil=>rfl
      | cons m r =>
        have:=xY hp h0;rw[e] at this;simp at this;omega
    unfold kq;rw[if_pos e];all_goals rfl
  | k + 1, wd, h0, h => by
    rw[kq]
    conv=>rhs;rw[kq]
    by_cases e:bL p cs wd=[];· rw[if_pos e,if_pos e]
    · rw[if_neg e,if_neg e]
      congr 1
      have:=xY hp h0;have hl:0<(bL p cs wd).length:=zb.mpr e;exact PY hp (λprs hp pr hr=>by rw[oB];exact h0 prs hp pr hr) ∅
noncomputable def iR(p:Int)(cs:List aj)(wd:Wo):List (List dN):=kq p cs (cnt wd) wd
theorem Qb(hp:0<p){wd:Wo}(h0:∀prs∈cs,∀pr∈prs,0<=pr.1/\pr.1<wd.length):∀{k:Nat},cnt wd<=k->kq p cs k wd=iR p cs wd:=λ{k} h=>by
 obtain⟨j,rfl⟩:∃j,k=cnt wd+j:=⟨k-cnt wd,∅⟩;clear h;induction j with
 |zero=>rfl
 |succ j ih=>rw[<-Nat.add_assoc,PY hp h0 ∅,ih]
def DA(h:bL p cs wd=[]):iR p cs wd=[]:=by
 unfold iR;cases cnt wd with
 |zero=>rfl
 |succ k=>rw[kq,if_pos h]
theorem yY(hp:0<p)(h0:∀prs∈cs,∀pr∈prs,0<=pr.1/\pr.1<wd.length)(h:bL p cs wd≠[]):iR p cs wd=bL p cs wd::iR p cs (Aj wd (bL p cs wd)):=by
 have hc:=xY hp h0;have hl:0<(bL p cs wd).length:=zb.mpr h;obtain⟨k,hk⟩:∃k,cnt wd=k+1:=⟨cnt wd-1,∅⟩;have e:iR p cs wd=kq p cs (k+1) wd:=by unfold iR;rw[hk]
 rw[e,kq,if_neg h,Qb hp (λprs hp pr hr=>by rw[oB];exact h0 prs hp pr hr) ∅]
theorem N8{p:Int}{cs:List aj}(hp:0<p):∀{k:Nat} {wd:Wo},(∀prs∈cs,∀pr∈prs,0<=pr.1/\pr.1<wd.length)->cnt wd<=k->lV p cs wd (iR p cs wd).flatten/\bL p cs (Aj wd (iR p cs wd).flatten)=[]/\∀r∈iR p cs wd,r≠[]
  | k, wd, h0, hk => by
    by_cases e:bL p cs wd=[]
    · rw[DA e]
      exact⟨λj hj=>by simp at hj,e,λr hr=>by cases hr⟩
    · have hl:0<(bL p cs wd).length:=zb.mpr e
      have hc:=xY hp h0;rw[yY hp h0 e];obtain⟨k,rfl⟩:∃k',k=k'+1:=⟨k-1,∅⟩;obtain⟨B,A,l⟩:=N8 hp (k:=k) (wd:=Aj wd (bL p cs wd)) (λprs hp pr hr=>by rw[oB];exact h0 prs hp pr hr) ∅;refine⟨(Pr hp h0).cat B,?_,λr hr=>?_⟩
      · show bL p cs (Aj wd (bL p cs wd++_))=[]
        rw[tQ];exact A
      · rcases aY.mp hr with z|z
        · rw[z];exact e
        · exact l r z
noncomputable def iC(p:Int)(cs:List aj)(wd:Wo):Wo:=Aj wd (iR p cs wd).flatten
def yP(hp:0<p)(h0:∀prs∈cs,∀pr∈prs,0<=pr.1/\pr.1<wd.length):lV p cs wd (iR p cs wd).flatten/\bL p cs (iC p cs wd)=[]/\(∀r∈iR p cs wd,r≠[])/\outs p cs (iC p cs wd)=[]/\(iC p cs wd).length=wd.length:=by
 obtain⟨h1,h2,h3⟩:=N8 hp h0 (aW _);exact⟨h1,h2,h3,LC h2,oB⟩
def Jb(h:bL p cs wd=[]):iC p cs wd=wd:=by unfold iC;rw[DA h];rfl
def Xv(hp:0<p)(h0:∀prs∈cs,∀pr∈prs,0<=pr.1/\pr.1<wd.length)(h:bL p cs wd≠[]):iC p cs wd=iC p cs (Aj wd (bL p cs wd)):=by
 unfold iC;rw[yY hp h0 h];exact tQ _ _ _
noncomputable abbrev lG(r:List dN):PyData:= .list (r.map zB)
noncomputable def lO(nd:PyData)(l:aF)(wd:Wo):Fs:=[("net", .d nd),("letters", .cu (nB l (wd.map cT)))]
noncomputable abbrev kM(m:dN):Int×PyData:=(m.1,zB m)
def Kl(ms:List dN):(ms.map kM).map (·.1)=ms.map (·.1):=by rw[j7];rfl
theorem QG:∀{ms:List dN} {m:dN},(ms.map (·.1)).Nodup->m∈ms->iV (ms.map kM) m.1=some (zB m)
  | x :: r, m, nd, h => by
    rw[bG,rm];rw[bG,jn] at nd;rcases aY.mp h with e|e
    · subst e;rw[if_pos rfl]
    · rw[if_neg (λz=>nd.1 (by rw[show x.1=m.1 from z];exact uI e)),QG nd.2 e]
theorem NK(hp:0<p)(h0:∀prs∈cs,∀pr∈prs,0<=pr.1/\pr.1<wd.length):∀{i},i<=cs.length->(eV p cs wd i).length<=wd.length:=λ{i} hi=>by
 have nd:=qF (p:=p) (cs:=cs) (wd:=wd) i;have:=BK (m:=wd.length) nd λk hk=>by
  obtain⟨m,hm,e⟩:=cL.mp hk;obtain⟨a1,a2,y,_⟩:=wo hm;obtain⟨pr,b1,b2,_⟩:=CJ hp y;have hc:m.2.1.toNat<cs.length:=∅
  rw[br,aC hc] at b1;have:=h0 _ (cU hc) pr b1;omega
 rw[ao] at this;omega
def jW.rg(h:jW p cs m):∀prs∈cs,∀pr∈prs,0<=pr.1/\pr.1<m:=λprs hp pr hr=>⟨((h.2.2.2 prs hp).2.1 pr hr).1,((h.2.2.2 prs hp).2.1 pr hr).2.1⟩
theorem CQ(hN:jW p cs wd.length)(hW:kE wd):kE (Aj wd (bL p cs wd)):=by
  have key:∀{ms:List dN} {wd:Wo},kE wd->(∀m∈ms,Sm m.2.2)->kE (Aj wd ms):=λ{ms}=>by
    induction ms with
    |nil=>intro wd h _;exact h
    | cons m r ih =>
      intro wd h hm;refine ih (wd:=wd.set m.1.toNat (some m.2.2)) (λx hx=>?_) λO h'=>hm O (cM _ h');rcases nZ hx with z|z
      · exact h x z
      · cases z;exact hm m (cN ..)
  have p2:=hN.1.1;have iE:=hN.2.1;refine key hW λm hm=>?_;obtain⟨_,_,_,b4,b5⟩:=vm ∅ hm hN.rg;unfold Sm;omega
def E1(wd:Wo):fc (wd.map cT)=true:=by
 unfold fc;rw[g6];intro x hx;obtain⟨o,_,rfl⟩:=cL.mp hx;cases o<;>rfl
def ZL(nd:PyData)(l:aF)(wd pH:Wo):gn "letters" (.cu (nB l (pH.map cT))) (lO nd l wd)=lO nd l pH:=by
 unfold lO gn;rw[if_neg (by decide+kernel)];unfold gn;rw[if_pos rfl]
theorem Mi{p:Int}{cs:List aj}:∀{k:Nat} {wd:Wo},(kq p cs k wd).length<=k
  |0,wd=>by simp[kq]
  | k + 1, wd => by
    rw[kq];split;· simp
    · simp[Mi]
def Wp:(iR p cs wd).length<=wd.length:=dP Mi (HR wd)
def SN(ms:List dN):cH (lG ms)=true:=WX ms
def Uc(ms:List dN):du (lG ms) (.list [])=decide (ms=[]):=by
 have:=XB ms;rw[rZ] at this;exact this
theorem lX:x∈fU wd↔0<=x/\wd[x.toNat]?=some none:=by
 unfold fU;rw[cL];constructor
 .rintro⟨i,hi,rfl⟩;obtain⟨h1,h2⟩:=fG.mp hi;exact⟨∅,by simpa using h2⟩
 .rintro⟨h0,h1⟩;refine⟨x.toNat,fG.mpr ⟨iQ.mpr (aO.mp h1).1,by simpa using h1⟩,∅⟩
theorem JL(wd:Wo):(fU wd).Pairwise (· < ·):=by
 unfold fU;exact qW.mpr ((AS.filter _).imp λh=>∅)
def CY(wd:Wo):(fU wd).length<=wd.length:=by
 unfold fU;rw[ao];exact dP (oN _ _) (by simp)
def LU(h0:∀pr∈prs,0<=pr.1):cE (fU wd) prs=(eG wd prs).length:=by
 unfold cE eG;rw[wN λpr G=>?_];rw[jS];simp only[decide_eq_true_eq,beq_iff_eq];rw[lX];exact⟨λh=>h.2,λh=>⟨h0 pr G,h⟩⟩
theorem PX{p:Int}{cs:List aj}{wd:Wo}{ms:List dN}(h1:lV p cs wd ms)(h0:∀prs∈cs,∀pr∈prs,0<=pr.1){T:List Int}(hT:∀x∈T,x∈fU wd)(ho:gp cs T=true):∀j,j<=ms.length->∀x∈T,x∈fU (Aj wd (ms.take j))
  |0,_=>by simpa[Aj] using hT
  | j + 1, hj => by
    have ih:=PX h1 h0 hT ho j ∅;obtain⟨m,e1,e2⟩:=h1 j ∅;obtain⟨c0,c1,e3⟩:=Co e2;have hc:m.2.1.toNat<cs.length:=∅
    rw[br,aC hc] at e3;obtain⟨pr,e4,e5,d⟩:=Ku e3;have gv:=cU hc;have a:pr∈cs[m.2.1.toNat]:=(zJ (wd:=Aj wd (ms.take j)) (by show pr∈eG _ cs[m.2.1.toNat];rw[show eG (Aj wd (ms.take j)) cs[m.2.1.toNat]=[pr] from e4];simp)).1;have k:cE (fU (Aj wd (ms.take j))) cs[m.2.1.toNat]=1:=by
      rw[LU (h0 _ gv),show eG (Aj wd (ms.take j)) cs[m.2.1.toNat]=[pr] from e4];rfl
    intro x hx;have oH:=ih x hx;rw[Ai e1,tQ];show x∈fU ((Aj wd (ms.take j)).set m.1.toNat (some m.2.2));rw[lX] at oH⊢;refine⟨oH.1,?_⟩;rw[bI];· exact oH.2
    · intro z
      have vM:x=pr.1:=by have:=h0 _ gv pr a;omega
      have a1:=FO ih cs[m.2.1.toNat];have a2:=xN hx (cL.mpr ⟨pr,a,vM.symm⟩);unfold gp at ho;rw[g6] at ho;exact of_decide_eq_true (ho _ gv) ∅
def GA(hp:0<p)(h0:∀prs∈cs,∀pr∈prs,0<=pr.1/\pr.1<wd.length):l6 cs (fU wd) (fU (iC p cs wd)):=by
 obtain⟨h1,h2,h3,h4,h5⟩:=yP hp h0;refine⟨⟨λx=>decide (x∈fU (iC p cs wd)),?_⟩,?_,λT hT ho=>?_⟩
 .refine J3 (JL _) ((JL wd).filter _) λk=>?_;rw[fG];refine⟨λh=>⟨?_,decide_eq_true h⟩,λh=>of_decide_eq_true h.2⟩;rw[lX] at h⊢;exact⟨h.1,T3 h.2⟩
 .unfold gp;rw[g6];intro prs bh;refine decide_eq_true λz=>?_;rw[LU λpr G=>(h0 prs bh pr G).1] at z;obtain⟨pr,e⟩:=JJ.mp z;obtain⟨c,hc,e2⟩:=List.getElem_of_mem bh;have h6:=Ya h4 hc;rw[br,aC hc] at h6;have h7:=aa3 (p:=p) (wd:=iC p cs wd) (prs:=cs[c]) (pr:=pr) (by rw[e2];exact e);simp only[Option.getD_some] at h6;rw[h7] at h6;cases h6
 .have:=PX h1 (λprs hp pr hr=>(h0 prs hp pr hr).1) hT ho _ (aW _);rw[c6] at this;exact this
def RK{aB g g':List Int}(hl:aB.Pairwise (· < ·))(h:l6 cs aB g)(h':l6 cs aB g'):g=g':=
 J3 (h.up hl) (h'.up hl) λk=>⟨λz=>h'.max g h.mem h.out k z,λz=>h.max g' h'.mem h'.out k z⟩
theorem NH{p:Int}{cs:List aj}{wd:Wo}{ms:List dN}(hp:0<p)(h1:lV p cs wd ms)(h2:∀(i:Nat) x,wd[i]?=some (some x)->0<=x/\x<p):∀j,j<=ms.length->(∀(i:Nat) x,wd[i]?=some (some x)->(Aj wd (ms.take j))[i]?=some (some x))/\∀(i:Nat) x,(Aj wd (ms.take j))[i]?=some (some x)->0<=x/\x<p
  |0,_=>⟨by intro i x h;simpa[Aj] using h,by intro i x h;exact h2 i x (by simpa[Aj] using h)⟩
  | j + 1, hj => by
    obtain⟨B,A⟩:=NH hp h1 h2 j ∅;obtain⟨m,e1,e2⟩:=h1 j ∅;obtain⟨c0,c1,e3⟩:=Co e2;obtain⟨pr,b1,b2,b3,b4,b5⟩:=CJ hp e3;rw[Ai e1,tQ];show(∀(i:Nat) x,_->((Aj wd (ms.take j)).set m.1.toNat (some m.2.2))[i]?=_)/\∀(i:Nat) x,((Aj wd (ms.take j)).set m.1.toNat (some m.2.2))[i]?=_->_;refine⟨λi x hx=>?_,λi x hx=>?_⟩
    · have:=B i x hx
      rw[bI];· exact this
      · intro z;rw[<-z,b3] at this;cases this
    · by_cases z:m.1.toNat=i
      · subst z
        rw[cI (aO.mp b3).1] at hx;cases hx;exact⟨b4,b5⟩
      · rw[bI z] at hx
        exact A i x hx
def UL(hp:0<p)(h0:∀prs∈cs,∀pr∈prs,0<=pr.1/\pr.1<wd.length)(h2:∀(i:Nat) x,wd[i]?=some (some x)->0<=x/\x<p):(∀(i:Nat) x,wd[i]?=some (some x)->(iC p cs wd)[i]?=some (some x))/\∀(i:Nat) x,(iC p cs wd)[i]?=some (some x)->0<=x/\x<p:=by
 have:=NH hp (yP hp h0).1 h2 _ (aW _);rw[c6] at this;exact this
theorem HP{os:List Int}(hN:jW p cs wd.length)(hl:wd.length=os.length)(B:∀x∈os,0<=x/\x<p)(ht:∀prs∈cs,aQ prs (os.map some)%p=0)(ha:Agree os wd):Agree os (iC p cs wd):=by
 have p2:=hN.1.1;have:=Pk hN hl B ht ha (yP ∅ hN.rg).1 _ (aW _);rw[c6] at this;exact this
theorem Fk{a b:Int}(hp:gc p)(h:p∣a*b):p∣a\/p∣b:=by
 by_cases ha:p∣a;·exact .inl ha
 .right
  have hg:kd p a=1:=by
   have d1:(kd p a:Int)∣p:=oW ..;have d2:(kd p a:Int)∣a:=n4 ..;have h0:0<(kd p a:Int):=by
    have:kd p a≠0:=λz=>by have:=(Sj.mp z).1;have:=hp.1;omega
    omega
   rcases hp.2 _ h0 d1 with e|e
   .exact_mod_cast e
   .rw[e] at d2;exact absurd d2 ha
  have h':p.natAbs∣a.natAbs*b.natAbs:=by rw[<-Ka];exact BV.mpr h
  have c:kb p.natAbs a.natAbs:=hg;exact BV.mp (c.dvd_of_dvd_mul_left h')
noncomputable def gW(w:List Int)(i:Nat):Int:=w.getD i 0
def VZ{w:List Int}(h:pr.1.toNat<w.length):gY (w.map some) pr=pr.2*gW w pr.1.toNat:=by
 unfold gW;rw[br,aC h];exact sj (aC h)
theorem Iu{w:List Int}:∀{prs:aj},(∀pr∈prs,pr.1.toNat<w.length)->aQ prs (w.map some)=(prs.map λpr=>pr.2*gW w pr.1.toNat).sum
  |[],_=>rfl
  | pr :: r, h => by
    rw[pW,VZ (h pr (cN ..)),Iu λq hq=>h q (cM _ hq),bG,lB]
noncomputable def jG(w1 w2:List Int):List Int:=((aL w1.length).filter λi=>decide (gW w1 i≠gW w2 i)).map λ(i:Nat)=>(i:Int)
theorem uc{w1 w2:List Int}:x∈jG w1 w2↔0<=x/\x<w1.length/\gW w1 x.toNat≠gW w2 x.toNat:=by
 unfold jG;rw[cL];constructor
 .rintro⟨i,hi,rfl⟩;obtain⟨h1,h2⟩:=fG.mp hi;have:=iQ.mp h1;exact⟨∅,∅,by simpa using h2⟩
 .rintro⟨h0,h1,h2⟩;exact⟨x.toNat,fG.mpr ⟨iQ.mpr ∅,by simpa using h2⟩,∅⟩
theorem TR(w1 w2:List Int):(jG w1 w2).Pairwise (· < ·):=by
 unfold jG;exact qW.mpr ((AS.filter _).imp λh=>∅)
theorem OP{w1 w2:List Int}:∀{prs:aj},(∀pr∈prs,0<=pr.1/\pr.1<w1.length)->(prs.map λpr=>pr.2*gW w1 pr.1.toNat).sum-(prs.map λpr=>pr.2*gW w2 pr.1.toNat).sum=((prs.filter λpr=>decide (pr.1∈jG w1 w2)).map λpr=>pr.2*(gW w1 pr.1.toNat-gW w2 pr.1.toNat)).sum
  |[],_=>rfl
  | pr :: r, h => by
    have ih:=OP (w1:=w1) (w2:=w2) λq hq=>h q (cM pr hq);obtain⟨h0,h1⟩:=h pr (cN ..);rw[bG,bG,lB,lB,kN];by_cases c:pr.1∈jG w1 w2;· rw[if_pos (by simpa using c),bG,lB,<-ih,kG];omega
    · rw[if_neg (by simpa using c),<-ih]
      have:gW w1 pr.1.toNat=gW w2 pr.1.toNat:=jl λz=>c (uc.mpr ⟨h0,h1,z⟩);rw[this];omega
theorem Fn{w1 w2:List Int}(hp:gc p)(hl:w2.length=w1.length)(h1:∀x∈w1,0<=x/\x<p)(h2:∀x∈w2,0<=x/\x<p)(hok:∀prs∈cs,∀pr∈prs,0<=pr.1/\pr.1<w1.length/\1<=pr.2/\pr.2<p)
  (U:∀prs∈cs,aQ prs (w1.map some)%p=0) (N:∀prs∈cs,aQ prs (w2.map some)%p=0):gp cs (jG w1 w2)=true:=by
 unfold gp;rw[g6];intro prs bh;refine decide_eq_true λz=>?_;unfold cE at z;obtain⟨pr,e⟩:=JJ.mp z;have eY:pr∈prs.filter λpr=>decide (pr.1∈jG w1 w2):=by rw[e];exact aZ.mpr rfl
 obtain⟨hm,hu⟩:=fG.mp eY;obtain⟨a,u1,u2⟩:=uc.mp (of_decide_eq_true hu);obtain⟨a0,a1,a2,y⟩:=hok prs bh pr hm;have d1:=Az (U prs bh);have d2:=Az (N prs bh);rw[Iu λq hq=>by have:=hok prs bh q hq;omega] at d1;rw[Iu λq hq=>by have:=hok prs bh q hq;omega] at d2;have d3:=Hh d1 d2;rw[OP λq hq=>by have:=hok prs bh q hq;omega,e,FJ,List.sum_singleton] at d3;have g1:0<=gW w1 pr.1.toNat/\gW w1 pr.1.toNat<p:=by
  unfold gW;rw[br,aC ∅];exact h1 _ (cU _)
 have g2:0<=gW w2 pr.1.toNat/\gW w2 pr.1.toNat<p:=by
  unfold gW;rw[br,aC ∅];exact h2 _ (cU _)
 rcases Fk hp d3 with d|d
 .exact absurd (uj ∅ d) ∅
 .generalize gW w1 pr.1.toNat=A at*;generalize gW w2 pr.1.toNat=B at*;obtain⟨k,hk⟩:=d;rcases AJ k 0 with c|c|c
  .have:p*k<=p*(-1):=oA ∅ ∅;omega
  .subst c;omega
  .have:p*1<=p*k:=oA ∅ ∅;omega
theorem Xh(h:∀prs∈cs,prs.length<=m)(hm:cs.length*m<=9000):tot cs<=9000:=by
  have:tot cs<=cs.length*m:=by
    clear hm;induction cs with
    |nil=>simp[tot]
    | cons a r ih =>
      have h1:=ih λprs hp=>h prs (cM _ hp);have h2:=h a (cN ..);have:tot (a::r)=a.length+tot r:=by simp[tot]
      rw[this,eH,u3];omega
  omega
inductive Oi where
 |own (b:aF)|dat (x:PyData)
inductive OO where
 |lst (xs:List Oi)|tup (xs:List Oi)|bK (ks:List (Int×Oi))
noncomputable abbrev YP:=List (aF×OO)
section
variable{p n m:Int}{c1 c2 cs:List aj}{u w:List Int}
theorem Zf(a:IT p n cs)(hl:ws.length=n.toNat)(hw:∀x∈ws,0<=x/\x<p)(h:brk p cs ws=0):wO p cs ws n.toNat=[]:=by
  have hb:=List.countP_eq_zero.mp h;refine List.flatMap_eq_nil_iff.mpr λi hi=>?_;have hi:=iQ.mp hi;unfold Ng;have b:AD (wg p cs ws (i:Int)) (ws.getD i 0)=[]:=by
    cases e:AD (wg p cs ws (i:Int)) (ws.getD i 0) with
    |nil=>rfl
    | cons x r =>
      exfalso;have hx:x∈AD (wg p cs ws (i:Int)) (ws.getD i 0):=by rw[e];exact cN
      have MG:=fG.mp (pN hx);have hg:=MG.2;unfold OU at hg;rw[fQ,decide_eq_true_eq] at hg;refine hg.1 ?_;have hm:=MG.1;unfold wg at hm;obtain⟨q,hq,rfl⟩:=cL.mp hm;obtain⟨c,prs,f,hc,_,_,rfl⟩:=Yj (aW _) hq;have hz:=hb prs (bC hc);have hz:aQ prs (ws.map some)%p=0:=by simpa using hz
      show(ws.getD (i:Int).toNat 0-aQ (cs.getD (c:Int).toNat []) (ws.map some)%p*sol p f 1)%p=_;rw[jw,jw,show cs.getD c []=prs by rw[br,hc];rfl,hz,kC,tY];have:=hw (ws.getD i 0) (by rw[br,aC ∅];exact cU _);exact kX this.1 this.2
  rw[b];rfl
inductive Way(p:Int)(cs:List aj)(n k:Nat)(ws:List Int):Prop
 |held (hb:brk p cs ws=0) (ht:wO p cs ws n=[])
 |rest (hb:brk p cs ws≠0) (ht:wO p cs ws n=[])
 |on (hb:brk p cs ws≠0) (ht:wO p cs ws n≠[])
def way(a:IT p n cs){ws:List Int}(hl:ws.length=n.toNat)(hw:∀x∈ws,0<=x/\x<p)(k:Nat):Way p cs n.toNat k ws:=by
 by_cases h1:brk p cs ws=0;·exact .held h1 (Zf a hl hw h1)
 by_cases h2:wO p cs ws n.toNat=[];·exact .rest h1 h2
 .exact .on h1 h2
end
def Hc(cs:List aj):Prop:=cs.Pairwise λa b=>∀x y:Int,x≠y->x∈a.map (·.1)->y∈a.map (·.1)->x∈b.map (·.1)->y∈b.map (·.1)->False
structure Wv(p n:Int)(cs:List aj)(ws:List Int):Prop where
 v:IT p n cs
 a:Hc cs
 t:∀prs∈cs,aQ prs (ws.map some)%p=0
 l:ws.length=n.toNat
 r:∀x∈ws,0<=x/\x<p
section
variable{p n:Int}{cs:List aj}{ws xs O:List Int}{i:Nat}
theorem wr(h:Wv p n cs ws)(hi:i<n.toNat):0<=ws.getD i 0/\ws.getD i 0<p:=by
 have:=h.l;exact h.r _ (by rw[br,aC ∅];exact cU _)
end
section
variable{p n:Int}{d:Nat}{cs:List aj}{ws L:List Int}
def only(cs:List aj)(L:List Int)(x:Int)(c:Nat):Prop:=((cs.getD c []).filter λpr=>decide (pr.1∈L)).map (·.1)=[x]
end
section
variable{prog:bc}{w:cx}{A:c3}{E:ag->aw->Prop}{h:eo}{g:Array mf}{d:Drawn}{t:Nat}{os:OsState}{a:aF}{o:Obj}{K:PySem.W.Frag}
 {nm q:Str} {C N:aF} {bs bm:List ag} {hdct:Bool} {sn:List Str} {sub:List ag} {ab:Bool} {col:Option Bool} {dd:Option aF} {k0 k1 k2 k3 k5:Option ag} {newId:String}
end
end L2
namespace L2
open PySem PySem.Spec PyProof.Rows PySem.NumText
noncomputable abbrev nS(n:Int):Str:=fI (toString n)
end L2
namespace L2
inductive Su where
 |lt (a b:Int)|ck (prs:aj) (r:Int)
noncomputable abbrev Uv:=List (Int×Su)
structure Pc where
 wd:Wo
 wh:Int->Option PyData
structure ahA(L:YP)(o o1 o2:aF)(m:Int)(ns gs:List Int):Prop where
 nd:[o,o1,o2].Nodup
 h0:L.lookup o=some (.lst [.dat (.int m), .own o1, .own o2])
 h1:L.lookup o1=some (.lst (ns.map λn=> .dat (.int n)))
 h2:L.lookup o2=some (.lst (gs.map λn=> .dat (.int n)))
variable{p n many:Int}{es:Uv}
end L2
namespace L2
end L2
namespace K48
open PySem L2
local macro_rules
 |`(#[0,$a,$b])=>do let hR:=eA `hr;`(@aS _ _ _ _ _ _ _ _ _ _ $a (($hR).mono (by decide)) $b (by rfl) (by decide) (by rfl) (by rfl))
 |`(#[1,$a])=>`(aK (i:=0) $a rfl (be rfl))
 |`(#[2,$a])=>`(@aa _ _ _ _ _ $a ak rfl)
 |`(#[3,$a,$b,$c])=>`(@aA _ _ _ _ _ $a (@aA _ _ _ _ _ $b (@aI _ _ _ (@bf _ _ _ _ $c))))
 |`(#[4,$a,$b])=>do let kK:=eA `K;`(@cB _ _ _ _ _ _ _ _ (fZ $kK) gQ rfl $a gH $b (by decide) (by decide) (by rfl) (by rfl))
 |`(#[5,$a])=>`(@aI _ _ _ (@bf _ _ _ _ $a))
 |`(#[6,$a])=>`(@aa _ _ _ _ _ (pv 0) (@aa _ _ _ _ _ $a ak rfl) rfl)
 |`(#[7,$a,$b,$c])=>`(@aa _ _ _ _ _ (dY (cz.of $a) $b $c) ak rfl)
 |`(#[8,$a,$b])=>do let kK:=eA `K;`(@gV _ ($kK) _ _ _ (2) _ rfl rfl (@bW _ _ _ _ _ $a (@bW _ _ _ _ _ $b gC (by rfl)) (by rfl)) (by rfl) (by rfl))
 |`(#[9,$a])=>`(@dJ _ _ _ _ _ _ _ _ $a (@aI _ _ _ (@bf _ _ _ _ jy)) dO)
 |`(#[10,$a,$b,$c])=>`(@aA _ _ _ _ _ $a (@aA _ _ _ _ _ $b $c))
 |`(#[11,$a,$b,$c])=>`(@gX _ _ _ _ _ _ _ _ fF rfl $a $b (@aI _ _ _ $c) (by intro _;rfl))
 |`(#[12])=>do let kK:=eA `K;`(@aD _ _ _ _ _ _ (bJ $kK) bU (pv 0) au (λ_ _=>rfl))
 |`(#[13,$a])=>`(@bB _ _ _ _ _ _ _ _ fX $a au (bu _))
 |`(#[14,$a])=>do let kK:=eA `K;`(@kP _ _ _ _ (@iK _ ($kK) _ _ rfl $a (λ_=>rfl)))
 |`(#[15,$a,$b])=>`(@aX _ _ (2) _ _ _ _ $a rfl (be rfl) $b (by rfl) (by first|exact .inl rfl|exact .inr rfl|assumption))
 |`(#[16,$a,$b])=>`(@aa _ _ _ _ _ $a (@aa _ _ _ _ _ $b ak rfl) rfl)
 |`(#[17,$a,$b])=>do let kK:=eA `K;`(@cB _ _ _ _ _ _ _ _ (jF $kK) k9 rfl $a kg $b (by decide) (by decide) (by rfl) (by rfl))
 |`(#[18,$a,$b])=>do let kK:=eA `K;`(@j6 _ _ _ _ _ _ _ _ (jN $kK) mO rfl $a jD $b (by decide) (by decide) (by rfl) (by rfl))
 |`(#[19,$a])=>`(@aa _ _ _ _ _ (pv 1) (@aa _ _ _ _ _ $a ak rfl) rfl)
 |`(#[20,$a,$b,$c])=>`(@gF _ _ _ _ _ _ $a (jv $b $c set_list) (by rfl) (by rfl) (by rfl))
 |`(#[21,$a,$b,$c,$d,$e])=>`(@aA _ _ _ _ _ $a (@aA _ _ _ _ _ $b (@aA _ _ _ _ _ $c (@aA _ _ _ _ _ $d $e))))
 |`(#[22,$a,$b])=>`(@aX _ _ (3) _ _ _ _ $a rfl (be rfl) $b (by rfl) (by first|exact .inl rfl|exact .inr rfl|assumption))
 |`(#[23,$a,$b])=>`(@aX _ _ (1) _ _ _ _ $a rfl (be rfl) $b (by rfl) (by first|exact .inl rfl|exact .inr rfl|assumption))
 |`(#[24,$a])=>do let hR:=eA `hr;`(@aS _ _ _ _ _ _ _ _ _ _ $a (($hR).mono (by decide)) (@aa _ _ _ _ _ (pv 0) ak rfl) (by rfl) (by decide) (by rfl) (by rfl))
 |`(#[25,$a,$b])=>do let kK:=eA `K;`(@cB _ _ _ _ _ _ _ _ (mH $kK) (pZ rfl) rfl $a oY $b (by decide) (by decide) (by rfl) (by rfl))
 |`(#[26,$a,$b])=>`(@aX _ _ (7) _ _ _ _ $a rfl (be rfl) $b (by rfl) (by first|exact .inl rfl|exact .inr rfl|assumption))
 |`(#[27,$a,$b])=>`(@aX _ _ (5) _ _ _ _ $a rfl (be rfl) $b (by rfl) (by first|exact .inl rfl|exact .inr rfl|assumption))
 |`(#[28,$a,$b])=>`(@aX _ _ (4) _ _ _ _ $a rfl (be rfl) $b (by rfl) (by first|exact .inl rfl|exact .inr rfl|assumption))
 |`(#[29,$a,$b])=>`(@aX _ _ (6) _ _ _ _ $a rfl (be rfl) $b (by rfl) (by first|exact .inl rfl|exact .inr rfl|assumption))
 |`(#[30,$a])=>do let hR:=eA `hr;`(@aS _ _ _ _ _ _ _ _ _ _ $a (($hR).mono (by decide)) (@aa _ _ _ _ _ (pv 0) (@aa _ _ _ _ _ au ak rfl) rfl) (by rfl) (by decide) (by rfl) (by rfl))
noncomputable def top(i:Nat):eQ:=PySem.Challenge.pw_fewchecks_k48_whole_rounds_lots_and_fact.main.body.getD i (.Pass ⟨0,0,0,0⟩)
noncomputable abbrev Hl:eQ:=top 2
noncomputable abbrev DN:eQ:=top 3
noncomputable abbrev C5:eQ:=top 4
noncomputable abbrev AQ:eQ:=top 6
noncomputable abbrev B7:eQ:=top 7
noncomputable abbrev Kc:eQ:=top 9
noncomputable abbrev Jk:eQ:=top 10
noncomputable abbrev Dr:eQ:=top 11
noncomputable abbrev Ah:eQ:=top 12
noncomputable abbrev yu:eQ:=top 13
noncomputable abbrev yr:eQ:=top 14
noncomputable abbrev Di:eQ:=top 15
noncomputable abbrev yt:eQ:=top 16
noncomputable abbrev HK:eQ:=top 18
noncomputable abbrev Dl:eQ:=top 19
noncomputable abbrev rR:eQ:=top 20
noncomputable abbrev xC:eQ:=top 21
noncomputable abbrev Jg:eQ:=top 23
noncomputable abbrev Cv:eQ:=top 24
noncomputable abbrev Ck:eQ:=top 25
noncomputable abbrev BS:eQ:=top 26
noncomputable abbrev Ja:eQ:=top 28
noncomputable abbrev yO:eQ:=top 30
noncomputable abbrev Ef:eQ:=top 31
noncomputable abbrev DS:eQ:=top 32
noncomputable abbrev BX:eQ:=top 33
noncomputable abbrev D8:eQ:=top 34
noncomputable abbrev Hz:eQ:=top 35
noncomputable abbrev zP:eQ:=top 36
noncomputable abbrev vj:eQ:=top 37
noncomputable abbrev xu:eQ:=top 38
noncomputable abbrev v7:eQ:=top 39
noncomputable abbrev Cb:eQ:=top 40
noncomputable abbrev zH:eQ:=top 41
noncomputable abbrev G4:eQ:=top 42
noncomputable abbrev yW:eQ:=top 43
noncomputable abbrev C6:eQ:=top 44
noncomputable abbrev xU:eQ:=top 45
noncomputable abbrev JF:eQ:=top 46
noncomputable abbrev Au:eQ:=top 47
noncomputable abbrev ue:eQ:=top 48
noncomputable abbrev BO:eQ:=top 49
noncomputable abbrev uL:eQ:=top 50
noncomputable abbrev zC:eQ:=top 51
noncomputable abbrev vf:eQ:=top 52
noncomputable abbrev kY:eQ:=top 53
noncomputable abbrev tD:eQ:=inClass (top 27) 0
noncomputable abbrev ux:eQ:=inClass (top 27) 1
noncomputable abbrev tR:eQ:=inClass (top 27) 2
noncomputable abbrev sQ:eQ:=inClass (top 27) 5
abbrev Ur:Prop:=∀{l:PySem.W.OpenLaw} {w:cx} {K:PySem.W.Frag} {h:eo} {mg:Str->Option ag} {fa:aF} {f0 f1 f2 f3 f4 f5 f6 f7 f8 f9 Mq HV pD pU pS LZ Qf Q3 Qp Qa Rm P1 O5 OB Qd Mr KN ND S3 Rr Nh Rv f32 Rq QD L3 OH LY QK Pu MV Nz O3 RM NY zo tS tP uF tF:aF} (X:K.In h) (G:h.Ns ba mg) (MN:mg "law"=some (.ref fa))
  {Lz G6:Option aF} {Nk:Array (Option ag)} {LS EI Fc II zL DB:ag} {RB Nc:Option aF} {M1:Array (Option ag)} {KG Sg M8 MY FN MJ:ag} {OZ O7:Option aF} {KU:Array (Option ag)} {KQ SE KO Pn Jf K1:ag} {Pg QN:Option aF} {SV:Array (Option ag)} {Mm KH Py N3 Fj QV:ag} {MT Ti:Option aF} {Ms:Array (Option ag)} {Lp RA S8 LH J2 Pq:ag}
  {bX:aF} (CU:PySem.W.nsIn K ba "Mender"=some (some (.ref bX))) (CS:PySem.W.plainGet K bX y8=true) (Bc:PySem.W.hasDictIn K bX=true) (B3:PySem.W.plainOver K bX=true) (Ba:PySem.W.findIn K (.ref bX) "__setattr__"=some (some (.builtin "object.__setattr__"))) (yT:PySem.W.makesIn K bX=true) (CC:PySem.W.keepIn K (.ref bX)=true)
  (nQ:PySem.W.findIn K (.ref bX) "net"=some none)
  (kR:PySem.W.findIn K (.ref bX) "letters"=some none)
  (d0:aN K "over" "over" Hl f0)
  (d1:aN K "inverse" "inverse" DN f1)
  (d2:aN K "total" "total" C5 f2)
  (d3:aN K "lost_of" "lost_of" AQ f3)
  (d4:aN K "seats" "seats" B7 f4)
  (d5:aN K "rows_of" "rows_of" Kc f5)
  (d6:aN K "swept" "swept" Jk f6)
  (d7:aN K "first_with" "first_with" Dr f7)
  (d8:aN K "cleared" "cleared" Ah f8)
  (d9:aN K "times" "times" yu f9)
  (tM:aN K "less" "less" yr Mq)
  (Bl:aN K "reached_by" "reached_by" Di HV)
  (Cj:aN K "settled" "settled" yt pD)
  (xO:aN K "holds_out" "holds_out" HK pU)
  (zj:aN K "stands" "stands" Dl pS)
  (AY:aN K "greatest" "greatest" rR LZ)
  (yC:aN K "inside_of" "inside_of" xC Qf)
  (AB:aN K "told_by" "told_by" Jg Q3)
  (z5:aN K "told_for" "told_for" Cv Qp)
  (yo:aN K "round_of" "round_of" Ck Qa)
  (zZ:aN K "copied" "copied" BS Rm)
  (Bm:aN K "mended" "mended" Ja P1)
  (CV:aN K "_law_bag" "_law_bag" yO O5)
  (BN:aN K "_law_stirred" "_law_stirred" Ef OB)
  (yd:aN K "_law_draw" "_law_draw" DS Qd)
  (B5:aN K "_law_prime_from" "_law_prime_from" BX Mr)
  (BC:aN K "_law_prime" "_law_prime" D8 KN)
  (zg:aN K "_law_over" "_law_over" Hz ND)
  (yb:aN K "_law_sum" "_law_sum" zP S3)
  (AA:aN K "_law_letters" "_law_letters" vj Rr)
  (Bj:aN K "_law_planted_check" "_law_planted_check" xu Nh)
  (yk:aN K "_law_planted" "_law_planted" v7 Rv)
  (CP:aN K "_law_lossy" "_law_lossy" Cb f32)
  (B8:aN K "_law_copy" "_law_copy" zH Rq)
  (Cc:aN K "_law_whole" "_law_whole" G4 QD)
  (Bb:aN K "_law_summed" "_law_summed" yW L3)
  (Ac:aN K "_law_more" "_law_more" C6 OH)
  (zk:aN K "_law_letter_list" "_law_letter_list" xU LY)
  (yS:aN K "_law_combined" "_law_combined" JF QK)
  (Ar:aN K "_law_true" "_law_true" Au Pu)
  (BJ:aN K "_law_settles" "_law_settles" ue MV)
  (BZ:aN K "_law_alike" "_law_alike" BO Nz)
  (yJ:aN K "_law_left" "_law_left" uL O3)
  (Ce:aN K "_law_out" "_law_out" zC RM)
  (Bx:aN K "_law_place_right" "_law_place_right" vf NY)
  (Aa:PySem.W.nsIn K ba "law"=some (some (.ref zo))) (z7:K.lookup zo=some ⟨LS,Lz, .func (PySem.W.fnOf "law" "law" (lT kY) (lF kY) (aJ kY) .none EI Fc II G6 zL DB),Nk⟩) (yq:PySem.W.codeIn K zL "law"=true) (Ct:PySem.W.keepIn K (.ref zo)=true)
  (BE:PySem.W.findIn K (.ref bX) "__init__"=some (some (.ref tS))) (zK:PySem.W.isFn K (.ref tS)=true) (zX:K.lookup tS=some ⟨KG,RB, .func (PySem.W.fnOf "__init__" "Mender.__init__" (lT tD) (lF tD) (aJ tD) .none Sg M8 MY Nc FN MJ),M1⟩) (BR:PySem.W.codeIn K FN "Mender.__init__"=true) (ze:PySem.W.keepIn K (.ref tS)=true)
  (zh:PySem.W.findIn K (.ref bX) "step"=some (some (.ref tP))) (zl:PySem.W.isFn K (.ref tP)=true) (BU:K.lookup tP=some ⟨KQ,OZ, .func (PySem.W.fnOf "step" "Mender.step" (lT ux) (lF ux) (aJ ux) .none SE KO Pn O7 Jf K1),KU⟩) (Al:PySem.W.codeIn K Jf "Mender.step"=true) (wG:PySem.W.keepIn K (.ref tP)=true)
  (AF:PySem.W.findIn K (.ref bX) "mend"=some (some (.ref uF))) (yv:PySem.W.isFn K (.ref uF)=true) (A0:K.lookup uF=some ⟨Mm,Pg, .func (PySem.W.fnOf "mend" "Mender.mend" (lT tR) (lF tR) (aJ tR) .none KH Py N3 QN Fj QV),SV⟩) (CD:PySem.W.codeIn K Fj "Mender.mend"=true) (vP:PySem.W.keepIn K (.ref uF)=true)
  (BF:PySem.W.findIn K (.ref bX) "word"=some (some (.ref tF))) (xT:PySem.W.isFn K (.ref tF)=true) (Ca:K.lookup tF=some ⟨Lp,MT, .func (PySem.W.fnOf "word" "Mender.word" (lT sQ) (lF sQ) (aJ sQ) .none RA S8 LH Ti J2 Pq),Ms⟩) (yg:PySem.W.codeIn K J2 "Mender.word"=true) (wI:PySem.W.keepIn K (.ref tF)=true)
  (yG:PySem.W.nsIn K ba "abs"=some none)
  (AR:PySem.W.nsIn K ba "all"=some none)
  (Aw:PySem.W.nsIn K ba "bool"=some none)
  (zQ:PySem.W.nsIn K ba "dict"=some none)
  (yE:PySem.W.nsIn K ba "enumerate"=some none)
  (xX:PySem.W.nsIn K ba "int"=some none)
  (yF:PySem.W.nsIn K ba "isinstance"=some none)
  (Bd:PySem.W.nsIn K ba "len"=some none)
  (Cm:PySem.W.nsIn K ba "list"=some none)
  (Cr:PySem.W.nsIn K ba "min"=some none)
  (yV:PySem.W.nsIn K ba "range"=some none)
  (B6:PySem.W.nsIn K ba "set"=some none)
  (CG:PySem.W.nsIn K ba "sorted"=some none)
  (CO:PySem.W.nsIn K ba "str"=some none)
  (CH:PySem.W.nsIn K ba "sum"=some none)
  (Bs:PySem.W.nsIn K ba "tuple"=some none)
  (Bh:PySem.W.nsIn K ba "zip"=some none),
  ∃fd:ft,(∀(s:aw) (v:ag),pP s fd ⟨[v],[]⟩ [("script",v)])/\∀base:eo,K.In base->base.Ns ba mg->bD l.prog w K mg base bM 10 fa fd ["script"] (zw K)
def walk{q:bc}{c:List Str}{d:DefRec}{K:Params->PySem.W.Frag}(hn:l.most=some 63)(p:d.params.defaults=[])
  (Z:∀(w:cx) (h:eo),y w h->(K w.params).In h)
  (F : ∀ (w : World) (mg : Str -> Option Value) (fa : Addr) (h : Heap), (K w.params).In h -> h.Ns mainGlobals mg -> mg d.name = some (.ref fa) ->
   ∃fd:ft,(∀(s:aw) (u:ag),pP s fd ⟨[u],[]⟩ [("script",u)])/\∀base:eo,(K w.params).In base->base.Ns ba mg->bD l.prog w (K w.params) mg base bM 10 fa fd ["script"] (zw (K w.params))):
  PySem.W.WalkO q c A y l.row.toRowW d [] (λf vs=>PySem.call f vs):=
 L2.Z8 (n:=63) (k:=10) (x:="script") (CX:=λ_=>bM) (sp:=λw=>zw (K w.params)) hn ⋯ p ⟨rfl,⋯,⋯⟩ Z F (λ_ _ a ns hl _ N=>⟨a,ns,rfl,N,hl,λ_=>rfl⟩) λ_ _ _ _ _ z=>z
local macro_rules| `(tactic|walk_at "d0")=> `(tactic|first|omega (config := {})|assumption|decide|(unfold Sm at*;omega (config := {}))|(unfold Cz;omega (config := {}))|(unfold El;decide)|(unfold El;omega (config := {})))
local macro_rules| `(tactic|walk_at "ds")=> `(tactic|((try dsimp only);first|walk_at "d0" |(refine zz ?_ ?_<;>walk_at "d0")|(refine be ?_;walk_at "d0")|(refine ee (zz ?_ ?_)<;>walk_at "d0")))
local macro_rules| `(tactic|walk_at "s1")=> `(tactic|with_reducible first
 |refine R.seq ?_|refine R.asg ?_|refine R.oR ?_|refine R.ret ?_|refine R.next ?_|refine R.c ?_|refine R.op ?_|refine R.test ?_|refine R.bl ?_|refine R.tru ?_
 |refine R.and ?_|refine R.NM ?_|refine R.cb ?_|refine R.call ?_|refine R.nil ?_|refine R.cons ?_
 |refine R.lst ?_|refine R.sl ?_|refine R.NN ?_|refine R.part ?_|refine R.K0 ?_|refine R.aaG ?_|refine R.Mf ?_|refine R.Yh ?_|refine R.Zv ?_|refine R.Y6 ?_|refine R.rj ?_
 |refine R.j5 ?_|refine R.PN ?_|refine R.Gc ?_|refine R.eqNI ?_|refine R.eqIN ?_|refine R.isI ?_|refine R.LF ?_|refine R.NG ?_|refine R.bits ?_
 |refine CM ?_|refine O6 ?_|refine R.nilE ?_|refine R.Hn ?_|refine R.OQ ?_|refine R.Tx ?_|refine R.XP ?_|refine R.iL ?_|refine R.ZR ?_|refine R.comp ?_)
local macro_rules| `(tactic|walk_at "st")=> `(tactic|repeat (first
 |walk_at "s1"
 |((with_reducible refine' R.var ?h0 ?_);(case h0=>rfl))
 |((with_reducible refine' R.rI ?h1 ?_);(case h1=>walk_at "ds"))
 |((with_reducible refine' R.Ft (o:= .lst []) ?h1 ?_);(case h1=>rfl))
 |((with_reducible refine' R.Bk ?h0 ?h1 ?_);(case h0=>assumption);(case h1=>rfl))
 |((with_reducible refine' R.ixTM ?h0 ?h1 ?_);(case h0=>assumption);(case h1=>rfl))
 |((with_reducible refine' R.SG ?h1 ?_);(case h1=>rfl))
 |((with_reducible refine' R.setM ?h0 ?h1 ?_);(case h0=>assumption);(case h1=>rfl))
 |((with_reducible refine' R.Wc ?h0 ?_);(case h0=>assumption))
 |((with_reducible refine' R.lenL ?h0 ?_);(case h0=>assumption))
 |((with_reducible refine' R.PQ ?h0 ?h1 ?_);(case h0=>walk_at "ds");(case h1=>walk_at "ds"))
 |((with_reducible refine' R.T7 ?h0 ?_);(case h0=>walk_at "ds"))
 |((with_reducible refine' R.CT ?h0 ?_);(case h0=>assumption))
 |((with_reducible refine' R.Nv ?h0 ?_);(case h0=>first|exact R.dT (by omega (config := {}))|exact R.MX (by omega (config := {}))|decide))
 |((with_reducible refine' R.LQ ?h0 ?_);(case h0=>first|exact R.dF (by omega (config := {}))|exact R.Qx (by omega (config := {}))|decide))
 |(with_reducible refine R.V2 ?_)|(with_reducible refine R.Hj ?_)))
local macro_rules| `(tactic|walk_at "mo")=> `(tactic|repeat (first|refine Exists.imp fun _=>?_|refine And.imp_right ?_))
local macro_rules| `(tactic|walk_at "fv")=> `(tactic|first|exact be rfl|exact ee (be rfl)|exact ee (ee (be rfl))|exact ee (ee (ee (be rfl)))|exact ee (ee (ee (ee rfl))))
local macro_rules| `(tactic|walk_at "d1")=> `(tactic|with_reducible first
 |refine Sv.seq ?_|refine Sv.DR ?_|refine Sv.asg ?_|refine Sv.GB ?_|refine Sv.oR ?_|refine Sv.ret ?_|refine Sv.next ?_|refine Sv.retN ?_
 |refine Ev.int ?_|refine Ev.bl ?_|refine Ev.aP ?_|refine Ev.j5 ?_|refine Ev.X3 ?_|refine Ev.rI ?_|refine Ev.rU ?_|refine Ev.eq ?_|refine Ev.ne ?_|refine Ev.is ?_|refine Ev.adw ?_|refine Ev.XZ ?_|refine Ev.R3 ?_|refine Ev.rA ?_|refine Ev.str ?_|refine Ev.Dx ?_
 |refine Ev.E6 ?_|refine Ev.orV ?_|refine Ev.Hi ?_|refine Tv.test ?_|refine Tv.and ?_|refine Tv.or ?_|refine Tv.not ?_|refine Tv.rj ?_|refine Tv.Qe ?_
 |refine Ev.Iy ?_|refine Ev.tupS ?_|refine Ev.lst ?_|refine Av.nil ?_|refine Av.cons ?_|refine Av.NF ?_|refine Ov.none ?_|refine Ov.some ?_|refine Ev.min2 ?_|refine Ev.max2 ?_|refine Ev.F8 ?_|refine Ev.whole ?_
 |refine R.di ?_|refine R.db ?_|refine R.dl ?_|refine R.dt ?_|refine R.Pm ?_|refine R.Uy ?_|refine R.aeK ?_|refine R.eqni ?_|refine R.eqin ?_|refine R.eqnn ?_|refine R.Vr ?_
 |refine Gv.pM ?_|refine Gv.GS ?_|refine Gv.Ej ?_|refine Gv.PB ?_|refine Gv.vz ?_|refine Gv.XS ?_|refine Gv.F0 ?_|refine CM ?_|refine O6 ?_)
local macro_rules| `(tactic|walk_at "dt")=> `(tactic|repeat (first
 |((with_reducible refine' Sv.retOwn ?h0 ?_);(case h0=>rfl))
 |((with_reducible refine' Sv.rV ?h0 ?_);(case h0=>rfl))
 |walk_at "d1"
 |((with_reducible refine' Ev.var ?h0 ?_);(case h0=>rfl))
 |((with_reducible refine' Ev.draw ?h0 ?_);(case h0=>rfl))
 |((with_reducible refine' Ev.SX ?h0 ?_);(case h0=>rfl))
 |((with_reducible refine' Ev.agy ?h0 ?_);(case h0=>rfl))
 |((with_reducible refine' Ev.listOwn ?h0 ?_);(case h0=>rfl))
 |((with_reducible refine' Ev.slOwn ?h0 ?_);(case h0=>rfl))
 |((with_reducible refine' Sv.append ?h0 ?_);(case h0=>rfl))
 |((with_reducible refine' Sv.rV ?h0 ?_);(case h0=>rfl))
 |((with_reducible refine' Sv.retOwn ?h0 ?_);(case h0=>rfl))
 |((with_reducible refine' Gv.tup ?h0 ?_);(case h0=>rfl))
 |((with_reducible refine' R.at_ ?h0 ?_);(case h0=>first|rfl|assumption))
 |(with_reducible refine Ev.Od ?_)|(with_reducible refine Ev.MA ?_)|(with_reducible refine Ev.listOf ?_)|(with_reducible refine Ev.sl ?_)|(with_reducible refine Ev.cat ?_)|(with_reducible refine Ev.CK ?_)
 |((with_reducible refine' Ev.Bz ?h0 ?_);(case h0=>walk_at "fv"))
 |((with_reducible refine' Ev.UX ?h0 ?h1 ?_);(case h0=>walk_at "fv");(case h1=>walk_at "fv"))
 |(with_reducible refine Ev.all ?_)|(with_reducible refine Ev.sum ?_)|(with_reducible refine Ev.Ft ?_)
 |((with_reducible refine' R.agE ?_))
 |((with_reducible refine' R.Nv ?h0 ?_);(case h0=>first|exact R.dT (by omega (config := {}))|exact R.MX (by omega (config := {}))|rfl))
 |((with_reducible refine' R.LQ ?h0 ?_);(case h0=>first|exact R.dF (by omega (config := {}))|exact R.Qx (by omega (config := {}))|exact dH))
 |((with_reducible refine' R.TB ?h0 ?_);(case h0=>first|walk_at "ds" |exact Pz rfl))))
local macro_rules| `(tactic|walk_at "wk")=> `(tactic|repeat (first|exact Wk.nil|apply Wk.no|apply Wk.eq))
section
variable{P:bc}{w:cx}{K:PySem.W.Frag}{mg:Str->Option ag}{base:eo}{f:aF}{fd:ft}
def AX:DF:=λds Φ=>∃(p c:Int) (w:Nat) (r:List Int),ds=[.int p, .int c,cA r]/\0<p/\p<10^40/\cZ p w r/\w<=10000/\0<=c/\c<p/\Φ true (cA (mulR p c r))
def WR:cW AX:=by
 intro ds Φ Ψ hm z;revert hm;walk_at "mo";exact λq=>z _ _ q
def TQ:cg ["p","factor","row"] ["p","factor","row"] (aJ yu):=⟨rfl,rfl,rfl,by decide+kernel,rfl,by decide+kernel,by decide+kernel⟩
theorem Zt(F:bQ K "times" "times" yu f fd):
  bD P w K mg base bM 1 f fd ["p","factor","row"] (bF 3 AX):=by
 refine F.ok TQ (λvs H Q E h=>h.1) (λcdv A outer s H vs Q E hr h=>?_);obtain⟨nb,ds,Φ,C,I,D,X⟩:=fK h;obtain⟨p,c,w,r,rfl,hp,Z,hr,hw,c0,c1,q⟩:=X;refine⟨_,#[5,dY (cz.of (show cO (aJ yu) ["p","factor","row"] _ ["number","p","factor"] [none,some 0,some 1]=true by decide+kernel)) (dI (K:=K) rfl (pv 2)) (λ_ _ _ _=>⟨#[1,(by show aR (["number","p","factor"]:List Str);decide+kernel)],gJ,(@aM _ _ _ _ _ _ _ _ ia (@aM _ _ _ _ _ _ _ _ iD (pv 2) (pv 0)) (pv 1))⟩)],?_⟩;refine Sv.fu C I D (ρ:=[.d false _, .d false _, .d false _]) rfl ?_;clear D I;have hrl:(r.map aq).length=r.length:=ao ..;have hl:=hr.len;have u:∀x:Int,0<=x->x<=p->Sm x:=λx Y W=>by unfold Sm;omega
 rfl';refine az.ev (az.gK ⋯ rfl ?_);rfl';refine λv=>⟨true,λi ds=>ds=((r.take i).map λx=>c*x%p).map aq,rfl,?_,?_⟩
 .rintro i d ds hd hl' rfl;obtain⟨x,hx,rfl⟩:=c9 hd;obtain⟨Y,W⟩:=hr.rg x (bC hx);have s1:=u c c0 ∅;have s2:=u x Y ∅;rfl';refine⟨by walk_at "wk",?_⟩;rfl';show _=a3 aq (a3 _ (ip (i+1) r));rw[Ai hx,bS,bS]
  rfl
 rintro ds hl' rfl;rw[hrl,c6];exact q
def lD:cg ["p","b","last_rest","last_times","rest","times","quotient","next_rest","next_times"] ["p","b"] (aJ DN):=⟨rfl,rfl,rfl,by decide+kernel,rfl,by decide+kernel,by decide+kernel⟩
theorem Wy(F:bQ K "inverse" "inverse" DN f fd)(u:Callee P w K mg base "times" 1 ["p","factor","row"] (bF 3 AX)):
  bD P w K mg base bM 2 f fd ["p","b"] Am:=by
 refine F.ok lD (λvs H Q E h=>?_) (λcdv A outer s H vs Q E hr h=>?_)
 .obtain⟨p,b,rfl,hp,d,hb,q⟩:=h
  rfl
 obtain⟨p,b,rfl,hp,d,hb,q⟩:=h;refine⟨_,(@aA _ _ _ _ _ #[15,lD.nd,pv 0] #[10,@aX _ _ (3) _ _ _ _ lD.nd rfl (be rfl) au (by rfl) (by first|exact .inl rfl|exact .inr rfl|assumption),#[28,lD.nd,@aM _ _ _ _ _ _ _ _ ia (pv 1) (pv 0)],#[3,@aX _ _ (5) _ _ _ _ lD.nd rfl (be rfl) au (by rfl) (by first|exact .inl rfl|exact .inr rfl|assumption),(@uG _ _ _ _ _ _ fF (@bB _ _ _ _ _ _ _ _ iZ (pv 4) au (bu _)) #[10,#[29,lD.nd,@aM _ _ _ _ _ _ _ _ vA (pv 2) (pv 4)],#[26,lD.nd,@aM _ _ _ _ _ _ _ _ nE (pv 2) (@aM _ _ _ _ _ _ _ _ iD (pv 6) (pv 4))],#[21,@aX _ _ (8) _ _ _ _ lD.nd rfl (be rfl) (@aM _ _ _ _ _ _ _ _ nE (pv 3) (@aM _ _ _ _ _ _ _ _ iD (pv 6) (pv 5))) (by rfl) (by first|exact .inl rfl|exact .inr rfl|assumption),#[15,lD.nd,pv 4],#[22,lD.nd,pv 5],#[28,lD.nd,pv 7],(@aI _ _ _ #[27,lD.nd,pv 8])]]),@aM _ _ _ _ _ _ _ _ ia (pv 3) (pv 0)]]),?_⟩;have hp2:=hp.1;walk_at "st";refine Wm (λσ H1=>H1=H/\∃(L lt r t:Int) (o B m:Option V),σ=[some (.int p),some (.int b),some (.int L),some (.int lt),some (.int r),some (.int t),o,B,m]/\Eu p b L lt r t) (λ(σ:qr) (_:Hp)=>match σ[4]? with|some (some (V.int r))=>r.toNat|_=>0) ⟨rfl,_,_,_,_,_,_,_,rfl,Eu.start hp2⟩ ?_ ?_
 .rintro σ H1 ⟨rfl,L,lt,r,t,o,B,m,rfl,E⟩;obtain⟨U,N⟩:=E.tb;have e1:=E.l0;have e2:=E.r0;have e3:=E.lp;have e4:=E.rp;walk_at "st";refine tZ (λc=>?_) (λc=>?_)
  .have c:r≠0:=of_decide_eq_true c;have hr:0<r:=∅
   have O:0<=L/r:=xQ ∅ ∅;have q2:L/r<=L:=Ib _ ∅;obtain⟨l,j⟩:=E.next hr
   walk_at "st";refine⟨⟨rfl,_,_,_,_,_,_,_,rfl,l⟩,?_⟩;show(L-L/r*r).toNat<r.toNat;omega
  .have c:r=0:=by simpa using c
   subst c;walk_at "st";exact q _ (iw _ ∅) (g7 _ ∅) (E.fin hp hb)
 .exact λσ H Q g h ⟨v,e,s,k,x,z⟩=>⟨v,e,s,k,x,h _ _ z⟩
def XJ:cg ["p","a","b"] ["p","a","b"] (aJ Hl):=⟨rfl,rfl,rfl,by decide+kernel,rfl,by decide+kernel,by decide+kernel⟩
theorem aeZ(F:bQ K "over" "over" Hl f fd)(c:Callee P w K mg base "inverse" 2 ["p","b"] Am):
  bD P w K mg base bM 3 f fd ["p","a","b"] G1:=by
 refine F.ok XJ (λvs H Q E h=>?_) (λcdv A outer s H vs Q E hr h=>?_)
 .obtain⟨p,a,b,rfl,hp,d,hb,a1,a2,q⟩:=h
  rfl
 obtain⟨p,a,b,rfl,hp,d,hb,a1,a2,q⟩:=h;refine⟨_,#[5,@aM _ _ _ _ _ _ _ _ ia (@aM _ _ _ _ _ _ _ _ iD (pv 1) #[0,c,@aa _ _ _ _ _ (pv 0) (@aa _ _ _ _ _ (pv 2) ak rfl) rfl]) (pv 0)],?_⟩;have hp2:=hp.1;walk_at "st";refine⟨p,b,rfl,hp,d,hb,λu u1 u2 ⟨k,hk⟩=>?_⟩;walk_at "st";refine q _ (iw _ ∅) (g7 _ ∅) ⟨a*k-a*u/p*b,?_⟩;have e:=jY (a*u) p;have e2:a*u%p=a*u-p*(a*u/p):=∅
 have e3:b*(a*u)=a*(u*b):=by rw[mh b,nF]
 rw[e2,kG,e3,hk,Dj,se,kG,<-nF a p k,mh a p,nF p a k,mh b (p*_),nF p];omega
def u7:cg ["p","pairs","word","reached","place","factor"] ["p","pairs","word"] (aJ C5):=⟨rfl,rfl,rfl,by decide+kernel,rfl,by decide+kernel,by decide+kernel⟩
theorem Y8(F:bQ K "total" "total" C5 f fd):
    bD P w K mg base bM 1 f fd ["p","pairs","word"] xR:=by
  refine F.ok u7 (λvs H Q E h=>?_) (λcdv A outer s H vs Q E hr h=>?_)
  · obtain⟨nb,p,d,b,prs,wd,rfl,hA,hC,hp,h1,h2,q⟩:=h
    rfl
  obtain⟨nb,p,d,b,prs,wd,rfl,hA,hC,hp,h1,h2,q⟩:=h;refine⟨_,#[3,@aX _ _ (3) _ _ _ _ u7.nd rfl (be rfl) au (by rfl) (by first|exact .inl rfl|exact .inr rfl|assumption),#[11,dI (K:=K) rfl (pv 1),Mz rfl (@bW _ _ _ _ _ (aK (i:=4) u7.nd rfl (be rfl)) (@bW _ _ _ _ _ (aK (i:=5) u7.nd rfl (be rfl)) gC (by rfl)) (by rfl)),@dJ _ _ _ _ _ _ _ _ (@bB _ _ _ _ _ _ _ _ qO (@aD _ _ _ _ _ _ _ bA (pv 2) (pv 4) (λ_ _=>rfl)) iY (bu _)) (@aI _ _ _ #[22,u7.nd,@aM _ _ _ _ _ _ _ _ ia (@aM _ _ _ _ _ _ _ _ gm (pv 3) (@aM _ _ _ _ _ _ _ _ iD (pv 5) (@aD _ _ _ _ _ _ _ bA (pv 2) (pv 4) (λ_ _=>rfl)))) (pv 0)]) dO],pv 3],?_⟩;obtain⟨a,xs,rfl,I,ha,g⟩:=hA.dW;obtain⟨c,ws,rfl,nc,hc,j⟩:=hC.dW;have oH:=g.length;rw[ao] at oH;have ew:=RU j;subst ew;walk_at "st";refine R.CT (aV.of ha) ?_;refine JO (xs:=xs) (λi σ H1=>H1=H/\∃(r:Int) (x y:Option V),σ=[some (.int p),some (.ref a),some (.ref c),some (.int r),x,y]/\r=aQ (prs.take i) wd%p) ⟨rfl,0,none,none,rfl,by simp[aQ]⟩ ?_ ?_ ?_
  · rintro i σ H1 hi ⟨rfl,_⟩
    exact aV.of ha
  · rintro i x σ H1 hx ⟨rfl,r,y,z,rfl,hr⟩
    have hi:i<prs.length:=by have:=(aO.mp hx).1;omega
    obtain⟨Y,L,dx⟩:=g.get (i:=i) (by rw[bw,aC hi];rfl);rw[hx] at L;cases L
    obtain⟨t,rfl,nt,ht⟩:=Qy dx;obtain⟨g1,g2,g3⟩:=h1 _ (cU hi);have hk:prs[i].fst.toNat<wd.length:=∅
    have S:bE (wd.map AU) prs[i].fst=some (AU wd[prs[i].fst.toNat]):=eu g1 (by rw[bw,aC hk];rfl);have pV:gY wd prs[i]=match wd[prs[i].fst.toNat] with|some x=>prs[i].snd*x|none=>0:=by
      unfold gY;rw[aC hk];cases wd[prs[i].fst.toNat]<;>rfl
    have m:∀x,wd[prs[i].fst.toNat]=some x->Sm x:=λx e=>h2 x (by rw[<-e];exact cU hk);have hd:=JX (wd:=wd) hi;refine R.ab0 (iP.of ht) rfl ?_;walk_at "st";refine R.Bk hc S ?_;walk_at "st";generalize wd[prs[i].fst.toNat]=o at S pV m⊢;cases o with
    | none =>
      refine R.NG ?_;walk_at "st";refine⟨rfl,_,_,_,rfl,?_⟩;rw[hd,pV,hr,rW]
    | some x =>
      have XE:=m x rfl;refine R.LF ?_;walk_at "st";refine R.Bk hc S ?_;refine R.rI (ee ⟨g3,XE⟩) ?_;walk_at "st";refine⟨rfl,_,_,_,rfl,?_⟩;rw[hd,pV,hr,n7]
  · rintro σ H1 ⟨rfl,r,x,y,rfl,hr⟩
    walk_at "st";rw[oH,c6] at hr;rw[hr];exact q
def Ic:DF:=λds Φ=>∃wd:Wo,ds=[dU wd]/\wd.length<=10000/\Φ true (.list ((fU wd).map .int))
def TN:cW Ic:=by
 intro ds Φ Ψ hm z;revert hm;walk_at "mo";exact λq=>z _ _ q
def WC:cg ["word"] ["word"] (aJ AQ):=⟨rfl,rfl,rfl,by decide+kernel,rfl,by decide+kernel,by decide+kernel⟩
def Zw(F:bQ K "lost_of" "lost_of" AQ f fd)(ja:mg "enumerate"=none):
    bD P w K mg base bM 1 f fd ["word"] (bF 1 Ic):=by
  refine F.ok WC (λvs H Q E h=>h.1) (λcdv A outer s H vs Q E hr h=>?_);obtain⟨nb,ds,Φ,C,I,D,X⟩:=fK h;obtain⟨wd,rfl,hl,q⟩:=X;refine⟨_,#[5,dY (cz.of (show cO (aJ AQ) ["word"] _ ["place","letter"] [none,none]=true by decide+kernel)) (@vN _ (K) _ _ _ _ _ _ _ rfl rfl ja (pv 0) (by rfl)) (λ_ _ _ _=>⟨#[8,#[1,(by show aR (["place","letter"]:List Str);decide+kernel)],aK (i:=1) (by show aR (["place","letter"]:List Str);decide+kernel) rfl (be rfl)],(iX (@bB _ _ _ _ _ _ _ _ wD (pv 1) iY (bu _))),(pv 0)⟩)],?_⟩;refine Sv.fu C I D (ρ:=[.d false _]) rfl ?_;clear D I;have a:(wd.map cT).length=wd.length:=ao ..;rfl';refine az.ev (az.RX ⋯ rfl ?_);rfl';refine λv=>⟨true,λi ds=>ds=(((aL i).filter λj=>wd[j]?==some none).map λ(j:Nat)=>(j:Int)).map aq,rfl,?_,?_⟩
  · rintro i d ds ⟨e,he,rfl⟩ hl' rfl
    obtain⟨o,ho,rfl⟩:=c9 he;rfl';refine⟨by walk_at "wk",?_⟩;rfl';rw[oV];cases o with
    | none =>
      rfl';show _=a3 _ (a3 _ (cj _ (aL (i+1))));rw[lI,jx,qC (by rw[ho];rfl)];simp
    | some x =>
      rfl';show _=a3 _ (a3 _ (cj _ (aL (i+1))));rw[lI,jx,qy (by rw[ho];simp)];simp
  · rintro ds hl' rfl
    rw[a];exact q
def uO:cg ["net","told","c","pairs","place","factor"] ["net"] (aJ B7):=⟨rfl,rfl,rfl,by decide+kernel,rfl,by decide+kernel,by decide+kernel⟩
def V1(F:bQ K "seats" "seats" B7 f fd)(ja:mg "enumerate"=none)(bY:mg "range"=none):
  bD P w K mg base bM 1 f fd ["net"] wC:=by
 refine F.ok uO (λvs H Q E h=>?_) (λcdv A outer s H vs Q E hr h=>?_)
 .obtain⟨nb,p,n,cs,v,rfl,a⟩:=h
  rfl
 obtain⟨nb,p,n,cs,v,rfl,a⟩:=h;refine⟨_,#[10,nu (i:=1) uO.nd rfl rfl (cz.of (show cO (aJ B7) ["net","told","c","pairs","place","factor"] _ ["place"] [none]=true by decide+kernel)) (@iN _ _ _ _ _ _ rfl bY (@aa _ _ _ _ _ (@aD _ _ _ _ _ _ (bJ K) bU (pv 0) au (λ_ _=>rfl)) ak rfl) (by rfl)) (λ_ _ _ _=>⟨#[1,(by show aR (["place"]:List Str);decide+kernel)],gJ,(@gR _ _ _ _ ak)⟩),#[11,(@vN _ (K) _ _ _ _ _ _ _ rfl rfl ja #[12] (by rfl)),#[8,aK (i:=2) uO.nd rfl (be rfl),aK (i:=3) uO.nd rfl (be rfl)],#[11,dI (K:=K) rfl (pv 3),#[8,aK (i:=4) uO.nd rfl (be rfl),aK (i:=5) uO.nd rfl (be rfl)],@qK _ _ _ _ (qi qE xK xE vU (@aD _ _ _ _ _ _ (bO K) bA (pv 1) (pv 4) (λ_ _=>rfl)) (@aa _ _ _ _ _ (pv 2) ak rfl)) (by rfl)]],@aI _ _ _ (@bf _ _ _ _ (pv 1))],?_⟩;exact FV ⟨nb,p,n,cs,v,rfl,a⟩
def Dv:DF:=λds Φ=>∃(p n:Int) (cs:List aj),ds=[bR p n cs]/\iB p n cs/\∀f:Bool,Φ f (.list ((iz n.toNat cs.length cs).map cA))
def P2:cW Dv:=by
 intro ds Φ Ψ hm z;revert hm;walk_at "mo";exact λq=>λf=>z _ _ (q f)
def rS:cg ["net","rows","c","pairs","row","place","factor"] ["net"] (aJ Kc):=⟨rfl,rfl,rfl,by decide+kernel,rfl,by decide+kernel,by decide+kernel⟩
theorem Fh(F:bQ K "rows_of" "rows_of" Kc f fd)(ja:mg "enumerate"=none)(bT:mg "len"=none):
  bD P w K mg base bM 1 f fd ["net"] (bF 1 Dv):=by
 refine F.ok rS (λvs H Q E h=>h.1) (λcdv A outer s H vs Q E hr h=>?_);obtain⟨nb,ds,Φ,C,I,D,X⟩:=fK h;obtain⟨p,n,cs,rfl,hN,q⟩:=X;refine⟨_,#[10,#[23,rS.nd,@gR _ _ _ _ ak],(@gX _ _ _ _ _ _ _ _ fF rfl (@vN _ (K) _ _ _ _ _ _ _ rfl rfl ja #[12] (by rfl)) #[8,aK (i:=2) rS.nd rfl (be rfl),aK (i:=3) rS.nd rfl (be rfl)] (@aA _ _ _ _ _ #[28,rS.nd,@aM _ _ _ _ _ _ _ _ Cw (@gR _ _ _ _ (@aa _ _ _ _ _ au ak rfl)) (@aM _ _ _ _ _ _ _ _ gm #[12] #[4,bT,@aa _ _ _ _ _ (@aD _ _ _ _ _ _ (bJ K) bU (pv 0) au (λ_ _=>rfl)) ak rfl])] #[10,#[11,dI (K:=K) rfl (pv 3),#[8,aK (i:=5) rS.nd rfl (be rfl),aK (i:=6) rS.nd rfl (be rfl)],#[20,pv 6,pv 4,pv 5]],#[20,au,pv 4,(@aM _ _ _ _ _ _ _ _ gm #[12] (pv 2))],@aI _ _ _ (@qK _ _ _ _ (qi qE xK xE vU (pv 1) (@aa _ _ _ _ _ (pv 4) ak rfl)) (by rfl))]) (by intro _;rfl)),@aI _ _ _ (@bf _ _ _ _ (pv 1))],?_⟩;refine Sv.fu C I D (ρ:=[.d false _, .no, .no, .no, .no, .no, .no]) rfl ?_;clear D I;have n0:=hN.n0;have n1:=hN.n1;have hcl:=hN.cl;have gv:(cs.map cy).length=cs.length:=ao ..;refine Sv.seq ?_;refine Sv.DR ?_;intro A1;refine Sv.seq ?_;refine Sv.SJ ?_;rfl';refine λv=>⟨λi ρ=>∃(f:Bool) (B u N Z o:Sl),ρ=[.d false (bR p n cs), .own A1 f ((iz n.toNat cs.length (cs.take i)).map cA),B,u,N,Z,o],⟨_,_,_,_,_,_,rfl⟩,?_,?_⟩
 .rintro i d ρ ⟨e,he,rfl⟩ ⟨f,B,u,N,Z,o,rfl⟩;obtain⟨prs,O,rfl⟩:=c9 he;have hi:=(aO.mp O).1;obtain⟨a,hpl,G⟩:=hN.ok prs (bC O);have eY:(prs.map Ap).length=prs.length:=ao ..;generalize jo:(lW (fV (cQ sE _ _) (fB 4)) _:TS)=tl;rfl';subst jo;refine Sv.seq ?_;refine Sv.sZ (az.yD ?_);rfl';intro g;have c:(n+((cs.map cy).length:Int)).toNat=n.toNat+cs.length:=by rw[gv];omega
  rw[c];intro A4;have hz:ar (n.toNat+cs.length) (aq 0)=(ar (n.toNat+cs.length) (0:Int)).map aq:=by rw[xV]
  rw[hz];refine Sv.seq ?_;refine Sv.forL ?_;rfl';refine λb=>⟨λj ρ=>∃(g:Bool) (Z o:Sl),ρ=[.d false (bR p n cs), .own A1 f ((iz n.toNat cs.length (cs.take i)).map cA), .d true (.int i), .d false (cy prs), .own A4 g ((jz (ar (n.toNat+cs.length) 0) (prs.take j)).map .int),Z,o],⟨_,_,_,rfl⟩,?_,?_⟩
  .rintro j d ρ hd ⟨g,Z,o,rfl⟩;obtain⟨pr,k,rfl⟩:=c9 hd;obtain⟨a0,a1,a2,y⟩:=G pr (bC k);rfl';have U:dS ((jz (ar (n.toNat+cs.length) 0) (prs.take j)).map aq).length pr.1=some pr.1.toNat:=by
    unfold dS;rw[ao,wW,lN]
    repeat (first|rw[if_pos ∅]|rw[if_neg ∅])
   refine⟨_,_,rfl,U,?_⟩;have es:jz (ar (n.toNat+cs.length) 0) (prs.take (j+1))=(jz (ar (n.toNat+cs.length) 0) (prs.take j)).set pr.1.toNat pr.2:=by
    rw[Ai k];unfold jz;rw[sf]
    rfl
   rw[<-mX,<-es];exact⟨_,_,_,rfl⟩
  .rintro ρ ⟨g,Z,o,rfl⟩;rw[eY,c6];have U:dS ((jz (ar (n.toNat+cs.length) 0) prs).map aq).length (n+(i:Int))=some (n.toNat+i):=by
    unfold dS;rw[ao,wW,lN]
    repeat (first|rw[if_pos ∅]|rw[if_neg ∅])
    congr 1
    omega
   refine Sv.seq ?_;refine Sv.rV rfl ?_;rfl';refine⟨_,_,rfl,U,?_⟩;refine Sv.mD 4 rfl ?_;refine Sv.append rfl ?_;refine Ev.var rfl ?_;have hrl:(iz n.toNat cs.length (cs.take i)).length=i:=by rw[En,iG];omega
   have es:iz n.toNat cs.length (cs.take (i+1))=iz n.toNat cs.length (cs.take i)++[o7 n.toNat cs.length i prs]:=by
    unfold iz;rw[Ai O,List.zipIdx_append,bS];simp only[ph,List.zipIdx_nil,bG,nR,iG,vt];rw[A6 ∅]
   refine⟨by rw[ao,hrl];omega,?_⟩;rw[<-mX];have e2:a3 cA (iz n.toNat cs.length (cs.take i))++[dq (((jz (ar (n.toNat+cs.length) 0) prs).set (n.toNat+i) 1).map aq)]=a3 cA (iz n.toNat cs.length (cs.take (i+1))):=by
    rw[es,bS]
    rfl
   rw[e2];exact⟨_,_,_,_,_,_,rfl⟩
 .rintro ρ ⟨f,B,u,N,Z,o,rfl⟩;rw[gv,c6];refine Sv.mD 1 rfl ?_;rfl';exact q _
noncomputable def gU(T:List (Nat×Nat)):Ks:=T.map λq=>((q.1:Int), .int (q.2:Int))
def Fx:DF:=λds Φ=>∃(p:Int) (w:Nat) (R:List (List Int)) (T:List (Nat×Nat)) (pl:Nat),ds=[.list (R.map cA), .dict ((gU T).map cP), .int pl]/\ny p w R/\0<p/\p<10^40/\R.length<=10000/\T.length<=10000/\pl<w/\w<=10000/\
 ((∀i<R.length,i∉T.map (·.1)->gI (R.getD i []) pl=0)->Φ true .none)/\(∀k:Nat,k<R.length->k∉T.map (·.1)->gI (R.getD k []) pl≠0->Φ true (.int k))
def Ro:cW Fx:=λds Φ Ψ ⟨p,w,R,T,pl,e,h1,h2,h3,h4,h5,h6,h7,O,q2⟩ z=>⟨p,w,R,T,pl,e,h1,h2,h3,h4,h5,h6,h7,λh=>z _ _ (O h),λk a b c=>z _ _ (q2 k a b c)⟩
theorem KL(T:List (Nat×Nat))(k:Nat):i6 (gU T) (k:Int)=decide (k∈T.map (·.1)):=by
 unfold gU i6;rw[jS,xo,decide_eq_true_eq];constructor
 .rintro⟨q,hq,e⟩;obtain⟨t,ht,rfl⟩:=cL.mp hq;have:((t.1:Nat):Int)=k:=by simpa using e
  exact cL.mpr ⟨t,ht,∅⟩
 .intro h;obtain⟨t,ht,e⟩:=cL.mp h;exact⟨_,uI ht,by simp[e]⟩
def JT:cg ["rows","taken","place","k","row"] ["rows","taken","place"] (aJ Dr):=⟨rfl,rfl,rfl,by decide+kernel,rfl,by decide+kernel,by decide+kernel⟩
theorem M2(F:bQ K "first_with" "first_with" Dr f fd)(ja:mg "enumerate"=none):
  bD P w K mg base bM 1 f fd ["rows","taken","place"] (bF 3 Fx):=by
 refine F.ok JT (λvs H Q E h=>h.1) (λcdv A outer s H vs Q E hr h=>?_);obtain⟨nb,ds,Φ,C,I,D,X⟩:=fK h;obtain⟨p,w,R,T,pl,rfl,hR,hp,Z,y,Y,hpl,hw,O,q2⟩:=X;refine⟨_,(@aA _ _ _ _ _ #[11,@vN _ (K) _ _ _ _ _ _ _ rfl rfl ja (pv 0) (by rfl),#[8,aK (i:=3) JT.nd rfl (be rfl),aK (i:=4) JT.nd rfl (be rfl)],@dJ _ _ _ _ _ _ _ _ (PW.pt (oK (@bB _ _ _ _ _ _ _ _ (NO hr.units) (pv 3) (pv 1) (by with_unfolding_all rfl)) (ow (@bB _ _ _ _ _ _ _ _ iZ (@aD _ _ _ _ _ _ (bO K) bA (pv 4) (pv 2) (λ_ _=>rfl)) au (bu _))))) (@aI _ _ _ (@bf _ _ _ _ (pv 3))) dO] #[5,iY]),?_⟩;refine Sv.fu C I D (ρ:=[.d false _, .d false _, .d false _, .no, .no]) rfl ?_;clear D I;have x:(R.map cA).length=R.length:=ao ..;refine Sv.seq ?_;refine Sv.SJ ?_;rfl';refine λv=>⟨λi ρ=>∃(u N:Sl),ρ=[.d false (.list (R.map cA)), .d false (.dict ((gU T).map cP)), .d false (.int pl),u,N]/\∀j<i,j∉T.map (·.1)->gI (R.getD j []) pl=0,⟨_,_,rfl,λj hj=>absurd hj (p4 _)⟩,?_,?_⟩
 .rintro i d ρ ⟨e,he,rfl⟩ ⟨u,N,rfl,hz⟩;obtain⟨r,hr,rfl⟩:=c9 he;have hi:=(aO.mp hr).1;have hrr:=hR r (bC hr);have hg:R.getD i []=r:=by rw[br,hr];rfl
  have S:bE (r.map aq) (pl:Int)=some (.int (gI r pl)):=eu ∅ (by rw[bw,jw,hrr.at hpl];rfl);have Z4:=KL T i;rfl';refine Ev.Ni ?_;rfl';refine⟨gU T,rfl,_,rfl,?_⟩;rw[Z4];have a:(i∉T.map (·.1)->gI r pl=0)->∀j<i+1,j∉T.map (·.1)->gI (R.getD j []) pl=0:=λh j hj hn=>by
   by_cases c:j=i;·subst c;rw[hg];exact h hn
   .exact hz j ∅ hn
  by_cases c:i∈T.map (·.1)
  .rw[if_neg (by simpa using c)];rfl';exact⟨_,_,rfl,a λh=>absurd c h⟩
  .rw[if_pos (by simpa using c)];rfl';by_cases c2:gI r pl=0
   .rfl';exact⟨_,_,rfl,a λ_=>c2⟩
   .rfl';exact q2 i hi c (by rw[hg];exact c2)
 .rintro ρ ⟨u,N,rfl,hz⟩;rfl';refine O λi hi=>hz i (by rw[x];exact hi)
def Ko:DF:=λds Φ=>∃(p c:Int) (w:Nat) (r o:List Int),ds=[.int p,cA r, .int c,cA o]/\0<p/\p<10^40/\cZ p w r/\cZ p w o/\w<=10000/\0<=c/\c<p/\∀f:Bool,Φ f (cA (gZ p c r o))
def U1:cW Ko:=by
 intro ds Φ Ψ hm z;revert hm;walk_at "mo";exact λq=>λf=>z _ _ (q f)
def T8:cg ["p","row","factor","own"] ["p","row","factor","own"] (aJ yr):=⟨rfl,rfl,rfl,by decide+kernel,rfl,by decide+kernel,by decide+kernel⟩
theorem SD(F:bQ K "less" "less" yr f fd)(Gu:mg "zip"=none):
  bD P w K mg base bM 1 f fd ["p","row","factor","own"] (bF 4 Ko):=by
 refine F.ok T8 (λvs H Q E h=>h.1) (λcdv A outer s H vs Q E hr h=>?_);obtain⟨nb,ds,Φ,C,I,D,X⟩:=fK h;obtain⟨p,c,w,r,o,rfl,hp,Z,hr,ho,hw,c0,c1,q⟩:=X;refine⟨_,(@aA _ _ _ _ _ (@dJ _ _ _ _ _ _ _ _ #[13,pv 2] (@aI _ _ _ (@bf _ _ _ _ (pv 1))) dO) #[5,dY (cz.of (show cO (aJ yr) ["p","row","factor","own"] _ ["number","other","p","factor"] [none,none,some 0,some 2]=true by decide+kernel)) (@PH _ (K) _ _ _ _ _ _ _ _ _ rfl rfl Gu (pv 1) (pv 3) (by rfl) (by rfl) (by rfl)) (λ_ _ _ _=>⟨#[8,#[1,(by show aR (["number","other","p","factor"]:List Str);decide+kernel)],aK (i:=1) (by show aR (["number","other","p","factor"]:List Str);decide+kernel) rfl (be rfl)],gJ,(@aM _ _ _ _ _ _ _ _ ia (@aM _ _ _ _ _ _ _ _ nE (pv 0) (@aM _ _ _ _ _ _ _ _ iD (pv 3) (pv 1))) (pv 2))⟩)]),?_⟩;refine Sv.fu C I D (ρ:=[.d false _, .d false _, .d false _, .d false _]) rfl ?_;clear D I;have hrl:(r.map aq).length=r.length:=ao ..;have ki:(o.map aq).length=o.length:=ao ..;have hl:=hr.len;have hl2:=ho.len;have u:∀x:Int,0<=x->x<=p->Sm x:=λx Y W=>by unfold Sm;omega
 have sc:∀L:List Int,fc (L.map aq)=true:=λL=>by unfold fc;simp[Ec,jt]
 rfl';by_cases a:c=0
 .rw[if_pos (decide_eq_true a)];rfl';have:=q false;rw[a,VA hr ho] at this;exact this
 .rw[if_neg (by simpa using a)];rfl';refine az.ev (az.Ub ⋯ rfl ?_);rfl';refine⟨sc r,∅,λv=>?_⟩;rfl';refine⟨sc o,∅,λb=>⟨true,λi ds=>ds=(gZ p c (r.take i) (o.take i)).map aq,rfl,?_,?_⟩⟩
  .rintro i d ds ⟨e,e2,he,he2,rfl⟩ hl' rfl;obtain⟨x,hx,rfl⟩:=c9 he;obtain⟨y,hy,rfl⟩:=c9 he2;obtain⟨Y,W⟩:=hr.rg x (bC hx);obtain⟨m,t⟩:=ho.rg y (bC hy);have s1:=u c c0 ∅;have s2:=u x Y ∅;have s3:=u y m ∅;rfl';refine⟨by walk_at "wk",?_⟩;rfl';show _=a3 aq (gZ p c (r.take (i+1)) (o.take (i+1)));unfold gZ;rw[Ai hx,Ai hy,List.zipWith_append (by rw[iG,iG];omega),bS]
   rfl
  rintro ds hl' rfl;rw[hrl,c6,show r.length=o.length by omega,c6];exact q _
def HG:DF:=λds Φ=>∃(p:Int) (w:Nat) (R:List (List Int)) (k pl:Nat),ds=[.int p, .list (R.map cA), .int k, .int pl]/\gc p/\p<10^40/\ny p w R/\R.length<=9000/\k<R.length/\pl<w/\w<=9000/\gI (R.getD k []) pl≠0/\
 ∀(f:Bool) (inv:Int),(∃j,inv*gI (R.getD k []) pl=1+p*j)->Φ f (.list ((jk p inv R k pl).map cA))
def Wx:cW HG:=by
 intro ds Φ Ψ hm z;revert hm;walk_at "mo";exact λq=>λf inv h=>z _ _ (q f inv h)
def EA:cg ["p","rows","k","place","own","told"] ["p","rows","k","place"] (aJ Ah):=⟨rfl,rfl,rfl,by decide+kernel,rfl,by decide+kernel,by decide+kernel⟩
theorem X8(F:bQ K "cleared" "cleared" Ah f fd)(u:Callee P w K mg base "times" 1 ["p","factor","row"] (bF 3 AX))(c:Callee P w K mg base "inverse" 2 ["p","b"] Am)(n:Callee P w K mg base "less" 1 ["p","row","factor","own"] (bF 4 Ko)):
  bD P w K mg base bM 3 f fd ["p","rows","k","place"] (bF 4 HG):=by
 refine F.ok EA (λvs H Q E h=>h.1) (λcdv A outer s H vs Q E hr h=>?_);obtain⟨nb,ds,Φ,C,I,D,X⟩:=fK h;obtain⟨p,w,R,k,pl,rfl,hp,Z,hR,y,hk,hpl,hw,J,q⟩:=X;refine⟨_,(@aA _ _ _ _ _ (@aX _ _ (4) _ _ _ _ EA.nd rfl (ee rfl) #[0,u,(@aa _ _ _ _ _ (pv 0) #[16,#[0,c,#[6,@aD _ _ _ _ _ _ (bO K) bA (@aD _ _ _ _ _ _ (bO K) bA (pv 1) (pv 2) (λ_ _=>rfl)) (pv 3) (λ_ _=>rfl)]],@aD _ _ _ _ _ _ (bO K) bA (pv 1) (pv 2) (λ_ _=>rfl)] rfl)] (by rfl) (by first|exact .inl rfl|exact .inr rfl|assumption)) #[3,nu (i:=5) EA.nd rfl rfl (cz.of (show cO (aJ Ah) ["p","rows","k","place","own","told"] _ ["row","p","place","own"] [none,some 0,some 3,some 4]=true by decide+kernel)) (dI (K:=K) rfl (pv 1)) (λ_ _ _ _=>⟨#[1,(by show aR (["row","p","place","own"]:List Str);decide+kernel)],gJ,#[0,n,@aa _ _ _ _ _ (pv 1) (@aa _ _ _ _ _ (pv 0) (@aa _ _ _ _ _ (@aD _ _ _ _ _ _ (bO K) bA (pv 0) (pv 2) (λ_ _=>rfl)) (@aa _ _ _ _ _ (pv 3) ak rfl) rfl) rfl) rfl]⟩),#[20,pv 4,pv 5,pv 2],pv 5]),?_⟩;refine Sv.fu C I D (ρ:=[.d false _, .d false _, .d false _, .d false _, .no, .no]) rfl ?_;clear D I;have p2:=hp.1;have x:(R.map cA).length=R.length:=ao ..;have l:cZ p w R[k]:=hR _ (cU hk);have b:R.getD k []=R[k]:=mP hk;rw[b] at J q;have t:bE (R.map cA) (k:Int)=some (cA R[k]):=eu ∅ (by rw[bw,jw,aC hk];rfl);have o:∀r,cZ p w r->bE (r.map aq) (pl:Int)=some (.int (gI r pl)):=λr h=>eu ∅ (by rw[bw,jw,h.at hpl];rfl);have ahD:=o R[k] l;obtain⟨T,g1⟩:=l.g (i:=pl) ∅;have e:gI R[k] pl%p≠0:=by rw[kX T g1];exact J
 rfl';refine Ev.dh WR ?_;rfl';refine Ev.inv ?_;rfl';refine⟨p,gI R[k] pl,rfl,hp,Z,e,λinv i0 B m=>?_⟩;rfl';refine⟨rfl,p,inv,w,R[k],rfl,∅,Z,l,∅,i0,B,?_⟩;obtain⟨own,a⟩:∃own,mulR p inv R[k]=own:=⟨_,rfl⟩;have j:cZ p w own:=by rw[<-a];exact l.mul ∅
 rw[a];refine Gv.name ?_;refine Sv.seq ?_;refine Sv.Fq ?_;refine az.gK ⋯ rfl ?_;rfl';refine λv=>⟨false,λi ds=>ds=((R.take i).map λr=>gZ p (gI r pl) r own).map cA,rfl,?_,?_⟩
 .rintro i d ds hd hl' rfl;obtain⟨r,hr,rfl⟩:=c9 hd;have hrr:=hR r (bC hr);have ahM:=o r hrr;obtain⟨r0,M⟩:=hrr.g (i:=pl) ∅;rfl';refine⟨by walk_at "wk",?_⟩;rfl';refine Ev.dh U1 ?_;rfl';refine⟨rfl,p,gI r pl,w,r,own,rfl,∅,Z,hrr,j,∅,r0,M,λf=>⟨λz=>(by cases z),?_⟩⟩;show _=a3 cA (a3 _ (R.take (i+1)));rw[Ai hr,bS,bS]
  rfl
 rintro ds hl' rfl;rw[x,c6];intro A5;rfl';have U:dS (a3 cA (a3 (λr=>gZ p (gI r pl) r own) R)).length (k:Int)=some k:=by
  unfold dS;rw[ao,ao]
  repeat (first|rw[if_pos ∅]|rw[if_neg ∅])
  simp
 refine⟨_,k,rfl,U,?_⟩;refine Sv.mD 5 rfl ?_;rfl';rw[<-mX];have:=q;unfold jk at this;simp only[b] at this;rw[<-a];exact this _ inv m
noncomputable def S0(L:List Nat):PyData:= .list (L.map λ(i:Nat)=> .int (i:Int))
def Ex:DF:=λds Φ=>∃(p:Int) (w:Nat) (R:List (List Int)) (L:List Nat),ds=[.int p, .list (R.map cA),S0 L]/\gc p/\p<10^40/\ny p w R/\R.length<=9000/\w<=9000/\(∀d∈L,d<w)/\L.length<=9000/\
 ∀(f:Bool) (c:List (List Int)) (T:List (Nat×Nat)),jc p w R c T L->T.length<=9000->Φ f (.tuple [.list (c.map cA), .dict ((gU T).map cP)])
def We:cW Ex:=by
 intro ds Φ Ψ hm z;revert hm;walk_at "mo";exact λq=>λf c T a b=>z _ _ (q f c T a b)
def Y5(T:List (Nat×Nat)){k d:Nat}(h:k∉T.map (·.1)):kF (gU T) (k:Int) (.int d)=gU (T++[(k,d)]):=by
 unfold kF;rw[KL,if_neg (by simpa using h)];unfold gU;rw[bS]
 rfl
def LX{L:List Nat}(h:(L.map λ(i:Nat)=>aq (i:Int))[i]?=some d):∃x,L[i]?=some x/\d= .int (x:Int):=by
 rw[bw] at h;obtain⟨x,e,h⟩:=kK.mp h;exact⟨x,e,h.symm⟩
def uX:cg ["p","rows","places","taken","place","k"] ["p","rows","places"] (aJ Jk):=⟨rfl,rfl,rfl,by decide+kernel,rfl,by decide+kernel,by decide+kernel⟩
theorem F7(F:bQ K "swept" "swept" Jk f fd)(a:Callee P w K mg base "first_with" 1 ["rows","taken","place"] (bF 3 Fx))(b:Callee P w K mg base "cleared" 3 ["p","rows","k","place"] (bF 4 HG)):
  bD P w K mg base bM 4 f fd ["p","rows","places"] (bF 3 Ex):=by
 refine F.ok uX (λvs H Q E h=>h.1) (λcdv A outer s H vs Q E hr h=>?_);obtain⟨nb,ds,Φ,C,I,D,X⟩:=fK h;obtain⟨p,w,R,L,rfl,hp,gy,hR,y,hw,hL,De,q⟩:=X;refine⟨_,#[3,#[22,uX.nd,Dz],@gX _ _ _ _ _ _ _ _ fF rfl (dI (K:=K) rfl (pv 2)) (aK (i:=4) uX.nd rfl (be rfl)) (@aA _ _ _ _ _ #[27,uX.nd,#[0,a,@aa _ _ _ _ _ (pv 1) (@aa _ _ _ _ _ (pv 3) (@aa _ _ _ _ _ (pv 4) ak rfl) rfl) rfl]] (@aI _ _ _ (@dJ _ _ _ _ _ _ _ _ (@bB _ _ _ _ _ _ _ _ qO (pv 5) iY (bu _)) (@aA _ _ _ _ _ (@gF _ _ _ _ _ _ (pv 4) (jv (pv 3) (pv 5) set_dict) (by rfl) (by rfl) (by rfl)) (@aI _ _ _ #[23,uX.nd,#[0,b,@aa _ _ _ _ _ (pv 0) (@aa _ _ _ _ _ (pv 1) (@aa _ _ _ _ _ (pv 5) (@aa _ _ _ _ _ (pv 4) ak rfl) rfl) rfl) rfl]])) dO))) (by intro _;rfl),@iJ _ _ _ _ _ (@aa _ _ _ _ _ (pv 1) (@aa _ _ _ _ _ (pv 3) ak rfl) rfl)],?_⟩;refine Sv.fu C I D (ρ:=[.d false _, .d false _, .d false _, .no, .no, .no]) rfl ?_;clear D I;have p2:=hp.1;have l:(L.map λ(i:Nat)=>aq (i:Int)).length=L.length:=ao ..;refine Sv.seq ?_;refine Sv.Be (oE.new ?_);intro A3;refine Sv.seq ?_;refine Sv.forL ?_;refine Ev.var rfl ?_;refine⟨_,rfl,λv=>⟨λi ρ=>∃(c:List (List Int)) (T:List (Nat×Nat)) (f1 f3:Bool) (N Z:Sl),jc p w R c T (L.take i)/\T.length<=i/\ρ=[.d false (.int p), .d f1 (.list (c.map cA)), .d false (S0 L), .bK A3 f3 (gU T),N,Z],⟨R,[],_,_,_,_,jc.init hR,aW _,rfl⟩,?_,?_⟩⟩
 .rintro i d ρ hd ⟨c,T,f1,f3,N,Z,hS,ou,rfl⟩;obtain⟨pl,hpl,rfl⟩:=LX hd;have hil:=(aO.mp hpl).1;have Et:=hL pl (bC hpl);have ah8:=hS.len;refine Gv.pM ?_;refine Sv.seq ?_;refine Sv.asg ?_;refine Ev.Gk ?_;refine iM.Mb 3 rfl ?_;refine iM.dh Ro ?_;rfl';refine⟨rfl,p,w,c,T,pl,rfl,hS.ok,∅,gy,∅,∅,Et,∅,λhz=>⟨rfl,?_⟩,λk hk o J=>⟨rfl,?_⟩⟩
  .refine Gv.name ?_;rfl';refine⟨c,T,_,_,_,_,?_,∅,rfl⟩;rw[Ai hpl];exact hS.skip hz
  .refine Gv.name ?_;generalize jo:(lW (fV (bZ 4) (nY (bZ 3) (bZ 5) G9)) _:TS)=tl;rfl';subst jo;refine Sv.seq ?_;refine Sv.C8 rfl ?_;rfl';refine⟨by unfold gU;rw[ao];omega,?_⟩;rw[Y5 T o];refine Sv.asg ?_;refine Ev.dh Wx ?_;rfl';refine⟨rfl,p,w,c,k,pl,rfl,hp,gy,hS.ok,∅,hk,Et,∅,J,λf inv m=>?_⟩;refine Gv.name ?_;refine⟨_,_,_,_,_,_,?_,by rw[fk,i9];omega,rfl⟩;rw[Ai hpl];exact hS.take ∅ (λe he=>hL e (pN he)) Et hk o J m
 .rintro ρ ⟨c,T,f1,f3,N,Z,hS,ou,rfl⟩;rw[l] at ou hS;rw[c6] at hS;refine Sv.TY 3 rfl ?_;rfl';exact q _ c T hS ∅
def Iq:DF:=λds Φ=>∃(p n:Int) (cs:List aj) (w:Nat) (r:List Int) (wd:Wo),ds=[bR p n cs,cA r,dU wd]/\0<p/\p<10^40/\0<=n/\n<=9000/\n.toNat<=w/\w<=9000/\cZ p w r/\wd.length=n.toNat/\(∀x,some x∈wd->0<=x/\x<p)/\Φ true (.int (aE (dD wd) r%p))
def Ve:cW Iq:=by
 intro ds Φ Ψ hm z;revert hm;walk_at "mo";exact λq=>z _ _ q
def XG:cg ["net","row","word"] ["net","row","word"] (aJ Di):=⟨rfl,rfl,rfl,by decide+kernel,rfl,by decide+kernel,by decide+kernel⟩
theorem Vo(F:bQ K "reached_by" "reached_by" Di f fd)(c:Callee P w K mg base "total" 1 ["p","pairs","word"] xR)(dw:mg "list"=none)(ja:mg "enumerate"=none):
  bD P w K mg base bM 2 f fd ["net","row","word"] (bF 3 Iq):=by
 refine F.ok XG (λvs H Q E h=>h.1) (λcdv A outer s H vs Q E hr h=>?_);obtain⟨nb,ds,Φ,C,I,D,X⟩:=fK h;obtain⟨p,n,cs,w,r,wd,rfl,hp,Z,n0,n1,l,hw,b,hwl,m,q⟩:=X;refine⟨_,#[5,#[0,c,@aa _ _ _ _ _ (@aD _ _ _ _ _ _ (bJ K) bU (pv 0) au (λ_ _=>rfl)) (@aa _ _ _ _ _ (@Dt _ (K) _ _ _ _ _ _ rfl rfl rfl dw rfl ja (@rq _ _ _ _ _ _ _ _ _ (mC K) qH (pv 1) sq (@rG _ _ _ #[12])) (by rfl) (by rfl)) (@aa _ _ _ _ _ (pv 2) ak rfl) rfl) rfl]],?_⟩;refine Sv.fu C I D (ρ:=[.d false _, .d false _, .d false _]) rfl ?_;clear D I;have hrl:(r.map aq).length=r.length:=ao ..;have hl:=b.len;have u:∀x:Int,0<=x->x<=p->Sm x:=λx Y W=>by unfold Sm;omega
 have sc:∀L:List Int,fc (L.map aq)=true:=λL=>by unfold fc;simp[Ec,jt]
 rfl';refine Ev.total ?_;rfl';refine az.ev (az.Rc ?_);rfl';have pe:ko (r.map aq) none (some n)=(r.take n.toNat).map aq:=by
  unfold ko HT.gb;simp only[Kr,vw];rw[Cy,hrl]
  congr 1
  first|omega|(split<;>omega)
 rw[pe];refine⟨sc _,?_⟩;have e2:a3 (λq:PyData×Nat=>ix [aq (q.2:Int),q.1]) ((r.take n.toNat).map aq).zipIdx=((r.take n.toNat).zipIdx.map λq=>((q.2:Int),q.1)).map Ap:=by
  rw[List.zipIdx_map,j7,j7]
  rfl
 rw[e2];rfl';refine⟨p,_,wd,rfl,hp,λpr G=>?_,λx hx=>u x (m x hx).1 (by have:=(m x hx).2;omega),?_⟩
 .obtain⟨qq,hq,rfl⟩:=cL.mp G;obtain⟨i,hi⟩:=ic hq;rw[zy] at hi;obtain⟨x,e,h2⟩:=kK.mp hi;subst h2;have hil:=(aO.mp e).1;rw[iG] at hil;have hx:=b.rg x (pN (bC e));refine⟨by show(0:Int)<=((0+i:Nat):Int);omega,by show((0+i:Nat):Int)<(wd.length:Int);omega,u x hx.1 ∅⟩
 .rw[Tb hwl];exact q
def Hr:DF:=λds Φ=>∃(p n:Int) (cs:List aj) (wd:Wo) (pl:Nat),ds=[bR p n cs,dU wd, .int (pl:Int)]/\iB p n cs/\wd.length=n.toNat/\(∀x,some x∈wd->0<=x/\x<p)/\wd[pl]?=some none/\
 (∀v bz,sD p n cs wd pl v bz->Φ true (.tuple [.str "told", .int v,cA bz]))/\∀u,fW p n cs (jm wd pl) u->Φ true (.tuple [.str "open",cA u])
def IS:cW Hr:=λds Φ Ψ ⟨p,n,cs,wd,pl,e,h1,h2,h3,h4,O,q2⟩ z=>⟨p,n,cs,wd,pl,e,h1,h2,h3,h4,λv bz h=>z _ _ (O v bz h),λu h=>z _ _ (q2 u h)⟩
def KY{q:Int×PyData}(h:(gU T)[i]?=some q):∃t,T[i]?=some t/\q=((t.1:Int), .int (t.2:Int)):=by
 unfold gU at h;rw[bw] at h;obtain⟨t,e,h⟩:=kK.mp h;exact⟨t,e,h.symm⟩
theorem XC(nd:(T.map (·.1)).Nodup):∀{t:Nat×Nat},t∈T->iV (gU T) (t.1:Int)=some (.int (t.2:Int)):=by
  induction T with
  |nil=>intro t h;cases h
  | cons s T ih =>
    intro t h;rw[bG,jn] at nd;show iV (((s.1:Int),aq (s.2:Int))::gU T) (t.1:Int)=_;rw[rm];rcases aY.mp h with z|z
    · rw[z,if_pos rfl]
    · rw[if_neg]
      · exact ih nd.2 z
      · show¬((s.1:Nat):Int)=(t.1:Nat)
        intro y;exact nd.1 (by rw[show s.1=t.1 by omega];exact uI z)
def qb:cg ["net","word","place","p","others","found","rows","taken","told","k"] ["net","word","place"] (aJ yt):=⟨rfl,rfl,rfl,by decide+kernel,rfl,by decide+kernel,by decide+kernel⟩
theorem BH(F:bQ K "settled" "settled" yt f fd)(YX:Callee P w K mg base "swept" 4 ["p","rows","places"] (bF 3 Ex))(q:Callee P w K mg base "rows_of" 1 ["net"] (bF 1 Dv))(W:Callee P w K mg base "lost_of" 1 ["word"] (bF 1 Ic))(J:Callee P w K mg base "reached_by" 2 ["net","row","word"] (bF 3 Iq)):
  bD P w K mg base bM 5 f fd ["net","word","place"] (bF 3 Hr):=by
 refine F.ok qb (λvs H Q E h=>h.1) (λcdv A outer s H vs Q E hr h=>?_);obtain⟨nb,ds,Φ,C,I,D,X⟩:=fK h;obtain⟨p,n,cs,wd,pl,rfl,hN,hwl,m,hpl,O,q2⟩:=X;refine⟨_,#[10,#[22,qb.nd,#[12]],nu (i:=4) qb.nd rfl rfl (cz.of (show cO (aJ yt) ["net","word","place","p","others","found","rows","taken","told","k"] _ ["other","place"] [none,some 2]=true by decide+kernel)) (dI (K:=K) rfl #[0,W,@aa _ _ _ _ _ (pv 1) ak rfl]) (λ_ _ _ _=>⟨#[1,(by show aR (["other","place"]:List Str);decide+kernel)],(iX (@bB _ _ _ _ _ _ _ _ iZ (pv 0) (pv 1) (bu _))),(pv 0)⟩),#[21,#[27,qb.nd,#[0,YX,(@aa _ _ _ _ _ (pv 3) #[16,#[24,q],@aM _ _ _ _ _ _ _ _ ya (pv 4) (@gR _ _ _ _ (@aa _ _ _ _ _ (pv 2) ak rfl))] rfl)]],#[29,qb.nd,@aD _ _ _ _ _ _ (bJ K) bU (pv 5) au (λ_ _=>rfl)],#[26,qb.nd,@aD _ _ _ _ _ _ (bJ K) bU (pv 5) au (λ_ _=>rfl)],@aX _ _ (8) _ _ _ _ qb.nd rfl (be rfl) (@aM _ _ _ _ _ _ _ _ Cw (@gR _ _ _ _ (@aa _ _ _ _ _ au ak rfl)) #[12]) (by rfl) (by first|exact .inl rfl|exact .inr rfl|assumption),#[3,#[20,au,pv 8,pv 2],@TX _ _ _ (@gX _ _ _ _ _ _ _ _ fF rfl (@Oy _ _ _ _ (pv 7)) (aK (i:=9) qb.nd rfl (be rfl)) (@aA _ _ _ _ _ (@dJ _ _ _ _ _ _ _ _ (@bB _ _ _ _ _ _ _ _ fX (@aD _ _ _ _ _ _ (uK) Ii (pv 7) (pv 9) (λ_ _=>rfl)) (pv 2) (bu _)) (@aI _ _ _ (@bf _ _ _ _ (@iJ _ _ _ _ _ (@aa _ _ _ _ _ tG #[16,@aM _ _ _ _ _ _ _ _ ia (@sL _ _ _ _ _ _ uB #[0,J,@aa _ _ _ _ _ (pv 0) (@aa _ _ _ _ _ (@aD _ _ _ _ _ _ (bO K) bA (pv 6) (pv 9) (λ_ _=>rfl)) (@aa _ _ _ _ _ (pv 1) ak rfl) rfl) rfl]) (pv 3),@rq _ _ _ _ _ _ _ _ _ (mC K) qH (@aD _ _ _ _ _ _ (bO K) bA (pv 6) (pv 9) (λ_ _=>rfl)) (@rG _ _ _ #[12]) sq] rfl)))) dO) (@aI _ _ _ #[20,@aM _ _ _ _ _ _ _ _ ia (@sL _ _ _ _ _ _ uB (@aD _ _ _ _ _ _ (bO K) bA (@aD _ _ _ _ _ _ (bO K) bA (pv 6) (pv 9) (λ_ _=>rfl)) (pv 2) (λ_ _=>rfl))) (pv 3),pv 8,@aD _ _ _ _ _ _ (uK) Ii (pv 7) (pv 9) (λ_ _=>rfl)])) (by intro _;rfl)),@iJ _ _ _ _ _ (@aa _ _ _ _ _ tG (@aa _ _ _ _ _ (pv 8) ak rfl) rfl)]]],?_⟩;refine Sv.fu C I D (ρ:=[.d false _, .d false _, .d false _, .no, .no, .no, .no, .no, .no, .no]) rfl ?_;clear D I;have p2:=hN.hp.1;have iE:=hN.iE;have n0:=hN.n0;have n1:=hN.n1;have hcl:=hN.cl;have uy:=(aO.mp hpl).1;have FT:(wd.map cT).length=wd.length:=ao ..;have o8:(jZ wd).length<=wd.length:=by unfold jZ;exact dP (oN ..) (by rw[kD];exact aW _)
 have ki:(mJ wd pl).length<=wd.length:=dP (oN ..) o8;have b:(fU wd).map aq=(jZ wd).map λ(i:Nat)=>aq (i:Int):=by
  unfold fU jZ;rw[j7]
  rfl
 rfl';refine az.ev (az.gK ⋯ rfl ?_);refine Ev.dh TN ?_;rfl';refine⟨rfl,wd,rfl,∅,_,rfl,?_⟩;rw[b];refine⟨by rw[ao];omega,λv=>⟨true,λi ds=>ds=(((jZ wd).take i).filter λi=>decide (i≠pl)).map λ(i:Nat)=>aq (i:Int),rfl,?_,?_⟩⟩
 .rintro i d ds hd hl' rfl;obtain⟨o,ho,rfl⟩:=LX hd;have hs:=Ai ho;rfl';refine⟨by walk_at "wk",?_⟩;rfl';by_cases c:o=pl
  .rw[if_neg (by simp[c])];show _=a3 _ (cj _ (ip (i+1) (jZ wd)));rw[hs,jx];simp[c]
  .rw[if_pos (by simp;omega)];rfl';show _=a3 _ (cj _ (ip (i+1) (jZ wd)));rw[hs,jx,bS];simp[c]
 .rintro ds hl' rfl;rw[ao,c6];rfl';refine Ev.dh We ?_;rfl';refine Ev.dh P2 ?_;rfl';refine⟨rfl,p,n,cs,rfl,hN,λM=>?_⟩;rfl';have SH:(cj (λi=>decide (i≠pl)) (jZ wd)).length<=wd.length:=ki;refine⟨by rw[ao];show _+1<=10000;omega,?_⟩;rfl';refine⟨rfl,p,n.toNat+cs.length,iz n.toNat cs.length cs,mJ wd pl++[pl],?_,hN.hp,iE,hN.rows,by rw[En];omega,∅,λd hd=>?_,by rw[fk,i9];omega,λf1 R T N Y=>?_⟩
  .show[aq p,dq _,dq _]=[aq p,dq _,dq _];rw[bS]
   rfl
  .rcases dM.mp hd with z|z
   .have:=(aO.mp (xq.mp z).1).1;omega
   .rw[aZ.mp z];omega
  have y:R.length=cs.length:=by rw[N.len,En]
  generalize jo:(lW (fV (cQ sE _ _) (fB 8)) _:TS)=tl;rfl';subst jo;refine Sv.seq ?_;refine Sv.sZ (az.yD ?_);rfl';intro g0;have hz:ar n.toNat (aq 0)=(ar n.toNat (0:Int)).map aq:=by rw[xV]
  rw[hz];intro A8;have U:∀(u:List Int) (j:Nat),u.length=n.toNat->j<n.toNat->dS (u.map aq).length (j:Int)=some j:=λu j h1 h2=>by
   unfold dS;rw[ao]
   repeat (first|rw[if_pos ∅]|rw[if_neg ∅])
   simp
  refine Sv.seq ?_;refine Sv.rV rfl ?_;rfl';refine⟨_,_,rfl,U _ pl (lN ..) ∅,?_⟩;rw[<-mX];refine Sv.lift 8 rfl (Jt _) ?_;refine Sv.seq ?_;refine Sv.YC ?_;refine Ev.var rfl ?_;refine⟨gU T,rfl,λl v=>?_⟩;have hTm:(gU T).length=T.length:=by unfold gU;exact ao ..
  have x:(R.map cA).length=R.length:=ao ..;refine⟨λi ρ=>∃(u:List Int) (e:Sl),OI p n wd pl R (T.take i) u/\ρ=[.d false (bR p n cs), .d false (dU wd), .d false (.int (pl:Int)), .d true (.int p), .d false (.list ((mJ wd pl).map λ(i:Nat)=> .int (i:Int))), .d false (.tuple [.list (R.map cA), .dict ((gU T).map cP)]), .d false (.list (R.map cA)), .d false (.dict ((gU T).map cP)), .own A8 true (u.map .int),e],?_,?_,?_⟩;·exact⟨_,_,OI.init ∅ ∅,rfl⟩
  .rintro i d ρ ⟨kv,hkv,rfl⟩ ⟨u,e,hI,rfl⟩;obtain⟨t,ht,rfl⟩:=KY hkv;have pV:=bC ht;have jo:=(aO.mp ht).1;have htr:=N.rg t pV;have hval:=XC N.nd pV;have Z:R[t.1]?=some (R.getD t.1 []):=by rw[mP htr.1];exact aC htr.1
   have hrr:cZ p (n.toNat+cs.length) (R.getD t.1 []):=by rw[mP htr.1];exact N.ok _ (cU htr.1)
   obtain⟨r,hr⟩:∃r,R.getD t.1 []=r:=⟨_,rfl⟩;rw[hr] at Z hrr;have S:bE (R.map cA) (t.1:Int)=some (cA r):=eu ∅ (by rw[bw,jw,Z];rfl);have a:t.2<n.toNat:=by
    rcases dM.mp htr.2 with z|z
    .have:=(aO.mp (xq.mp z).1).1;omega
    .rw[aZ.mp z];omega
   have hrl:=hrr.len;rfl';refine Ev.OV ?_;rfl';refine⟨gU T,rfl,?_⟩;rfl';refine⟨_,hval,?_⟩;rfl';by_cases c:t.2=pl
   .rw[if_pos (by simp[c])];rfl';refine Ev.dh Ve ?_;rfl';refine⟨rfl,p,n,cs,n.toNat+cs.length,r,wd,rfl,∅,iE,∅,∅,∅,∅,hrr,hwl,m,?_⟩;rfl';have G:(r.map aq).length=r.length:=ao ..;have pe:ko (r.map aq) (some n) none=(r.drop n.toNat).map aq:=by
     unfold ko HT.gb;show ip (_-if n<0 then _ else _) (zN (if n<0 then _ else _) _)=_;rw[if_neg ∅,G,A6 ∅,Hg];apply vg;rw[sW,G];exact aW _
    rw[pe];have PF:=Yo hN hwl N (k:=t.1) (pl:=pl) (by rw[<-c];exact pV);rw[hr] at PF;have en: -(aE (dD wd) r%p)%p= -(aE (dD wd) r)%p:=by
     rw[qX (aE (dD wd) r),Int.neg_sub,Int.sub_eq_add_neg,Int.add_comm,uT]
    rw[en,Jt];exact O _ _ PF
   .rw[if_neg (by simp;omega)];have V:bE (r.map aq) (pl:Int)=some (.int (gI r pl)):=eu ∅ (by rw[bw,jw,hrr.at ∅];rfl);rfl';refine Ev.OV ?_;rfl';refine⟨gU T,rfl,?_⟩;rfl';refine⟨_,hval,_,_,rfl,U u t.2 hI.len a,?_⟩;rw[<-mX];refine⟨_,_,?_,rfl⟩;rw[Ai ht,<-hr];refine hI.step ∅ a c λL g z=>?_;have h1:=N.inj (pN g) pV z;obtain⟨j,hj⟩:=ic g;have B:j<i:=by have:=(aO.mp hj).1;rw[iG] at this;omega
    rw[yL B] at hj;have hjl:=(aO.mp hj).1;have nd:=N.nd
    have:=(Ji (i:=j) (j:=i) (h₀:=by rw[ao];exact hjl) (h₁:=by rw[ao];exact jo) nd).mp (by
     rw[pk,pk,(aO.mp hj).2,(aO.mp ht).2];exact h1)
    omega
  .rintro ρ ⟨u,e,hI,rfl⟩;rw[hTm,c6] at hI;refine Sv.mD 8 rfl ?_;rfl';exact q2 u (hI.word hN hwl hpl N)
def GP:DF:=λds Φ=>∃(rows:List (List Int)) (aB:List Int),ds=[.list (rows.map cA), .list (aB.map .int)]/\(∀p∈aB,0<=p/\p<rows.length)/\(∀r∈rows,∀c∈r,0<=c/\c<(1000:Nat))/\Φ true (.bool (wZ (Lr rows aB)))
def Uj:cW GP:=by
 intro ds Φ Ψ hm z;revert hm;walk_at "mo";exact λq=>z _ _ q
def V0{rows:List (List Int)}{aB:List Int}{c:Int}(h:c∈Lr rows aB):∃r∈rows,c∈r:=by
 obtain⟨p,_,h⟩:=wK.mp h;rw[br] at h;cases e:rows[p.toNat]? with
 |none=>rw[e] at h;simp at h
 |some r=>rw[e] at h;exact⟨r,bC e,h⟩
def AI:cg ["seated","lot","counts","place","c"] ["seated","lot"] (aJ Dl):=⟨rfl,rfl,rfl,by decide+kernel,rfl,by decide+kernel,by decide+kernel⟩
theorem Up(F:bQ K "stands" "stands" Dl f fd)(dw:mg "list"=none):
  bD P w K mg base bM 1 f fd ["seated","lot"] (bF 2 GP):=by
 refine F.ok AI (λvs H Q E h=>h.1) (λcdv A outer s H vs Q E hr h=>?_);obtain⟨nb,ds,Φ,C,I,D,X⟩:=fK h;obtain⟨rows,aB,rfl,hp,hc,q⟩:=X;refine⟨_,#[3,#[15,AI.nd,Dz],#[11,dI (K:=K) rfl (pv 1),aK (i:=3) AI.nd rfl (be rfl),#[11,dI (K:=K) rfl (@aD _ _ _ _ _ _ (bO K) bA (pv 0) (pv 3) (λ_ _=>rfl)),aK (i:=4) AI.nd rfl (be rfl),@gF _ _ _ _ _ _ (@aM _ _ _ _ _ _ _ _ gm (qi DM Nm PySem.F.type_dict_get RF (pv 2) (@aa _ _ _ _ _ (pv 4) (@aa _ _ _ _ _ au ak rfl) rfl)) au) (jv (pv 2) (pv 4) set_dict) (by rfl) (by rfl) (by rfl)]],jq (Zq (K:=K) (by rfl)) au (@j6 _ _ _ _ _ _ _ _ (DV) (Y9 rfl) rfl dw jD #[2,J0 DM Ny PySem.F.type_dict_values YA (pv 2)] ⋯ ⋯ (by rfl) (by rfl)) (by with_unfolding_all rfl)],?_⟩;refine Sv.fu C I D (ρ:=[.d false _, .d false _, .no, .no, .no]) rfl ?_;clear D I;refine Sv.seq ?_;refine Sv.Be (oE.new ?_);intro A2;refine Sv.seq ?_;refine Sv.forL ?_;rfl';refine λv1=>⟨λi ρ=>∃(ks:Ks) (f:Bool) (u N:Sl),kB (Lr rows (aB.take i)) ks/\ρ=[.d false (.list (rows.map cA)), .d false (.list (aB.map .int)), .bK A2 f ks,u,N],⟨[],_,_,_,kB.nil,rfl⟩,?_,?_⟩
 .rintro i d ρ hd ⟨ks,f,u,N,hk,rfl⟩;obtain⟨p,G,rfl⟩:=c9 hd;obtain⟨e,k⟩:=hp p (bC G);obtain⟨row,a,g⟩:=oG (xs:=rows) cA e k rfl;refine Gv.pM ?_;refine Sv.forL ?_;rfl';refine λb=>⟨λm ρ=>∃(ks:Ks) (f:Bool) (N:Sl),kB (Lr rows (aB.take i)++row.take m) ks/\ρ=[.d false (.list (rows.map cA)), .d false (.list (aB.map .int)), .bK A2 f ks, .d true (.int p),N],⟨ks,_,_,by simpa using hk,rfl⟩,?_,?_⟩
  .rintro m d ρ hd ⟨ks,f,N,hk,rfl⟩;obtain⟨c,gv,rfl⟩:=c9 hd;refine Gv.pM ?_;refine Sv.C8 rfl ?_;refine Ev.j5 ?_;refine Ev.BM rfl ?_;rfl';rw[hk.get c];rfl';have hlen:=hk.len (m:=1000) λx hx=>by
    rcases dM.mp hx with h|h
    .obtain⟨r,hr,hx⟩:=V0 h;exact hc r hr x hx
    .exact hc row (bC a) x (pN h)
   refine⟨∅,?_⟩;refine⟨_,_,_,?_,rfl⟩;rw[Ai gv,<-sO];exact hk.put c
  .rintro ρ ⟨ks,f,N,hk,rfl⟩;rw[ao,c6] at hk;refine⟨ks,_,_,_,?_,rfl⟩;rw[Ai G,N0,br,a];exact hk
 .rintro ρ ⟨ks,f,u,N,hk,rfl⟩;rw[ao,c6] at hk;obtain⟨ns,e1,e2⟩:=hk.vals;refine Sv.ret ?_;refine Ev.rA ?_;rfl';refine az.ev (az.GH rfl ?_);rw[e1];refine⟨ns,rfl,?_⟩;rw[e2];exact q
def Fi:DF:=λds Φ=>∃(p n:Int) (cs:List aj) (aB:List Int),ds=[bR p n cs, .list (aB.map .int)]/\qv n cs/\aB.Nodup/\(∀x∈aB,0<=x/\x<n)/\Φ true (.bool (gp cs aB))
def UZ:cW Fi:=by
 intro ds Φ Ψ hm z;revert hm;walk_at "mo";exact λq=>z _ _ q
def R4:cg ["net","lot"] ["net","lot"] (aJ HK):=⟨rfl,rfl,rfl,by decide+kernel,rfl,by decide+kernel,by decide+kernel⟩
theorem MF(F:bQ K "holds_out" "holds_out" HK f fd)(a:Callee P w K mg base "stands" 1 ["seated","lot"] (bF 2 GP))(T:Callee P w K mg base "seats" 1 ["net"] wC):
  bD P w K mg base bM 2 f fd ["net","lot"] (bF 2 Fi):=by
 refine F.ok R4 (λvs H Q E h=>h.1) (λcdv A outer s H vs Q E hr h=>?_);obtain⟨nb,ds,Φ,C,I,D,X⟩:=fK h;obtain⟨p,n,cs,aB,rfl,hN,nd,hl,q⟩:=X;refine⟨_,#[5,#[0,a,(@aa _ _ _ _ _ #[24,T] (@aa _ _ _ _ _ (pv 1) ak rfl) rfl)]],?_⟩;refine Sv.fu C I D (ρ:=[.d false _, .d false _]) rfl ?_;clear D I;have n0:=hN.n0;refine Sv.ret ?_;refine Ev.dh Uj ?_;refine Av.cons ?_;refine Ev.OL ?_;rfl';refine⟨p,n,cs,rfl,hN.LA,?_⟩;rfl';refine⟨rfl,fO n.toNat cs cs.length,aB,rfl,λx hx=>?_,λr hr c hc=>?_,?_⟩
 .rw[AV];have:=hl x hx;omega
 .obtain⟨k,hk⟩:=ic hr;have:=QF hk hc;have:=hN.cl;omega
 .rw[N1 hN nd hl];exact q
def Ij:DF:=λds Φ=>∃(prs:aj) (S:List Int) (ks:Ks),ds=[cy prs, .dict (ks.map cP)]/\(∀k,i6 ks k=decide (k∈S))/\prs.length<=10000/\Φ true (.list ((prs.filter λpr=>decide (pr.1∈S)).map λpr=> .int pr.1))
def Sn:cW Ij:=by
 intro ds Φ Ψ hm z;revert hm;walk_at "mo";exact λq=>z _ _ q
def YO:cg ["pairs","inside"] ["pairs","inside"] (aJ xC):=⟨rfl,rfl,rfl,by decide+kernel,rfl,by decide+kernel,by decide+kernel⟩
def Zc(F:bQ K "inside_of" "inside_of" xC f fd):
  bD P w K mg base bM 1 f fd ["pairs","inside"] (bF 2 Ij):=by
 refine F.ok YO (λvs H Q E h=>h.1) (λcdv A outer s H vs Q E hr h=>?_);obtain⟨nb,ds,Φ,C,I,D,X⟩:=fK h;obtain⟨prs,S,ks,rfl,N,hl,q⟩:=X;refine⟨_,#[5,dY (cz.of (show cO (aJ xC) ["pairs","inside"] _ ["place","factor","inside"] [none,none,some 1]=true by decide+kernel)) (dI (K:=K) rfl (pv 0)) (λ_ _ _ _=>⟨#[8,#[1,(by show aR (["place","factor","inside"]:List Str);decide+kernel)],aK (i:=1) (by show aR (["place","factor","inside"]:List Str);decide+kernel) rfl (be rfl)],(iX (@bB _ _ _ _ _ _ _ _ (QX hr.units) (pv 0) (pv 2) (by with_unfolding_all rfl))),(pv 0)⟩)],?_⟩;refine Sv.fu C I D (ρ:=[.d false _, .d false _]) rfl ?_;clear D I;have a:(prs.map Ap).length=prs.length:=ao ..;refine Sv.ret ?_;refine az.ev (az.gK ⋯ rfl ?_);rfl';refine λv=>⟨true,λi ds=>ds=((prs.take i).filter λpr=>decide (pr.1∈S)).map λpr=> .int pr.1,rfl,?_,?_⟩
 .rintro i d ds hd hl' rfl;obtain⟨pr,G,rfl⟩:=c9 hd;rfl';refine⟨by walk_at "wk",?_⟩;refine Tv.test ?_;refine Ev.Ni ?_;rfl';refine⟨ks,rfl,?_⟩;rw[N];refine⟨_,rfl,?_⟩;by_cases c:pr.1∈S
  .rw[if_pos (by simpa using c)];rfl';show _=a3 _ (cj _ (prs.take (i+1)));rw[Ai G,tw,if_pos c,bS]
   rfl
  .rw[if_neg (by simpa using c)];show _=a3 _ (cj _ (prs.take (i+1)));rw[Ai G,tw,if_neg c,jg]
 .rintro ds hl' rfl;rw[a,c6];exact q
def JY:DF:=λds Φ=>∃(p n:Int) (cs:List aj) (aB:List Int),ds=[bR p n cs, .list (aB.map .int)]/\qv n cs/\GC n aB/\(∀prs∈cs,prs.length<=10000)/\∀g:List Int,l6 cs aB g->Φ true (.list (g.map .int))
def Yx:cW JY:=by
 intro ds Φ Ψ hm z;revert hm;walk_at "mo";exact λq=>λg a=>z _ _ (q g a)
noncomputable def Zj(ρ:Rh):Nat:=match(ρ[3]?:Option Sl),(ρ[5]?:Option Sl) with
 |some (Sl.bK _ _ ks),some (Sl.own _ _ ds)=>ks.length*1000+ds.length
 |_,_=>0
def rB:cg ["net","lot","seated","inside","counts","waiting","alone","c"] ["net","lot"] (aJ rR):=⟨rfl,rfl,rfl,by decide+kernel,rfl,by decide+kernel,by decide+kernel⟩
theorem DD(F:bQ K "greatest" "greatest" rR f fd)(T:Callee P w K mg base "seats" 1 ["net"] wC)(PR:Callee P w K mg base "inside_of" 1 ["pairs","inside"] (bF 2 Ij))(Jp:mg "dict"=none)(bT:mg "len"=none)(ja:mg "enumerate"=none):
    bD P w K mg base bM 2 f fd ["net","lot"] (bF 2 JY):=by
  refine F.ok rB (λvs H Q E h=>h.1) (λcdv A outer s H vs Q E hr h=>?_);obtain⟨nb,ds,Φ,C,I,D,X⟩:=fK h;obtain⟨p,n,cs,aB,rfl,hN,Hy,hpl,q⟩:=X;refine⟨_,(@aA _ _ _ _ _ #[15,rB.nd,#[24,T]] #[10,@aX _ _ (3) _ _ _ _ rB.nd rfl (ee rfl) (@j6 _ _ _ _ _ _ _ _ (C0) (U7 rfl) rfl Jp uZ #[7,(show cO (aJ rR) ["net","lot","seated","inside","counts","waiting","alone","c"] _ ["place"] [none]=true by decide+kernel),dI (K:=K) rfl (pv 1),(λ_ _ _ _=>⟨#[1,(by show aR (["place"]:List Str);decide+kernel)],gJ,(@iJ _ _ _ _ _ #[6,jy])⟩)] ⋯ ⋯ (by rfl) (by rfl)) (by rfl) (by first|exact .inl rfl|exact .inr rfl|assumption),nu (i:=4) rB.nd rfl rfl (cz.of (show cO (aJ rR) ["net","lot","seated","inside","counts","waiting","alone","c"] _ ["pairs","inside"] [none,some 3]=true by decide+kernel)) (dI (K:=K) rfl (@aD _ _ _ _ _ _ (bJ K) bU (pv 0) au (λ_ _=>rfl))) (λ_ _ _ _=>⟨#[1,(by show aR (["pairs","inside"]:List Str);decide+kernel)],gJ,#[4,bT,#[2,#[0,PR,@aa _ _ _ _ _ (pv 0) (@aa _ _ _ _ _ (pv 1) ak rfl) rfl]]]⟩),#[3,nu (i:=5) rB.nd rfl rfl (cz.of (show cO (aJ rR) ["net","lot","seated","inside","counts","waiting","alone","c"] _ ["c","many"] [none,none]=true by decide+kernel)) (@vN _ (K) _ _ _ _ _ _ _ rfl rfl ja (pv 4) (by rfl)) (λ_ _ _ _=>⟨#[8,#[1,(by show aR (["c","many"]:List Str);decide+kernel)],aK (i:=1) (by show aR (["c","many"]:List Str);decide+kernel) rfl (be rfl)],(iX #[13,pv 1]),(pv 0)⟩),@uG _ _ _ _ _ _ fF (@iK _ (K) _ _ rfl (pv 5) (λ_=>rfl)) (@aA _ _ _ _ _ #[29,rB.nd,#[0,PR,@aa _ _ _ _ _ (@aD _ _ _ _ _ _ (bO K) bA #[12] (J0 qE QZ SY E5 (pv 5)) (λ_ _=>rfl)) (@aa _ _ _ _ _ (pv 3) ak rfl) rfl]] (@aI _ _ _ (@dJ _ _ _ _ _ _ _ _ (@iK _ (K) _ _ rfl (pv 6) (λ_=>rfl)) (@aA _ _ _ _ _ (@qK _ _ _ _ (qi DM Ph PySem.F.type_dict_pop H8 (pv 3) #[2,@aD _ _ _ _ _ _ (bO K) bA (pv 6) au (λ_ _=>rfl)]) (by rfl)) (@aI _ _ _ (@gX _ _ _ _ _ _ _ _ fF rfl (dI (K:=K) rfl (@aD _ _ _ _ _ _ (bO K) bA (pv 2) (@aD _ _ _ _ _ _ (bO K) bA (pv 6) au (λ_ _=>rfl)) (λ_ _=>rfl))) (aK (i:=7) rB.nd rfl (be rfl)) (@aA _ _ _ _ _ (Kb (pv 4) (pv 7) RL au F6 set_list) (@aI _ _ _ (@dJ _ _ _ _ _ _ _ _ #[13,@aD _ _ _ _ _ _ (bO K) bA (pv 4) (pv 7) (λ_ _=>rfl)] (@aI _ _ _ (@qK _ _ _ _ (qi qE xK xE vU (pv 5) (@aa _ _ _ _ _ (pv 7) ak rfl)) (by rfl))) dO))) (by intro _;rfl)))) dO))),dY (cz.of (show cO (aJ rR) ["net","lot","seated","inside","counts","waiting","alone","c"] _ ["place","inside"] [none,some 3]=true by decide+kernel)) (dI (K:=K) rfl (pv 1)) (λ_ _ _ _=>⟨#[1,(by show aR (["place","inside"]:List Str);decide+kernel)],(iX (@bB _ _ _ _ _ _ _ _ (QX hr.units) (pv 0) (pv 1) (by with_unfolding_all rfl))),(pv 0)⟩)]]),?_⟩;refine Sv.fu C I D (ρ:=[.d false _, .d false _, .no, .no, .no, .no, .no, .no]) rfl ?_;clear D I;have n0:=hN.n0;have n1:=hN.n1;have hcl:=hN.cl;have o8:=Hy.len n1;have a:(aB.map aq).length=aB.length:=ao ..;have gv:(cs.map cy).length=cs.length:=ao ..;obtain⟨rows,N⟩:∃rows,fO n.toNat cs cs.length=rows:=⟨_,rfl⟩;have hrl:rows.length=n.toNat:=by rw[<-N];exact AV
  refine Sv.seq ?_;refine Sv.asg ?_;refine Ev.OL ?_;rfl';refine⟨p,n,cs,rfl,hN.LA,?_⟩;rw[N];refine Gv.PB ?_;refine Sv.seq ?_;refine Sv.Be (oE.WK ?_);refine az.ev (az.gK ⋯ rfl ?_);rfl';refine λv=>⟨true,λi ds=>ds=(fj (aB.take i)).map BW,rfl,?_,?_⟩
  · rintro i d ds hd hl' rfl
    obtain⟨x,hx,rfl⟩:=c9 hd;rfl';refine⟨by walk_at "wk",?_⟩;rfl';refine⟨λ_=>rfl,?_⟩;show _=(fj (aB.take (i+1))).map BW;unfold fj;rw[Ai hx,bS,bS]
    rfl
  rintro ds hl' rfl;rw[a,c6];refine⟨fj aB,rfl,by unfold fj;rw[ao];omega,?_⟩;rw[QP Hy.nd];intro A3;refine Sv.seq ?_;refine Sv.Fq ?_;refine az.gK ⋯ rfl ?_;rfl';refine λv=>⟨true,λi ds=>ds=(cs.take i).map λprs=> .int (cE aB prs),rfl,?_,?_⟩
  · rintro i d ds hd hl' rfl
    obtain⟨prs,O,rfl⟩:=c9 hd;rfl';refine⟨by walk_at "wk",?_⟩;refine Tv.rj ?_;rw[if_pos rfl];refine Ev.CK ?_;refine Ev.Gk ?_;refine iM.Mb 1 rfl ?_;refine iM.dh Sn ?_;rfl';refine⟨rfl,prs,aB,fj aB,rfl,vh aB,hpl prs (bC O),rfl,_, .inl rfl,λ_=>rfl,?_⟩;show _=a3 _ (cs.take (i+1));rw[Ai O,bS,ao]
    rfl
  rintro ds hl' rfl;rw[gv,c6];intro A4;refine Sv.seq ?_;refine Sv.Fq ?_;refine az.L9 4 rfl ?_;refine az.RX ⋯ rfl ?_;rfl';have U8:(cs.map λprs=>aq (cE aB prs)).length=cs.length:=ao ..;refine⟨∅,λv=>⟨true,λi ds=>ds=((aL i).filter λc=>decide (cE aB (cs.getD c [])=1)).map λ(c:Nat)=> .int (c:Int),rfl,?_,?_⟩⟩
  · rintro i d ds ⟨e,he,rfl⟩ hl' rfl
    obtain⟨prs,O,rfl⟩:=c9 he;have J:cs.getD i []=prs:=by rw[br,O];rfl
    rfl';refine⟨by walk_at "wk",?_⟩;rfl';have sN:(aL (i+1)).filter (λc=>decide (cE aB (cs.getD c [])=1))=(aL i).filter (λc=>decide (cE aB (cs.getD c [])=1))++if cE aB prs=1 then[i] else[]:=by
      rw[lI,jx,kN,vY,J];by_cases c:cE aB prs=1<;>simp[c]
    by_cases c:cE aB prs=1
    · rw[if_pos (decide_eq_true ∅)]
      rfl';show _=a3 _ (cj _ (aL (i+1)));rw[sN,if_pos c,bS]
      rfl
    · rw[if_neg (by simp;omega)]
      show _=a3 _ (cj _ (aL (i+1)));rw[sN,if_neg c,jg]
  rintro ds hl' rfl;rw[U8];refine⟨?_,?_⟩
  · rw[g6]
    intro d hd;obtain⟨c,_,rfl⟩:=cL.mp hd
    rfl
  intro A5;have L:∀(S cn ws:List Int),GI cs aB S cn ws->∀x∈S,0<=x/\x<n:=λS cn ws h x hx=>Hy.rg x (h.mem x hx);refine Sv.seq ?_;refine Sv.uW (λρ=>∃(S cn ws:List Int) (f3 f4 f5:Bool) (o B:Sl),GI cs aB S cn ws/\ρ=[.d false (bR p n cs), .d false (.list (aB.map .int)), .d true (.list (rows.map cA)), .bK A3 f3 (fj S), .own A4 f4 (cn.map .int), .own A5 f5 (ws.map .int),o,B]) Zj ?_ ?_
  · refine⟨aB,cs.map λprs=>(cE aB prs:Int),((aL cs.length).filter λc=>decide (cE aB (cs.getD c [])=1)).map λ(c:Nat)=>(c:Int),true,true,true, .no, .no,GI.init rfl,?_⟩
    simp only[j7]
    rfl
  rintro ρ ⟨S,cn,ws,f3,f4,f5,o,B,hG,rfl⟩;refine Tv.C9 rfl ?_;rcases Ri ws with ews|⟨oX,c0,ews⟩
  · subst ews
    rw[if_neg (by simp)];have hgr:=hG.done;refine Sv.ret ?_;refine az.ev (az.gK ⋯ rfl ?_);rfl';refine λv=>⟨true,λi ds=>ds=((aB.take i).filter λx=>decide (x∈S)).map .int,rfl,?_,?_⟩
    · rintro i d ds hd hl' rfl
      obtain⟨x,hx,rfl⟩:=c9 hd;rfl';refine⟨by walk_at "wk",?_⟩;refine Tv.test ?_;refine Ev.O0 rfl ?_;rfl';rw[vh];by_cases c:x∈S
      · rw[if_pos (by simpa using c)]
        rfl';show _=a3 _ (cj _ (aB.take (i+1)));rw[Qg _ hx,if_pos (by simpa using c),bS]
        rfl
      · rw[if_neg (by simpa using c)]
        show _=a3 _ (cj _ (aB.take (i+1)));rw[Qg _ hx,if_neg (by simpa using c),jg]
    · rintro ds hl' rfl
      rw[a,c6];have e:aB.filter (λx=>decide (x∈S))=S:=by
        obtain⟨qq,eq⟩:=hG.sub
        conv=>rhs;rw[eq]
        apply wN;intro x hx;rw[jS,decide_eq_true_eq,eq,fG];exact⟨λz=>z.2,λz=>⟨hx,z⟩⟩
      rw[e];exact q S hgr
  · rw[List.concat_eq_append] at ews
    subst ews;rw[if_pos (by simp)];have hc0:=hG.rg c0 (jI _ (by simp));obtain⟨b,l,aeC⟩:=oG (xs:=cs) cy hc0.1 hc0.2 rfl;have hfew:=hG.few c0 (jI _ (by simp)) b l;rw[bS];refine Sv.seq ?_;refine Sv.aac (j:=5) (q:=3) (i0:=0) Sn ⋯ rfl rfl rfl rfl aeC ?_;refine⟨b,S,fj S,rfl,vh S,hpl b (bC l),rfl,?_⟩;refine Sv.oR ?_;refine Tv.Yy ?_;rfl';cases M:b.filter (λpr=>decide (pr.1∈S)) with
    | nil =>
      rw[if_neg (by simp)];refine Sv.next ?_
      have h0:cE S b=0:=by unfold cE;rw[M];rfl
      refine⟨⟨S,cn,oX,_,_,_,_,_,hG.drop l h0,rfl⟩,?_⟩;show(fj S).length*1000+(oX.map aq).length<(fj S).length*1000+(oX.map aq++[aq c0]).length;rw[fk,i9];omega
    | cons pr rest =>
      rw[if_pos (by simp)];have eY:pr∈b.filter (λpr=>decide (pr.1∈S)):=by rw[M];exact cN ..
      obtain⟨Yu,Ek⟩:=fG.mp eY;have t:pr.1∈S:=by simpa using Ek
      have R:pr.1∈b.map (·.1):=cL.mpr ⟨pr,Yu,rfl⟩;obtain⟨Y,W⟩:=L S cn _ hG pr.1 t;obtain⟨row,LR,ahO⟩:=oG (xs:=rows) (k:=pr.1) (m:=rows.length) cA Y ∅ rfl;have Z:∀(c:Nat) prs,cs[c]?=some prs->row.count (c:Int)=(prs.map (·.1)).count pr.1:=λc prs e=>by
        have hc:=(aO.mp e).1;have e1:=BP (n:=n.toNat) (cs:=cs) (x:=(c:Int)) cs.length (aW _) pr.1.toNat row (by rw[N];exact LR);rw[if_pos ∅,jw,br,e] at e1;rw[e1];exact EL ∅ λy hy=>(hN.ok prs (bC e) y hy).1
      have afA:∀c∈row,0<=c/\c<cs.length:=λc hc=>QF (n:=n.toNat) (cs:=cs) (k:=pr.1.toNat) (r:=row) (by rw[N];exact LR) hc;refine Sv.seq ?_;have Xz:bE ((pr::rest).map λpr=>aq pr.1) 0=some (.int pr.1):=eu ⋯ rfl;refine Sv.Y7 rfl ?_;refine Ev.Od ?_;refine Ev.var rfl ?_;refine⟨_,rfl,?_⟩;refine Ev.int ?_;refine⟨0,rfl, .int pr.1,Xz,?_⟩;refine⟨pr.1,rfl,by rw[vh];exact decide_eq_true t,?_⟩;rw[Zl];refine Sv.forL ?_;rfl';have G:(row.map aq).length=row.length:=ao ..;refine λv=>⟨λm ρ=>∃(g u:List Int) (f4 f5:Bool) (B:Sl),GJ cs S row c0 m g u/\ρ=[.d false (bR p n cs), .d false (.list (aB.map .int)), .d true (.list (rows.map cA)), .bK A3 f3 (fj (S.filter λy=>decide (y≠pr.1))), .own A4 f4 (g.map .int), .own A5 f5 (u.map .int), .d true (.list ((pr::rest).map λpr=> .int pr.1)),B],⟨cn,oX,_,_,_,hG.start,rfl⟩,?_,?_⟩
      · rintro m d ρ hd ⟨g,u,f4',f5',x7',hJ,rfl⟩
        obtain⟨c,gv,rfl⟩:=c9 hd;obtain⟨k0,k1⟩:=afA c (bC gv);obtain⟨val,hval⟩:=hJ.at k0 k1;have ahv:=hJ.len;have hwl:=hJ.WM;have hJ':=hJ.step gv k0 k1 hval;refine Gv.pM ?_;refine Sv.seq ?_;refine Sv.VS rfl ?_;refine Ev.var rfl ?_;have U:dS (g.map aq).length c=some c.toNat:=by
          unfold dS;rw[ao]
          repeat (first|rw[if_pos ∅]|rw[if_neg ∅])
        refine⟨c,c.toNat,val,rfl,k0,U,eu k0 (by rw[bw,hval];rfl),?_⟩;rw[<-mX];have V:bE ((g.set c.toNat (val-1)).map aq) c=some (.int (val-1)):=eu k0 (by rw[bw,cI ∅];rfl);refine Sv.oR ?_;refine Tv.test ?_;refine Ev.eq ?_;refine Ev.SX rfl ?_;refine Ev.var rfl ?_;refine⟨c,rfl,_,V,?_⟩;rfl';by_cases c1:val-1=1
        · rw[if_pos (decide_eq_true c1)]
          rw[if_pos c1] at hJ';refine Sv.append rfl ?_;refine Ev.var rfl ?_;refine⟨by rw[ao];omega,?_⟩;exact⟨_,u++[c],_,_,_,hJ',by rw[bS];rfl⟩
        · rw[if_neg (by simpa using c1)]
          rw[if_neg c1] at hJ';refine Sv.next ?_
          exact⟨_,u,_,_,_,hJ',rfl⟩
      · rintro ρ ⟨g,u,f4',f5',x7',hJ,rfl⟩
        rw[G] at hJ;have K6:=GJ.fin hG l t R Z hJ;have hwl:=K6.len;refine⟨⟨_,g,u,_,_,_,_,_,K6,rfl⟩,?_⟩;show(fj (S.filter λy=>decide (y≠pr.1))).length*1000+(u.map aq).length<(fj S).length*1000+(oX.map aq++[aq c0]).length;have hlt:(S.filter λy=>decide (y≠pr.1)).length<S.length:=by
          have h1:(S.filter λy=>decide (y≠pr.1)).length<=S.length:=oN _ _;have h2:(S.filter λy=>decide (y≠pr.1)).length≠S.length:=λz=>by
            have:=Ra.mp z pr.1 t;simp at this
          omega
        unfold fj;rw[ao,ao,ao,fk];omega
def Dm:DF:=λds Φ=>∃(p rest:Int) (prs:aj) (wd:Wo),ds=[.int p,cy prs, .int rest,dU wd]/\gc p/\p<10^40/\0<=rest/\rest<p/\prs.length<=10000/\vq prs wd.length/\Hu p prs/\kE wd/\Φ true (LJ (fE p prs rest wd))
def V8:cW Dm:=by
 intro ds Φ Ψ hm z;revert hm;walk_at "mo";exact λq=>z _ _ q
def AH:cg ["p","pairs","rest","word","lost","place","factor"] ["p","pairs","rest","word"] (aJ Cv):=⟨rfl,rfl,rfl,by decide+kernel,rfl,by decide+kernel,by decide+kernel⟩
theorem Og(F:bQ K "told_for" "told_for" Cv f fd)(g:Callee P w K mg base "over" 3 ["p","a","b"] G1)(c:Callee P w K mg base "total" 1 ["p","pairs","word"] xR)(bT:mg "len"=none):
    bD P w K mg base bM 4 f fd ["p","pairs","rest","word"] (bF 4 Dm):=by
  refine F.ok AH (λvs H Q E h=>h.1) (λcdv A outer s H vs Q E hr h=>?_);obtain⟨nb,ds,Φ,C,I,D,X⟩:=fK h;obtain⟨p,rest,prs,wd,rfl,hp,Z,r0,M,hl,R,j,hW,q⟩:=X;refine⟨_,#[10,nu (i:=4) AH.nd rfl rfl (cz.of (show cO (aJ Cv) ["p","pairs","rest","word","lost","place","factor"] _ ["place","factor","word"] [none,none,some 3]=true by decide+kernel)) (dI (K:=K) rfl (pv 1)) (λ_ _ _ _=>⟨#[8,#[1,(by show aR (["place","factor","word"]:List Str);decide+kernel)],aK (i:=1) (by show aR (["place","factor","word"]:List Str);decide+kernel) rfl (be rfl)],(iX (@bB _ _ _ _ _ _ _ _ wD (@aD _ _ _ _ _ _ (bO K) bA (pv 2) (pv 0) (λ_ _=>rfl)) iY (bu _))),(@iJ _ _ _ _ _ (@aa _ _ _ _ _ (pv 0) (@aa _ _ _ _ _ (pv 1) ak rfl) rfl))⟩),@dJ _ _ _ _ _ _ _ _ (@bB _ _ _ _ _ _ _ _ iZ #[4,bT,@aa _ _ _ _ _ (pv 4) ak rfl] au (bu _)) (@aI _ _ _ (@bf _ _ _ _ iY)) dO,#[3,#[27,AH.nd,@aD _ _ _ _ _ _ (bJ K) bU (@aD _ _ _ _ _ _ (bO K) bA (pv 4) au (λ_ _=>rfl)) au (λ_ _=>rfl)],#[29,AH.nd,@aD _ _ _ _ _ _ (bJ K) bU (@aD _ _ _ _ _ _ (bO K) bA (pv 4) au (λ_ _=>rfl)) au (λ_ _=>rfl)],@iJ _ _ _ _ _ (@aa _ _ _ _ _ (pv 5) #[2,#[0,g,@aa _ _ _ _ _ (pv 0) (@aa _ _ _ _ _ (@aM _ _ _ _ _ _ _ _ nE (pv 2) #[0,c,@aa _ _ _ _ _ (pv 0) (@aa _ _ _ _ _ (pv 1) (@aa _ _ _ _ _ (pv 3) ak rfl) rfl) rfl]) (@aa _ _ _ _ _ (pv 6) ak rfl) rfl) rfl]] rfl)]],?_⟩;refine Sv.fu C I D (ρ:=[.d false _, .d false _, .d false _, .d false _, .no, .no, .no]) rfl ?_;clear D I;have a:(prs.map Ap).length=prs.length:=ao ..;have p2:=hp.1;rfl';refine az.ev (az.gK ⋯ rfl ?_);rfl';refine λv=>⟨true,λi ds=>ds=(eG wd (prs.take i)).map Ap,rfl,?_,?_⟩
  · rintro i d ds hd hl' rfl
    obtain⟨pr,G,rfl⟩:=c9 hd;obtain⟨g1,g2,g3⟩:=R pr (bC G);obtain⟨o,ho,S⟩:=oG (xs:=wd) cT g1 g2 rfl;rfl';refine⟨by walk_at "wk",?_⟩;rfl';rw[oV];cases o with
    | none =>
      rfl';refine⟨λ_=>rfl,?_⟩;show _=a3 Ap (eG wd (prs.take (i+1)));rw[Ai G,KJ,if_pos ho,bS]
      rfl
    | some x =>
      rfl';show _=a3 Ap (eG wd (prs.take (i+1)));rw[Ai G,KJ,if_neg (by rw[ho];simp)]
  rintro ds hl' rfl;rw[a,c6];rfl';have key:∀L,eG wd prs=L->fE p prs rest wd=(match L with|[pr]=>some (pr.1,sol p pr.2 (rest-aQ prs wd%p))|_=>none):=λL e=>by unfold fE;rw[e]<;>rfl
  cases hL:eG wd prs with
  | nil =>
    rfl';rw[key _ hL] at q;exact q
  | cons pr r =>
    cases r with
    | cons b U =>
      have:¬((a3 Ap (pr::b::U)).length:Int)=1:=by simp;omega
      rfl';rw[key _ hL] at q;exact q
    | nil =>
      have hm:=(zJ (wd:=wd) (prs:=prs) (pr:=pr) (by rw[hL];simp)).1;have d0:=iw (aQ prs wd) (show p≠0 by omega);have d1:=g7 (aQ prs wd) (show 0<p by omega);rfl';refine Ev.over ?_;rfl';refine Ev.total ?_;rfl';refine⟨p,prs,wd,rfl,∅,R,hW,?_⟩;rfl';refine⟨p,rest-aQ prs wd%p,pr.2,rfl,hp,Z,j pr hm,∅,∅,λx Y W hx=>?_⟩;rfl';rw[key _ hL] at q;have e:=Gg hp (j pr hm) Y W hx;rw[e];exact q
def C4:DF:=λds Φ=>∃(p n c:Int) (cs:List aj) (wd:Wo),ds=[bR p n cs,dU wd, .int c]/\jW p cs wd.length/\kE wd/\0<=c/\c<cs.length/\Φ true (LJ (fE p (cs.getD c.toNat []) 0 wd))
def ae6:cW C4:=by
 intro ds Φ Ψ hm z;revert hm;walk_at "mo";exact λq=>z _ _ q
def Y4:cg ["net","word","c"] ["net","word","c"] (aJ Jg):=⟨rfl,rfl,rfl,by decide+kernel,rfl,by decide+kernel,by decide+kernel⟩
theorem YG(F:bQ K "told_by" "told_by" Jg f fd)(a:Callee P w K mg base "told_for" 4 ["p","pairs","rest","word"] (bF 4 Dm)):
  bD P w K mg base bM 5 f fd ["net","word","c"] (bF 3 C4):=by
 refine F.ok Y4 (λvs H Q E h=>h.1) (λcdv A outer s H vs Q E hr h=>?_);obtain⟨nb,ds,Φ,C,I,D,X⟩:=fK h;obtain⟨p,n,c,cs,wd,rfl,hN,hW,c0,c1,q⟩:=X;refine⟨_,#[5,#[0,a,@aa _ _ _ _ _ (@aD _ _ _ _ _ _ (bJ K) bU (pv 0) au (λ_ _=>rfl)) (@aa _ _ _ _ _ (@aD _ _ _ _ _ _ (bO K) bA #[12] (pv 2) (λ_ _=>rfl)) (@aa _ _ _ _ _ au (@aa _ _ _ _ _ (pv 1) ak rfl) rfl) rfl) rfl]],?_⟩;refine Sv.fu C I D (ρ:=[.d false _, .d false _, .d false _]) rfl ?_;clear D I;obtain⟨prs,e1,e2,e3,e4,e5⟩:=hN.at c0 c1;have p2:=hN.1.1;have S:bE (cs.map cy) c=some (cy prs):=eu c0 (by rw[bw,e1];rfl);rfl';refine Ev.dh V8 ?_;rfl';rw[e2] at q;exact⟨rfl,p,0,prs,wd,rfl,hN.1,hN.2.1,∅,∅,∅,e4,e5,hW,q⟩
def DG:DF:=λds Φ=>∃(p n:Int) (cs:List aj) (wd:Wo),ds=[bR p n cs,dU wd]/\jW p cs wd.length/\kE wd/\wd.length<64/\Φ true (lG (bL p cs wd))
def Tc:cW DG:=by
 intro ds Φ Ψ hm z;revert hm;walk_at "mo";exact λq=>z _ _ q
def zT:cg ["net","word","found","c","told"] ["net","word"] (aJ Ck):=⟨rfl,rfl,rfl,by decide+kernel,rfl,by decide+kernel,by decide+kernel⟩
theorem Gj(F:bQ K "round_of" "round_of" Ck f fd)(e:Callee P w K mg base "told_by" 5 ["net","word","c"] (bF 3 C4))(bY:mg "range"=none)(bT:mg "len"=none)(ug:mg "sorted"=none):
    bD P w K mg base bM 6 f fd ["net","word"] (bF 2 DG):=by
  refine F.ok zT (λvs H Q E h=>h.1) (λcdv A outer s H vs Q E hr h=>?_);obtain⟨nb,ds,Φ,C,I,D,X⟩:=fK h;obtain⟨p,n,cs,wd,rfl,hN,hW,hl,q⟩:=X;refine⟨_,#[3,@aX _ _ (2) _ _ _ _ zT.nd rfl (ee rfl) Dz (by rfl) (by first|exact .inl rfl|exact .inr rfl|assumption),@gX _ _ _ _ _ _ _ _ fF rfl (@iN _ _ _ _ _ _ rfl bY #[2,#[4,bT,@aa _ _ _ _ _ (@aD _ _ _ _ _ _ (bJ K) bU (pv 0) au (λ_ _=>rfl)) ak rfl]] (by rfl)) (aK (i:=3) zT.nd rfl (be rfl)) (@aA _ _ _ _ _ #[28,zT.nd,#[0,e,@aa _ _ _ _ _ (pv 0) (@aa _ _ _ _ _ (pv 1) (@aa _ _ _ _ _ (pv 3) ak rfl) rfl) rfl]] (@aI _ _ _ (@dJ _ _ _ _ _ _ _ _ (PW.pt (oK (@bB _ _ _ _ _ _ _ _ qO (pv 4) iY (bu _)) (ow (@bB _ _ _ _ _ _ _ _ (NO hr.units) (@aD _ _ _ _ _ _ (bJ K) bU (pv 4) au (λ_ _=>rfl)) (pv 2) (by with_unfolding_all rfl))))) (@aI _ _ _ (@gF _ _ _ _ _ _ (@iJ _ _ _ _ _ (@aa _ _ _ _ _ (@aD _ _ _ _ _ _ (bJ K) bU (pv 4) au (λ_ _=>rfl)) (@aa _ _ _ _ _ (pv 3) #[2,@aD _ _ _ _ _ _ (bJ K) bU (pv 4) au (λ_ _=>rfl)] rfl) rfl)) (jv (pv 2) (@aD _ _ _ _ _ _ (bJ K) bU (pv 4) au (λ_ _=>rfl)) set_dict) (by rfl) (by rfl) (by rfl))) dO))) (by intro _;rfl),dY (cz.of (show cO (aJ Ck) ["net","word","found","c","told"] _ ["place","found"] [none,some 2]=true by decide+kernel)) (dI (K:=K) rfl (@cB _ _ _ _ _ _ _ _ (Gi) (ahf rfl) rfl ug Lc (@aa _ _ _ _ _ (pv 2) ak rfl) ⋯ ⋯ (by rfl) (by rfl))) (λ_ _ _ _=>⟨#[1,(by show aR (["place","found"]:List Str);decide+kernel)],gJ,(@aD _ _ _ _ _ _ (uK) Ii (pv 1) (pv 0) (λ_ _=>rfl))⟩)],?_⟩;refine Sv.fu C I D (ρ:=[.d false _, .d false _, .no, .no, .no]) rfl ?_;clear D I;have p2:=hN.1.1;have hcl:=hN.2.2.1;have gv:((cs.map cy).length:Int)=cs.length:=by rw[ao]
  refine Sv.seq ?_;refine Sv.Be (oE.new ?_);intro A2;refine Sv.seq ?_;refine Sv.yj ?_;refine Ev.CK ?_;refine Ev.MA ?_;refine Ev.var rfl ?_;refine⟨_,rfl,Ev.int ⟨_,rfl,_,rfl,_, .inl rfl,_,rfl,∅,∅,?_⟩⟩;rw[show((cs.map cy).length:Int).toNat=cs.length by omega];refine⟨λi ρ=>∃(u N:Sl),ρ=[.d false (bR p n cs), .d false (dU wd), .bK A2 true ((eV p cs wd i).map kM),u,N],⟨_,_,rfl⟩,?_,?_⟩
  · rintro i d ρ' ⟨hi,rfl⟩ ⟨u,N,rfl⟩
    have hfl:=NK (p:=p) (cs:=cs) (wd:=wd) ∅ hN.rg (i:=i) ∅;rfl';refine Ev.dh ae6 ?_;rfl';refine⟨rfl,p,n,0+(i:Int),cs,wd,rfl,hN,hW,∅,∅,?_⟩;rw[show(0+(i:Int)).toNat=i by omega]
    have ef:eV p cs wd (i+1)=match fE p (cs.getD i []) 0 wd with
      |some (a,x)=>if a∈(eV p cs wd i).map (·.1) then eV p cs wd i else eV p cs wd i++[(a,(i:Int),x)]
      |none=>eV p cs wd i:=by rw[eV]<;>rfl
    cases ht:fE p (cs.getD i []) 0 wd with
    | none =>
      rw[ht] at ef;dsimp only at ef;show Gv _ _ _ _ PyData.none _;rfl';show∃(u N:Sl),(_:Rh)=[Sl.d false (bR p n cs),Sl.d false (dU wd),Sl.bK A2 true ((eV p cs wd (i+1)).map kM),u,N];rw[ef];exact⟨_,_,rfl⟩
    | some b =>
      obtain⟨a,x⟩:=b;rw[ht] at ef;dsimp only at ef;show Gv _ _ _ _ (ix [.int a, .int x]) _;rfl';refine Ev.O0 rfl ?_;rfl';rw[Bool.bne_true];by_cases c:a∈(eV p cs wd i).map (·.1)
      · rw[if_pos c] at ef
        have:i6 ((eV p cs wd i).map kM) a=true:=by rw[zA,Kl];exact c
        rw[this];rfl';show∃(u N:Sl),(_:Rh)=[Sl.d false (bR p n cs),Sl.d false (dU wd),Sl.bK A2 true ((eV p cs wd (i+1)).map kM),u,N];rw[ef];exact⟨_,_,rfl⟩
      · rw[if_neg c] at ef
        have:i6 ((eV p cs wd i).map kM) a=false:=by rw[<-Bool.not_eq_true,zA,Kl];exact c
        rw[this];generalize jo:(fV _ (nY (bZ 2) _ _):TS)=tl;rfl';subst jo;refine Sv.C8 rfl ?_;rfl';refine⟨by rw[ao];omega,?_⟩;show∃(u N:Sl),(_:Rh)=[Sl.d false (bR p n cs),Sl.d false (dU wd),Sl.bK A2 true ((eV p cs wd (i+1)).map kM),u,N];rw[ef,bS];unfold kF;rw[this,show(0+(i:Int))=i by omega];exact⟨_,_,rfl⟩
  · rintro ρ' ⟨u,N,rfl⟩
    have hfl:=NK (p:=p) (cs:=cs) (wd:=wd) ∅ hN.rg (i:=cs.length) (aW _);refine Sv.ret (az.ev (az.gK ⋯ rfl ?_));refine az.ev (az.Kv rfl (by rw[ao];omega) λg hrs eY=>?_);rw[Kl] at eY;obtain⟨ms,rfl,j⟩:=Qr eY _ rfl;have hmr:=Yl j hrs;have hml:ms.length<=wd.length:=by rw[j.length_eq];exact hfl
    refine⟨_,rfl,by rw[ao,ao];omega,λv=>⟨true,λi ds=>ds=(ms.take i).map zB,rfl,?_,?_⟩⟩
    · rintro i d ds hd hl' rfl
      obtain⟨a,ha,rfl⟩:=c9 hd;obtain⟨m,hm,rfl⟩:=c9 ha;have hv:=QG (qF (p:=p) (cs:=cs) (wd:=wd) cs.length) (j.mem_iff.mp (bC hm));rfl';refine⟨by walk_at "wk",?_⟩;rfl';refine Ev.ZE rfl ?_;rfl';refine⟨_,hv,λ_=>rfl,?_⟩;show _=a3 _ (ip (i+1) ms);rw[Ai hm,bS]
      rfl
    · rintro ds hl' rfl
      rw[ao,ao,c6,hmr,GY];exact q
def HW:DF:=λds Φ=>∃(p n:Int) (cs:List aj),ds=[bR p n cs]/\cs.length<=10000/\(∀prs∈cs,prs.length<=10000)/\∀f,Φ f (bR p n cs)
def aco:cW HW:=by
 intro ds Φ Ψ hm z;revert hm;walk_at "mo";exact λq=>λf=>z _ _ (q f)
def U2:cg ["net"] ["net"] (aJ BS):=⟨rfl,rfl,rfl,by decide+kernel,rfl,by decide+kernel,by decide+kernel⟩
def Y0(F:bQ K "copied" "copied" BS f fd)(dw:mg "list"=none):
  bD P w K mg base bM 1 f fd ["net"] (bF 1 HW):=by
 refine F.ok U2 (λvs H Q E h=>h.1) (λcdv A outer s H vs Q E hr h=>?_);obtain⟨nb,ds,Φ,C,I,D,X⟩:=fK h;obtain⟨p,n,cs,rfl,hl,hl2,q⟩:=X;refine⟨_,#[5,@iJ _ _ _ _ _ (@aa _ _ _ _ _ (@aD _ _ _ _ _ _ (bJ K) bU (pv 0) au (λ_ _=>rfl)) (@aa _ _ _ _ _ (@aD _ _ _ _ _ _ (bJ K) bU (pv 0) au (λ_ _=>rfl)) #[7,(show cO (aJ BS) ["net"] _ ["pairs"] [none]=true by decide+kernel),dI (K:=K) rfl (@aD _ _ _ _ _ _ (bJ K) bU (pv 0) au (λ_ _=>rfl)),(λ_ _ _ _=>⟨#[1,(by show aR (["pairs"]:List Str);decide+kernel)],gJ,#[18,dw,@aa _ _ _ _ _ (pv 0) ak rfl]⟩)] rfl) rfl)],?_⟩;refine Sv.fu C I D (ρ:=[.d false _]) rfl ?_;clear D I;rfl';refine az.ev (az.gK ⋯ rfl ?_);rfl';refine⟨by rw[ao];exact hl,λv=>⟨false,λi ds=>ds=(cs.take i).map cy,rfl,?_,?_⟩⟩
 .rintro i d ds hd hl' rfl;obtain⟨prs,O,rfl⟩:=c9 hd;rfl';refine⟨by walk_at "wk",?_⟩;rfl';refine⟨λz=>(by cases z),?_⟩;show _=a3 cy (ip (i+1) cs);rw[Ai O,bS]
  rfl
 .rintro ds hl' rfl;rw[ao,c6];rfl';exact q _
def wM(C:aF):CF:=λc ds Φ=>∃(x dx l:aF) (p n:Int) (cs:List aj) (wd:Wo),c=cS C x dx (lO (bR p n cs) l wd)/\ds=[]/\jW p cs wd.length/\kE wd/\wd.length<64/\Φ (cS C x dx (lO (bR p n cs) l (Aj wd (bL p cs wd)))) true (lG (bL p cs wd))
def Kw:qY (wM C):=by
 intro c ds Φ Ψ h z;obtain⟨x,dx,l,p,n,cs,wd,e1,e2,h1,h2,h3,q⟩:=h;exact⟨x,dx,l,p,n,cs,wd,e1,e2,h1,h2,h3,z _ _ _ q⟩
def vS:cg ["self","found","place","c","letter"] ["self"] (aJ ux):=⟨rfl,rfl,rfl,by decide+kernel,rfl,by decide+kernel,by decide+kernel⟩
theorem Kd(F:bQ K "step" "Mender.step" ux f fd){bX:aF}(g:gM K bX)(o:ji K bX "net")(k:ji K bX "letters")(r:Callee P w K mg base "round_of" 6 ["net","word"] (bF 2 DG)):
  bD P w K mg base bM 7 f fd ["self"] (jR 1 (wM bX)):=by
 refine F.ok vS (λvs H Q E h=>h.1) (λcdv A outer s H vs Q E hr h=>?_);obtain⟨_,nb,c,ws,ds,rfl,C,J,b,j,I,X⟩:=h;obtain⟨Φ,D,X⟩:∃Φ:Cu->Pd,(∀c' f d v H',Φ c' f d->uH c c' H H'->c'.P (λa=>nb a\/a∈c'.F) H'->ai (λa=>nb a\/a∈c'.F\/(f=true/\H a≠none)) H' d v->Q v H')/\wM bX c ds Φ:=⟨_,λc' f d v H' q=>q v H',X⟩;obtain⟨x,dx,l,p,n,cs,wd,rfl,rfl,hN,hW,hl,q⟩:=X;refine⟨_,#[10,#[23,vS.nd,#[0,r,#[16,@By _ _ _ _ _ (pv 0) rfl,@By _ _ _ _ _ (pv 0) rfl]]],#[11,dI (K:=K) rfl (pv 1),@gV _ (K) _ _ _ (3) _ rfl rfl (@bW _ _ _ _ _ (aK (i:=2) vS.nd rfl (be rfl)) (@bW _ _ _ _ _ (aK (i:=3) vS.nd rfl (be rfl)) (@bW _ _ _ _ _ (aK (i:=4) vS.nd rfl (be rfl)) gC (by rfl)) (by rfl)) (by rfl)) (by rfl) (by rfl),#[20,pv 4,@By _ _ _ _ _ (pv 0) rfl,pv 2]],@aI _ _ _ (@bf _ _ _ _ (pv 1))],?_⟩;refine Sv.Af C J b j I D (ρ:=[.cu _, .no, .no, .no, .no]) rfl ?_;clear D I;have p2:=hN.1.1;refine Sv.seq ?_;refine Sv.asg ?_;refine Ev.Xt Tc ?_;refine lA.cons (Ev.fld rfl g o rfl ?_);refine lA.fld rfl g k rfl ?_;refine lA.nil ?_;refine⟨rfl,p,n,cs,wd,rfl,hN,hW,hl, .inl rfl,?_⟩;refine Gv.name ?_;refine Sv.seq ?_;refine Sv.forL ?_;refine Ev.var rfl ?_;refine⟨_,rfl,λv=>⟨λi ρ=>∃(B u N:Sl),ρ=[.cu (cS bX x dx (lO (bR p n cs) l (Aj wd ((bL p cs wd).take i)))), .d true (lG (bL p cs wd)),B,u,N],⟨_,_,_,rfl⟩,?_,?_⟩⟩
 .rintro i d ρ hd ⟨B,u,N,rfl⟩;obtain⟨m,hm,rfl⟩:=c9 hd;obtain⟨b1,b2,b3,b4,b5⟩:=vm ∅ (bC hm) hN.rg;generalize jo:(fV (bZ 4) _:TS)=tl;rfl';subst jo;refine Sv.UG rfl g k rfl ?_;rfl';refine⟨_,m.1.toNat,rfl,Zb b1 (by rw[ao,oB];omega),?_⟩;have e:((Aj wd ((bL p cs wd).take i)).map cT).set m.1.toNat (.int m.2.2)=(Aj wd ((bL p cs wd).take (i+1))).map cT:=by
   rw[Ai hm,tQ];show _=((Aj wd ((bL p cs wd).take i)).set m.1.toNat (some m.2.2)).map cT;rw[mX]
   rfl
  rw[e,ZL];exact⟨_,_,_,rfl⟩
 .rintro ρ ⟨B,u,N,rfl⟩;rw[ao,c6];refine Sv.IP (iH.of ?_);refine Ev.var rfl ?_;intro bq v' H' hv;exact⟨_,_,_,rfl,⟨rfl,rfl,λa m=>m⟩,q,hv⟩
def wu(C:aF):CF:=λc ds Φ=>∃(x dx l:aF) (p n:Int) (cs:List aj) (wd:Wo),c=cS C x dx (lO (bR p n cs) l wd)/\ds=[]/\jW p cs wd.length/\kE wd/\wd.length<64/\Φ (cS C x dx (lO (bR p n cs) l (iC p cs wd))) true (.list ((iR p cs wd).map lG))
def Ki:qY (wu C):=by
 intro c ds Φ Ψ h z;obtain⟨x,dx,l,p,n,cs,wd,e1,e2,h1,h2,h3,q⟩:=h;exact⟨x,dx,l,p,n,cs,wd,e1,e2,h1,h2,h3,z _ _ _ q⟩
def BA:cg ["self","rounds","found"] ["self"] (aJ tR):=⟨rfl,rfl,rfl,by decide+kernel,rfl,by decide+kernel,by decide+kernel⟩
theorem Yz(F:bQ K "mend" "Mender.mend" tR f fd){bX:aF}(g:pF P w K mg base bX "step" 7 ["self"] (jR 1 (wM bX))):
  bD P w K mg base bM 8 f fd ["self"] (jR 1 (wu bX)):=by
 refine F.ok BA (λvs H Q E h=>h.1) (λcdv A outer s H vs Q E hr h=>?_);obtain⟨_,nb,c,ws,ds,rfl,C,J,b,j,I,X⟩:=h;obtain⟨Φ,D,X⟩:∃Φ:Cu->Pd,(∀c' f d v H',Φ c' f d->uH c c' H H'->c'.P (λa=>nb a\/a∈c'.F) H'->ai (λa=>nb a\/a∈c'.F\/(f=true/\H a≠none)) H' d v->Q v H')/\wu bX c ds Φ:=⟨_,λc' f d v H' q=>q v H',X⟩;obtain⟨x,dx,l,p,n,cs,wd,rfl,rfl,hN,hW,hl,q⟩:=X;refine⟨_,(@aA _ _ _ _ _ #[23,BA.nd,@gR _ _ _ _ ak] #[10,#[15,BA.nd,@zm _ _ _ _ _ _ _ _ _ _ _ g (pv 0) (hr.mono ⋯) (by rfl)],@uG _ _ _ _ _ _ fF (@bB _ _ _ _ _ _ _ _ (w6 hr.units) (pv 2) (@gR _ _ _ _ ak) (bu _)) (@aA _ _ _ _ _ (@qK _ _ _ _ (qi qE xK xE vU (pv 1) (@aa _ _ _ _ _ (pv 2) ak rfl)) (by rfl)) (@aI _ _ _ #[15,BA.nd,@zm _ _ _ _ _ _ _ _ _ _ _ g (pv 0) (hr.mono ⋯) (by rfl)])),@aI _ _ _ (@bf _ _ _ _ (pv 1))]),?_⟩;refine Sv.Af C J b j I D (ρ:=[.cu _, .no, .no]) rfl ?_;clear D I;have p2:=hN.1.1;have key:∀{w:Wo},w.length=wd.length->jW p cs w.length:=λ{w} h=>by rw[h];exact hN
 refine Sv.seq ?_;refine Sv.DR ?_;intro A1;refine Sv.seq ?_;refine Sv.Kh (iH.zE Kw rfl rfl (cS.is rfl) ?_);refine Av.nil ?_;refine⟨rfl,x,dx,l,p,n,cs,wd,rfl,rfl,hN,hW,hl,?_⟩;refine Gv.name ?_;refine Sv.seq ?_;refine Sv.uW (λρ=>∃(w:Wo) (st:List (List dN)),w.length=wd.length/\kE w/\st++iR p cs w=iR p cs wd/\iC p cs w=iC p cs wd/\ρ=[.cu (cS bX x dx (lO (bR p n cs) l (Aj w (bL p cs w)))), .own A1 true (st.map lG), .d true (lG (bL p cs w))]) (λ(ρ:Rh)=>match ρ[1]? with|some (Sl.own _ _ ds)=>wd.length-ds.length|_=>0) ⟨wd,[],rfl,hW,rfl,rfl,rfl⟩ ?_;rintro ρ' ⟨w,st,hwl,hwW,h1,h2,rfl⟩;have vF:=key hwl;rfl';refine⟨SN _,Yb,_,rfl,?_⟩;rw[nR,Uc];by_cases c:bL p cs w=[]
 .rw[if_neg (by rw[decide_eq_true c];simp)];rw[DA c,jg] at h1;rw[Jb c] at h2;subst h1 h2;rw[c];refine Sv.mD 1 rfl ?_;refine Sv.IP (iH.of ?_);refine Ev.var rfl ?_;intro bq v' H' hv;exact⟨_,_,_,rfl,⟨rfl,rfl,λa m=>m⟩,q,hv⟩
 rw[if_pos (by rw[decide_eq_false c];rfl)];have hl':=Wp (p:=p) (cs:=cs) (wd:=wd);rw[<-h1,yY ∅ vF.rg c,fk,eH] at hl';rw[yY ∅ vF.rg c] at h1;rw[Xv ∅ vF.rg c] at h2;have e:jW p cs (Aj w (bL p cs w)).length:=by rw[oB];exact vF
 have Qj:=CQ vF hwW;refine Sv.seq ?_;refine Sv.append rfl ?_;refine Ev.var rfl ?_;refine⟨by rw[ao];omega,?_⟩;refine Sv.Kh (iH.zE Kw rfl rfl (cS.is rfl) ?_);refine Av.nil ?_;refine⟨rfl,x,dx,l,p,n,cs,Aj w (bL p cs w),rfl,rfl,e,Qj,by rw[oB,hwl];exact hl,?_⟩;refine Gv.name ?_;refine⟨⟨Aj w (bL p cs w),st++[bL p cs w],by rw[oB];exact hwl,Qj,by rw[sO];exact h1,h2,by rw[bS];rfl⟩,?_⟩;show wd.length-(a3 lG st++[_]).length<wd.length-(a3 lG st).length;rw[fk,i9,ao];omega
def v8(C:aF):CF:=λc ds Φ=>∃(x dx l:aF) (nd:PyData) (wd:Wo),c=cS C x dx (lO nd l wd)/\ds=[]/\Φ (cS C x dx (lO nd l wd)) true (dU wd)
def HQ:qY (v8 C):=by
 intro c ds Φ Ψ h z;obtain⟨x,dx,l,nd,wd,e1,e2,q⟩:=h;exact⟨x,dx,l,nd,wd,e1,e2,z _ _ _ q⟩
def U3:cg ["self"] ["self"] (aJ sQ):=⟨rfl,rfl,rfl,by decide+kernel,rfl,by decide+kernel,by decide+kernel⟩
def Xk(F:bQ K "word" "Mender.word" sQ f fd){bX:aF}(g:gM K bX)(k:ji K bX "letters")(dw:mg "list"=none):
  bD P w K mg base bM 1 f fd ["self"] (jR 1 (v8 bX)):=by
 refine F.ok U3 (λvs H Q E h=>h.1) (λcdv A outer s H vs Q E hr h=>?_);obtain⟨_,nb,c,ws,ds,rfl,C,J,b,j,I,X⟩:=h;obtain⟨Φ,D,X⟩:∃Φ:Cu->Pd,(∀c' f d v H',Φ c' f d->uH c c' H H'->c'.P (λa=>nb a\/a∈c'.F) H'->ai (λa=>nb a\/a∈c'.F\/(f=true/\H a≠none)) H' d v->Q v H')/\v8 bX c ds Φ:=⟨_,λc' f d v H' q=>q v H',X⟩;obtain⟨x,dx,l,nd,wd,rfl,rfl,q⟩:=X;refine⟨_,#[5,#[18,dw,#[2,@By _ _ _ _ _ (pv 0) rfl]]],?_⟩;refine Sv.Af C J b j I D (ρ:=[.cu _]) rfl ?_;clear D I;refine Sv.IP (iH.of (az.ev (az.ZU rfl g k rfl ?_)));rw[E1];intro bq v' H' hv;exact⟨_,_,_,rfl,⟨rfl,rfl,λa m=>m⟩,q,hv⟩
def w5(C:aF):CF:=λc ds Φ=>∃(x dx:aF) (p n:Int) (cs:List aj) (wd:Wo),c=cS C x dx []/\ds=[bR p n cs,dU wd]/\cs.length<=10000/\(∀prs∈cs,prs.length<=10000)/\∀l,Φ (cS C x dx (lO (bR p n cs) l wd)) true .none
def Lu:qY (w5 C):=by
 intro c ds Φ Ψ h z;obtain⟨x,dx,p,n,cs,wd,e1,e2,h1,h2,q⟩:=h;exact⟨x,dx,p,n,cs,wd,e1,e2,h1,h2,λl=>z _ _ _ (q l)⟩
def Yi:cg ["self","net","word"] ["self","net","word"] (aJ tD):=⟨rfl,rfl,rfl,by decide+kernel,rfl,by decide+kernel,by decide+kernel⟩
def T1(F:bQ K "__init__" "Mender.__init__" tD f fd){bX:aF}(g:gM K bX)(o:ji K bX "net")(k:ji K bX "letters")(e:Callee P w K mg base "copied" 1 ["net"] (bF 1 HW))(dw:mg "list"=none):
  bD P w K mg base bM 2 f fd ["self","net","word"] (jR 3 (w5 bX)):=by
 refine F.ok Yi (λvs H Q E h=>h.1) (λcdv A outer s H vs Q E hr h=>?_);obtain⟨_,nb,c,ws,ds,rfl,C,J,b,j,I,X⟩:=h;obtain⟨Φ,D,X⟩:∃Φ:Cu->Pd,(∀c' f d v H',Φ c' f d->uH c c' H H'->c'.P (λa=>nb a\/a∈c'.F) H'->ai (λa=>nb a\/a∈c'.F\/(f=true/\H a≠none)) H' d v->Q v H')/\w5 bX c ds Φ:=⟨_,λc' f d v H' q=>q v H',X⟩;obtain⟨x,dx,p,n,cs,wd,rfl,rfl,hl,hl2,q⟩:=X;refine⟨_,(@aA _ _ _ _ _ (@LN _ _ _ _ _ _ _ _ (pv 0) #[0,e,@aa _ _ _ _ _ (pv 1) ak rfl] rfl) (@aI _ _ _ (@LN _ _ _ _ _ _ _ _ (pv 0) #[18,dw,@aa _ _ _ _ _ (pv 2) ak rfl] rfl))),?_⟩;refine Sv.Af C J b j I D (ρ:=[.cu _, .d false _, .d false _]) rfl ?_;clear D I;refine Sv.seq ?_;refine Sv.WL rfl g o (.inl rfl) ⋯ ?_;refine Ev.dh aco ?_;rfl';refine⟨rfl,p,n,cs,rfl,hl,hl2,λf=>?_⟩;refine Sv.Wq rfl g k rfl (Pz rfl) ?_;refine az.listOf ?_;rfl';intro l;exact⟨_,rfl,⟨rfl,rfl,λa m=>jB [l] m⟩,q l⟩
def Dc:DF:=λds Φ=>∃(p n:Int) (cs:List aj) (wd:Wo),ds=[bR p n cs,dU wd]/\jW p cs wd.length/\kE wd/\wd.length<64/\Φ true (.tuple [dU (iC p cs wd), .list ((iR p cs wd).map lG)])
def Z7:cW Dc:=by
 intro ds Φ Ψ hm z;revert hm;walk_at "mo";exact λq=>z _ _ q
def EG:cg ["net","word","mender","rounds"] ["net","word"] (aJ Ja):=⟨rfl,rfl,rfl,by decide+kernel,rfl,by decide+kernel,by decide+kernel⟩
theorem Hm(F:bQ K "mended" "mended" Ja f fd){bX:aF}(b:pF P w K mg base bX "mend" 8 ["self"] (jR 1 (wu bX)))(a:pF P w K mg base bX "word" 1 ["self"] (jR 1 (v8 bX)))(c:FL P w K mg base bX "Mender" 2 ["self","net","word"] (jR 3 (w5 bX))):
  bD P w K mg base bM 9 f fd ["net","word"] (bF 2 Dc):=by
 refine F.ok EG (λvs H Q E h=>h.1) (λcdv A outer s H vs Q E hr h=>?_);obtain⟨nb,ds,Φ,C,I,D,X⟩:=fK h;obtain⟨p,n,cs,wd,rfl,hN,hW,hl,q⟩:=X;refine⟨_,#[3,#[15,EG.nd,@Kk _ _ _ _ _ _ _ _ _ _ _ c (hr.mono ⋯) (@aa _ _ _ _ _ (pv 0) (@aa _ _ _ _ _ (pv 1) ak rfl) rfl) (by rfl) ⋯ (by rfl) (by rfl)],#[22,EG.nd,@zm _ _ _ _ _ _ _ _ _ _ _ b (pv 2) (hr.mono ⋯) (by rfl)],@iJ _ _ _ _ _ (@aa _ _ _ _ _ (@zm _ _ _ _ _ _ _ _ _ _ _ a (pv 2) (hr.mono ⋯) (by rfl)) (@aa _ _ _ _ _ (pv 3) ak rfl) rfl)],?_⟩;refine Sv.fu C I D (ρ:=[.d false _, .d false _, .no, .no]) rfl ?_;clear D I;have hcl:=hN.2.2.1;refine Sv.seq ?_;refine Sv.make Lu ?_;rfl';refine⟨rfl,λx dx=>⟨x,dx,p,n,cs,wd,rfl,rfl,∅,λprs hp=>by have:=(hN.2.2.2 prs hp).1;omega,λl=>⟨rfl,?_⟩⟩⟩;refine Sv.seq ?_;refine Sv.Kh (iH.zE Ki rfl rfl (cS.is rfl) ?_);refine Av.nil ?_;refine⟨rfl,x,dx,l,p,n,cs,wd,rfl,rfl,hN,hW,hl,?_⟩;refine Gv.name ?_;refine Sv.retS (iH.tup ?_);refine Bf.cons (iH.zE HQ rfl rfl (cS.is rfl) ?_);refine Av.nil ?_;refine⟨rfl,x,dx,l,_,iC p cs wd,rfl,rfl,?_⟩;rfl';exact q
def A7:cg ["script","stir","cell"] ["script"] (aJ yO):=⟨rfl,rfl,rfl,by decide+kernel,rfl,by decide+kernel,by decide+kernel⟩
theorem HI(F:bQ K "_law_bag" "_law_bag" yO f fd)(G3:mg "abs"=none):
  bD P w K mg base bM 1 f fd ["script"] (Nu K):=by
 refine F.ok A7 (λvs H Q E h=>?_) (λcdv A outer s H vs Q E hr h=>?_)
 .obtain⟨a,ns,rfl,N,hl,q⟩:=h
  rfl
 obtain⟨a,ns,rfl,N,hl,q⟩:=h;refine⟨_,#[3,@aX _ _ (1) _ _ _ _ A7.nd rfl (be rfl) au (by rfl) (by first|exact .inl rfl|exact .inr rfl|assumption),#[11,dI (K:=K) rfl (@rq _ _ _ _ _ _ _ _ _ _ qH (pv 0) sq (@rG _ _ _ au)),aK (i:=2) A7.nd rfl (be rfl),#[23,A7.nd,@aM _ _ _ _ _ _ _ _ ia (@aM _ _ _ _ _ _ _ _ gm (@aM _ _ _ _ _ _ _ _ gm (@aM _ _ _ _ _ _ _ _ iD (pv 1) au) (@aM _ _ _ _ _ _ _ _ ia (pv 2) au)) au) au]],@gR _ _ _ _ (@aa _ _ _ _ _ (dY (cz.of (show cO (aJ yO) ["script","stir","cell"] _ ["cell"] [none]=true by decide+kernel)) (dI (K:=K) rfl (@rq _ _ _ _ _ _ _ _ _ _ qH (pv 0) sq (@rG _ _ _ au))) (λ_ _ _ _=>⟨#[1,(by show aR (["cell"]:List Str);decide+kernel)],gJ,(@aM _ _ _ _ _ _ _ _ ia (@cB _ _ _ _ _ _ _ _ _ I0 rfl G3 vx (@aa _ _ _ _ _ (pv 0) ak rfl) ⋯ ⋯ (by rfl) (by rfl)) (@aM _ _ _ _ _ _ _ _ Ak au au))⟩)) (@aa _ _ _ _ _ au (@aa _ _ _ _ _ au (@aa _ _ _ _ _ (pv 1) (@aa _ _ _ _ _ au ak rfl) rfl) rfl) rfl) rfl)],?_⟩;have d:nk (ns.map V.int) none (some 63)=ns.map V.int:=by
  have e:(ns.map V.int).length=ns.length:=ao _;show ip (min 63 (ns.map V.int).length-0) (zN 0 (ns.map V.int))=_;rw[Kr];exact vg ∅
 walk_at "st";refine R.Rw N λc hc=>?_;rw[d];refine R.CT (aV.of bx) ?_;refine JO (xs:=ns.map V.int) (λi σ H1=>∃(st:Int) (x:Option V),σ=[some (.ref a),some (.int st),x]/\0<=st/\st<2147483647/\H1=upd H c (.lst (ns.map V.int))) ⟨19,none,rfl,∅,∅,rfl⟩ ?_ ?_ ?_
 .rintro i σ H1 hi ⟨st,x,rfl,h1,h2,rfl⟩;exact aV.of bx
 .rintro i x σ H1 hx ⟨st,y,rfl,h1,h2,rfl⟩;rw[bw] at hx;obtain⟨n,_,rfl⟩:=kK.mp hx;walk_at "st";exact⟨_,_,rfl,iw _ ⋯,g7 _ ⋯,rfl⟩
 .rintro σ H1 ⟨st,x,rfl,h1,h2,rfl⟩;walk_at "st";refine R.Rw ((dB hc).seq N) λc2 b=>?_;rw[d];refine R.CT (aV.of bx) ?_;intro acc hacc;refine R.KA (xs:=ns.map V.int) (λi σ H2=>∃(x:Option V),σ=[x]/\H2=upd (upd (upd H c (.lst (ns.map V.int))) c2 (.lst (ns.map V.int))) acc (.lst (((ns.take i).map λn=>(if n<0 then-n else n)%10^60).map V.int))) ⟨none,rfl,rfl⟩ ?_ ?_ ?_
  .rintro i σ H1 hi ⟨x,rfl,rfl⟩;refine aV.of ?_;rw[aH (jJ bx hacc)];exact bx
  .rintro i x σ H1 hx ⟨y,rfl,rfl⟩;rw[bw] at hx;obtain⟨n,hn,rfl⟩:=kK.mp hx;walk_at "st";refine⟨_,bx,?_,_,rfl,?_⟩
   .rw[ao,ao,iG];exact RW ∅
   .rw[JP,xg,hn,bS,bS]
    rfl
  .rintro σ H1 ⟨x,rfl,rfl⟩;walk_at "st";refine(show Gp _ _ _ from⟨by show 5<=sizeLine;decide,λp hp=>?_⟩);have hn1:=jJ (bx (H:=upd (upd H c (.lst (ns.map V.int))) c2 (.lst (ns.map V.int))) (a:=acc)) hp;have s1:dG H (upd (upd (upd H c (.lst (ns.map V.int))) c2 (.lst (ns.map V.int))) acc (.lst (((ns.take (ns.map V.int).length).map λn=>(if n<0 then-n else n)%10^60).map V.int))):=(dB hc).trans ((dB b).trans (dB hacc));refine q p acc _ (s1.trans (dB hp)) (s1.free hp) ⟨_,0,0,st,0,bx,by rw[aH hn1];exact bx,?_,?_,∅,∅,∅,h1,h2⟩
   .intro y hy;obtain⟨z,_,rfl⟩:=cL.mp hy;exact⟨iw _ ⋯,g7 _ ⋯⟩
   .rw[ao,iG];omega
def AE:cg ["bag","many","found","k"] ["bag","many"] (aJ Ef):=⟨rfl,rfl,rfl,by decide+kernel,rfl,by decide+kernel,by decide+kernel⟩
theorem Uh(F:bQ K "_law_stirred" "_law_stirred" Ef f fd)(bY:mg "range"=none):
  bD P w K mg base bM 1 f fd ["bag","many"] lZ:=by
 refine F.ok AE (λvs H Q E h=>?_) (λcdv A outer s H vs Q E hr h=>?_)
 .obtain⟨b,l,many,rfl,T,hm,hs,q⟩:=h
  rfl
 obtain⟨b,l,many,rfl,T,hm,hs,q⟩:=h;refine⟨_,#[3,@aX _ _ (2) _ _ _ _ AE.nd rfl (be rfl) au (by rfl) (by first|exact .inl rfl|exact .inr rfl|assumption),(@gX _ _ _ _ _ _ _ _ fF rfl (@iN _ _ _ _ _ _ rfl bY #[2,@aM _ _ _ _ _ _ _ _ gm au (@aM _ _ _ _ _ _ _ _ vA (J0 PySem.F.plainAttrs_int PySem.F.slot_int_bit_length PySem.F.type_int_bit_length Uq (pv 1)) au)] (by rfl)) (aK (i:=3) AE.nd rfl (be rfl)) #[10,@gF _ _ _ _ _ _ (@aM _ _ _ _ _ _ _ _ gm (@aD _ _ _ _ _ _ _ bA (pv 0) au (λ_ _=>rfl)) au) (jv (pv 0) au set_list) (by rfl) (by rfl) (by rfl),@gF _ _ _ _ _ _ (@aM _ _ _ _ _ _ _ _ ia (@aM _ _ _ _ _ _ _ _ gm (@aM _ _ _ _ _ _ _ _ gm (@aM _ _ _ _ _ _ _ _ gm (@aM _ _ _ _ _ _ _ _ Ak (@aD _ _ _ _ _ _ _ bA (pv 0) au (λ_ _=>rfl)) au) (@aM _ _ _ _ _ _ _ _ iD au (@aD _ _ _ _ _ _ _ bA (pv 0) au (λ_ _=>rfl)))) (@aM _ _ _ _ _ _ _ _ iD au (@aD _ _ _ _ _ _ _ bA (pv 0) au (λ_ _=>rfl)))) au) au) (jv (pv 0) au set_list) (by rfl) (by rfl) (by rfl),(@aI _ _ _ #[15,AE.nd,@aM _ _ _ _ _ _ _ _ gm (@aM _ _ _ _ _ _ _ _ iD (pv 2) au) (@aM _ _ _ _ _ _ _ _ vA (@aD _ _ _ _ _ _ _ bA (pv 0) au (λ_ _=>rfl)) au)])] (by intro _;rfl)),@aM _ _ _ _ _ _ _ _ ia (pv 2) (pv 1)],?_⟩;have ahT:=DY hs;walk_at "st";refine Ke (λi σ H1=>∃(a:Int) (x:Option V),σ=[some (.ref b),some (.int many),some (.int a),x]/\bP (Nb b) H H1/\fh H1 b l) ⟨0,none,rfl,bP.refl _ _,T⟩ ?_ ?_
 .rintro i σ H1 hi ⟨a,x,rfl,bt,ns,j,c,st,n,h1,h2,h3,h4,h5,h6,h7,h8,h9⟩;have hlb:=Rz h1 h2;walk_at "st";refine⟨_,_,rfl,bt.trans (bP.set rfl),?_⟩;exact fh.put hlb h2 h3 h4 h5 h6 h7 (iw _ ⋯) (g7 _ ⋯)
 .rintro σ H1 ⟨a,x,rfl,bt,B⟩;walk_at "st";exact q _ _ (iw _ ∅) (g7 _ hm) bt B
def KI:cg ["bag","many","found"] ["bag","many"] (aJ DS):=⟨rfl,rfl,rfl,by decide+kernel,rfl,by decide+kernel,by decide+kernel⟩
theorem WS(F:bQ K "_law_draw" "_law_draw" DS f fd)(d:Callee P w K mg base "_law_stirred" 1 ["bag","many"] lZ)(bT:mg "len"=none):
  bD P w K mg base bM 2 f fd ["bag","many"] lZ:=by
 refine F.ok KI (λvs H Q E h=>?_) (λcdv A outer s H vs Q E hr h=>?_)
 .obtain⟨b,l,many,rfl,T,hm,hs,q⟩:=h
  rfl
 obtain⟨b,l,many,rfl,T,hm,hs,q⟩:=h;refine⟨_,(@aA _ _ _ _ _ (@dJ _ _ _ _ _ _ _ _ (PW.pt (oK #[13,@aD _ _ _ _ _ _ _ bA (pv 0) au (λ_ _=>rfl)] (ow (@bB _ _ _ _ _ _ _ _ zR (@aD _ _ _ _ _ _ _ bA (pv 0) au (λ_ _=>rfl)) (@cB _ _ _ _ _ _ _ _ _ QM rfl bT gH #[2,@aD _ _ _ _ _ _ _ bA (pv 0) au (λ_ _=>rfl)] ⋯ ⋯ (by rfl) (by rfl)) (bu _))))) (@aA _ _ _ _ _ (@gF _ _ _ _ _ _ (@aD _ _ _ _ _ _ _ bA (@aD _ _ _ _ _ _ _ bA (pv 0) au (λ_ _=>rfl)) (@aD _ _ _ _ _ _ _ bA (pv 0) au (λ_ _=>rfl)) (λ_ _=>rfl)) (jv (pv 0) au set_list) (by rfl) (by rfl) (by rfl)) (@aI _ _ _ (@gF _ _ _ _ _ _ (@aM _ _ _ _ _ _ _ _ gm (@aD _ _ _ _ _ _ _ bA (pv 0) au (λ_ _=>rfl)) au) (jv (pv 0) au set_list) (by rfl) (by rfl) (by rfl)))) (@aI _ _ _ (@dJ _ _ _ _ _ _ _ _ #[13,@aD _ _ _ _ _ _ _ bA (pv 0) au (λ_ _=>rfl)] (@aI _ _ _ (@bf _ _ _ _ #[0,d,@aa _ _ _ _ _ (pv 0) (@aa _ _ _ _ _ (pv 1) ak rfl) rfl])) dO))) #[3,#[15,KI.nd,@aM _ _ _ _ _ _ _ _ ia (@aD _ _ _ _ _ _ _ bA (pv 0) au (λ_ _=>rfl)) (pv 1)],@gF _ _ _ _ _ _ (@aM _ _ _ _ _ _ _ _ vA (@aD _ _ _ _ _ _ _ bA (pv 0) au (λ_ _=>rfl)) (pv 1)) (jv (pv 0) au set_list) (by rfl) (by rfl) (by rfl),pv 2]),?_⟩;obtain⟨ns,i,c,st,n,h1,h2,h3,h4,h5,h6,h7,e,h9⟩:=id T;have hlb:=Rz h1 h2
 have fin:∀(H1:Hp) (a c':Int),H1 b=some (.lst [.ref l, .int a, .int c', .int st, .int n])->bP (Nb b) H H1->0<=a->0<=c'->c'<10^60->
   ∀(H2:Hp),H2=upd H1 b (.lst [.ref l, .int a, .int (c'/many), .int st, .int n])->Q (.int (c'%many)) H2:=λH1 a c' e1 bt g1 g2 g3 H2 e2=>by
  subst e2;have hd1:0<=c'/many:=xQ g2 ∅;have hd2:c'/many<=c':=Ib _ g2;exact q _ _ (iw _ ∅) (g7 _ hm) (bt.trans (bP.set rfl)) (fh.put hlb (bt _ _ hlb h2) h3 h4 g1 hd1 ∅ e h9)
 walk_at "st";refine tZ (λc1=>?_) (λc1=>?_)
 .have c1:c=0:=of_decide_eq_true c1;walk_at "st";refine tZ (λc2=>?_) (λc2=>?_)
  .have c2:i<(a3 V.int ns).length:=of_decide_eq_true c2;rw[ao] at c2;have hi:i.toNat<ns.length:=∅
   obtain⟨g1,g2⟩:=h3 _ (cU hi);walk_at "st";refine R.Bk h2 (v:= .int ns[i.toNat]) (eu h5 (by rw[bw,aC hi];rfl)) ?_;walk_at "st";refine fin (upd H b (.lst [.ref l, .int (i+1), .int ns[i.toNat], .int st, .int n])) (i+1) ns[i.toNat] bx (bP.set rfl) ∅ g1 g2 _ ?_;rw[JP]
   rfl
  .walk_at "st";exact⟨b,l,many,rfl,T,hm,hs,q⟩
 .have c1:¬c=0:=of_decide_eq_false (ER.mpr c1);walk_at "st";exact fin H i c h1 (bP.refl _ _) h5 h6 h7 _ rfl
def EE(is:List Int):du (.list (is.map aq)) (.list [])=decide (is=[]):=by
 cases is<;>simp[du,eJ]
def BG(is:List Int):cH (.list (is.map aq))=true:=by
 have h:bp (is.map aq)=0/\bg (is.map aq)=true:=by
  induction is with
  |nil=>simp[bp,bg]
  |cons a r ih=>simp[bp,er,bg,dk,ih.2,ih.1]
 unfold cH;simp[dk,er,h.2,h.1]
theorem Ls{nb:aF->Prop}{H:Hp}:∀is:List Int,af nb H (is.map aq) (is.map V.int)
 |[]=>af.nil
 |i::is=>af.cons (.int i) (Ls is)
theorem Zk{r:Int}(h0:r<=10100)(h:∀d:Int,2<=d->d<102->¬(d*d<=r/\r%d=0)):xH r:=λd d1 d2 e=>by
 by_cases hd:d<102;·exact h d d1 hd ⟨d2,e⟩
 .have:102*102<=d*d:=si ∅ ∅ ∅ ∅;omega
def L1:cg ["number","found"] ["number"] (aJ BX):=⟨rfl,rfl,rfl,by decide+kernel,rfl,by decide+kernel,by decide+kernel⟩
theorem Vw(F:bQ K "_law_prime_from" "_law_prime_from" BX f fd)(bY:mg "range"=none):
  bD P w K mg base bM 1 f fd ["number"] EO:=by
 refine F.ok L1 (λvs H Q E h=>?_) (λcdv A outer s H vs Q E hr h=>?_)
 .obtain⟨n,rfl,hn1,B,q⟩:=h
  rfl
 obtain⟨n,rfl,hn1,B,q⟩:=h;refine⟨_,(@aA _ _ _ _ _ #[11,(@Lk _ _ _ _ _ _ _ rfl bY #[6,@aM _ _ _ _ _ _ _ _ gm (pv 0) au] (by rfl) (by rfl)),aK (i:=1) L1.nd rfl (ee rfl),@dJ _ _ _ _ _ _ _ _ (@bB _ _ _ _ _ _ _ _ (Qc hr.units) (dY (cz.of (show cO (aJ BX) ["number","found"] _ ["k","found"] [none,some 1]=true by decide+kernel)) (@Lk _ _ _ _ _ _ _ rfl bY (@aa _ _ _ _ _ au (@aa _ _ _ _ _ au ak rfl) rfl) (by rfl) (by rfl)) (λ_ _ _ _=>⟨#[1,(by show aR (["k","found"]:List Str);decide+kernel)],(iX (PW.pt (oK (@bB _ _ _ _ _ _ _ _ MC (@aM _ _ _ _ _ _ _ _ iD (pv 0) (pv 0)) (pv 1) (bu _)) (ow #[13,@aM _ _ _ _ _ _ _ _ ia (pv 1) (pv 0)])))),(pv 0)⟩)) (@gR _ _ _ _ ak) (bu _)) (@aI _ _ _ (@bf _ _ _ _ (pv 1))) dO] #[5,au]),?_⟩;walk_at "st";refine Ke (λi σ H1=>dG H H1/\∃(x:Option V),σ=[some (.int n),x]) ⟨dG.refl _,none,rfl⟩ ?_ ?_
 .rintro i σ H1 hi ⟨s1,x,rfl⟩;have g:(i:Int)<60:=∅
  walk_at "st";intro acc hacc;refine R.Em (λj σ H2=>dG H1 H2/\(∃x:Option V,σ=[x,some (.int (n+i))])/\∃is:List Int,H2 acc=some (.lst (is.map V.int))/\is.length<=j/\(is=[]->∀d:Int,2<=d->d<2+j->¬(d*d<=n+i/\(n+i)%d=0))) ?_ ?_ ?_;·exact⟨dB hacc,⟨none,rfl⟩,[],bx,gE _,λ_ d d1 d2=>∅⟩
  .rintro j σ H2 hj ⟨s2,⟨x,rfl⟩,is,e2,l2,h2⟩;have hj2:(j:Int)<100:=∅
   have next:∀d:Int,d<2+((j+1:Nat):Int)->d<2+j\/d=2+j:=λd h=>∅
   walk_at "st";refine tZ (λc1=>?_) (λc1=>?_)
   .have c1:(2+(j:Int))*(2+j)<=n+i:=of_decide_eq_true c1;walk_at "st";refine tZ (λc2=>?_) (λc2=>?_)
    .have c2:(n+i)%(2+(j:Int))=0:=of_decide_eq_true c2;walk_at "st";refine⟨_,e2,?_,?_,⟨_,rfl⟩,is++[2+(j:Int)],?_,?_,λe=>?_⟩;·rw[ao];exact RW ∅
     .exact λa o h=>by rw[aH (jJ h hacc)];exact s2 _ _ h
     .rw[bx,bS];rfl
     .rw[fk,i9];omega
     .simp at e
    .have c2:¬(n+i)%(2+(j:Int))=0:=of_decide_eq_false (ER.mpr c2);refine⟨s2,⟨_,rfl⟩,is,e2,∅,λe d d1 d2=>?_⟩;rcases next d d2 with h|h
     .exact h2 e d d1 h
     .rw[h];exact λz=>c2 z.2
   .have c1:¬(2+(j:Int))*(2+j)<=n+i:=of_decide_eq_false (ER.mpr c1);walk_at "st";refine⟨s2,⟨_,rfl⟩,is,e2,∅,λe d d1 d2=>?_⟩;rcases next d d2 with h|h
    .exact h2 e d d1 h
    .rw[h];exact λz=>c1 z.1
  .rintro σ H2 ⟨s2,⟨x,rfl⟩,is,e2,l2,h2⟩;walk_at "st";refine R.VE ⋯ λp H3 s3 f3 e3=>?_;refine⟨λ_=>False, .list (is.map aq), .list [], .lst id (s3 _ _ e2) (Ls is), .lst id e3 af.nil,BG is,⋯,?_⟩;rw[EE];walk_at "st";have s:dG H H3:=s1.trans (s2.trans s3);refine tZ (λc=>?_) (λc=>?_)
   .have c:is=[]:=by simpa using c
    walk_at "st";exact q _ _ s ∅ ∅ (Zk ∅ λd d1 d2=>h2 c d d1 ∅)
   .walk_at "st";exact⟨s,_,rfl⟩
 .rintro σ H1 ⟨s1,x,rfl⟩;walk_at "st";refine q _ _ s1 ∅ ∅ λd d1 d2=>?_;have:2*2<=d*d:=si d1 d1 ∅ ∅;omega
def Jr:DF:=λds Φ=>ds=[]/\∀p:Int,gc p->p<10^40->∀f,Φ f (.int p)
def TF:cW Jr:=by
 intro ds Φ Ψ hm z;revert hm;walk_at "mo";exact λq=>λp h1 h2 f=>z _ _ (q p h1 h2 f)
def H7:∀x∈([2,3,5,7,2,11,101,10007,65537,1000003,998244353,1000000007,2147483647,1000000000039,10^qx 39+3,10^qx 40-17,2305843009213693951,618970019642690137449562111,162259276829213363391578010288127,170141183460469231731687303715884105727]:List Int),x∈yi/\x<10^40:=⋯
def wU:cg ["bag","some","way"] ["bag"] (aJ D8):=⟨rfl,rfl,rfl,by decide+kernel,rfl,by decide+kernel,by decide+kernel⟩
theorem Iw(F:bQ K "_law_prime" "_law_prime" D8 f fd)(V:Callee P w K mg base "_law_draw" 2 ["bag","many"] lZ)(a:Callee P w K mg base "_law_prime_from" 1 ["number"] EO):
  bD P w K mg base bM 3 f fd ["bag"] (iO 1 Jr):=by
 refine F.ok wU (λvs H Q E h=>h.1) (λcdv A outer s H vs Q E hr h=>?_);obtain⟨b,l,ws,nb,ds,Φ,rfl,T,C,t,I,D,X⟩:=rO h;obtain⟨rfl,q⟩:=X;refine⟨_,#[10,@NL _ 1 _ _ _ _ _ _ wU.nd rfl (be rfl) rfl (be rfl),#[23,wU.nd,@aM _ _ _ _ _ _ _ _ ya (pv 1) (@gR _ _ _ _ (@aa _ _ _ _ _ (@aM _ _ _ _ _ _ _ _ gm (@aM _ _ _ _ _ _ _ _ Ak au au) au) (@aa _ _ _ _ _ (@aM _ _ _ _ _ _ _ _ nE (@aM _ _ _ _ _ _ _ _ Ak au au) au) (@aa _ _ _ _ _ au (@aa _ _ _ _ _ au ak rfl) rfl) rfl) rfl))],#[3,#[23,wU.nd,@aM _ _ _ _ _ _ _ _ ya (pv 1) (@gR _ _ _ _ (@aa _ _ _ _ _ au (@aa _ _ _ _ _ au ak rfl) rfl))],#[15,wU.nd,#[30,V]],(@rJ _ _ _ _ _ _ _ _ (@bB _ _ _ _ _ _ _ _ zR (pv 2) au (bu _)) (@aD _ _ _ _ _ _ (bO K) bA (pv 1) (pv 2) (λ_ _=>rfl)) #[0,a,#[2,(@aM _ _ _ _ _ _ _ _ gm au #[30,V])]])]],?_⟩;refine Sv.rz T C t I D (ρ:=[.aG, .no, .no]) rfl ?_;clear D I;rfl';intro way w1 w2;by_cases c:way<20
 .rfl';obtain⟨m,e,U,R⟩:=pick (L:=[2,3,5,7,2,11,101,10007,65537,1000003,998244353,1000000007,2147483647,1000000000039,10^qx 39+3,10^qx 40-17,2305843009213693951,618970019642690137449562111,162259276829213363391578010288127,170141183460469231731687303715884105727]) (k:=way) w1 (by show _<(20:Int);omega) _ H7;refine⟨_,e,?_⟩;exact q m (Ci m U) R _
 .rfl';intro r r1 r2;rfl';exact λr' h1 h2=>q r' h1 h2 _
def Jm:DF:=λds Φ=>∃p a b:Int,ds=[.int p, .int a, .int b]/\gc p/\p<10^40/\b%p≠0/\ -(10^61)<=a/\a<=10^61/\((∃k,b*sol p b a-a=p*k)->Φ true (.int (sol p b a)))
def aa0:cW Jm:=by
 intro ds Φ Ψ hm z;revert hm;walk_at "mo";exact λq=>λh=>z _ _ (q h)
def mG:cg ["p","a","b","old","new","one","two","times_v"] ["p","a","b"] (aJ Hz):=⟨rfl,rfl,rfl,by decide+kernel,rfl,by decide+kernel,by decide+kernel⟩
theorem Xa(F:bQ K "_law_over" "_law_over" Hz f fd):
  bD P w K mg base bM 1 f fd ["p","a","b"] (bF 3 Jm):=by
 refine F.ok mG (λvs H Q E h=>h.1) (λcdv A outer s H vs Q E hr h=>?_);obtain⟨nb,ds,Φ,C,I,D,X⟩:=fK h;obtain⟨p,a,b,rfl,hp,Z,hb,a0,a1,q⟩:=X;refine⟨_,#[3,@gF _ _ _ _ _ _ (@iJ _ _ _ _ _ (@aa _ _ _ _ _ (@aM _ _ _ _ _ _ _ _ ia (pv 2) (pv 0)) (@aa _ _ _ _ _ (pv 0) (@aa _ _ _ _ _ au (@aa _ _ _ _ _ au ak rfl) rfl) rfl) rfl)) (@gV _ (K) _ _ _ (4) _ rfl rfl (@bW _ _ _ _ _ (aK (i:=3) mG.nd rfl (be rfl)) (@bW _ _ _ _ _ (aK (i:=4) mG.nd rfl (be rfl)) (@bW _ _ _ _ _ (aK (i:=5) mG.nd rfl (be rfl)) (@bW _ _ _ _ _ (aK (i:=6) mG.nd rfl (be rfl)) gC (by rfl)) (by rfl)) (by rfl)) (by rfl)) (by rfl) (by rfl)) (by rfl) (by rfl) (by rfl),@uG _ _ _ _ _ _ fF (@bB _ _ _ _ _ _ _ _ iZ (pv 4) au (bu _)) (@aA _ _ _ _ _ #[26,mG.nd,@aM _ _ _ _ _ _ _ _ vA (pv 3) (pv 4)] (@aI _ _ _ (@gF _ _ _ _ _ _ (@iJ _ _ _ _ _ (@aa _ _ _ _ _ (pv 4) (@aa _ _ _ _ _ (@aM _ _ _ _ _ _ _ _ nE (pv 3) (@aM _ _ _ _ _ _ _ _ iD (pv 7) (pv 4))) (@aa _ _ _ _ _ (pv 6) #[2,@aM _ _ _ _ _ _ _ _ nE (pv 5) (@aM _ _ _ _ _ _ _ _ iD (pv 7) (pv 6))] rfl) rfl) rfl)) (@gV _ (K) _ _ _ (4) _ rfl rfl (@bW _ _ _ _ _ (aK (i:=3) mG.nd rfl (be rfl)) (@bW _ _ _ _ _ (aK (i:=4) mG.nd rfl (be rfl)) (@bW _ _ _ _ _ (aK (i:=5) mG.nd rfl (be rfl)) (@bW _ _ _ _ _ (aK (i:=6) mG.nd rfl (be rfl)) gC (by rfl)) (by rfl)) (by rfl)) (by rfl)) (by rfl) (by rfl)) (by rfl) (by rfl) (by rfl)))),@aM _ _ _ _ _ _ _ _ ia (@aM _ _ _ _ _ _ _ _ iD (pv 1) (pv 5)) (pv 0)],?_⟩;refine Sv.fu C I D (ρ:=[.d false _, .d false _, .d false _, .no, .no, .no, .no, .no]) rfl ?_;clear D I;have p2:=hp.1;have m1:=iw b (show p≠0 by omega);have m2:=g7 b (show 0<p by omega);rfl';show qu _ _ _ _ [aq (b%p), .int p, .int 1, .int 0] _;rfl';refine Sv.uW (λρ=>∃(L lt r t:Int) (o:Sl),ρ=[.d false (.int p), .d false (.int a), .d false (.int b), .d true (.int L), .d true (.int r), .d true (.int lt), .d true (.int t),o]/\(-p<=lt/\lt<=p)/\((L=b%p/\r=p/\lt=1/\t=0)\/Eu p b L lt r t)) (λρ:Rh=>match ρ[4]? with|some (Sl.d _ (aq r))=>r.toNat|_=>0) ⟨_,_,_,_,_,rfl,∅, .inl ⟨rfl,rfl,rfl,rfl⟩⟩ ?_;rintro ρ ⟨L,lt,r,t,o,rfl,hlt,hI⟩;by_cases c:r=0
 .rcases hI with ⟨_,h,_,_⟩|hE
  .omega
  subst c;obtain⟨k,hk⟩:=hE.fin hp hb;obtain⟨U,N⟩:=hE.tb;have sa:Sm a:=by unfold Sm;omega
  have sl:Sm lt:=by unfold Sm;omega
  rfl';have e:=jY (a*lt) p;have ef:=jY lt p
  have ex:∃k,b*(a*lt%p)-a=p*k:=⟨a*k+a*(lt/p)*b-a*lt/p*b,by
   generalize a*lt/p=Q1 at*;generalize a*lt%p=R1 at*;generalize lt/p=Q2 at*;generalize lt%p=R2 at*;have h1:R1=a*lt-p*Q1:=∅
   have h2:lt=p*Q2+R2:=∅
   rw[h1];have h3:a*(R2*b)=a*(1+p*k):=by rw[hk]
   grind⟩
  have es:=Gg (x:=a*lt%p) (a:=a) hp hb (iw _ ∅) (g7 _ ∅) ex;rw[es];rw[es] at ex;exact q ex
 .rcases hI with ⟨rfl,rfl,rfl,rfl⟩|hE
  .have e0:b%r/r=0:=Int.ediv_eq_zero_of_lt m1 m2;rfl';show qu _ _ _ _ [aq r, .int (b%r-b%r/r*r), .int 0, .int (1-b%r/r*0)] _;rw[e0];rfl';refine⟨⟨_,_,_,_,_,rfl,∅, .inr ?_⟩,?_⟩
   .rw[kC,tY,iu,tY];exact Eu.start p2
   .show(b%r-0*r).toNat<r.toNat;rw[kC];omega
  .obtain⟨U,N⟩:=hE.tb;have e1:=hE.l0;have e2:=hE.r0;have e3:=hE.lp;have e4:=hE.rp;have hr:0<r:=∅
   have O:0<=L/r:=xQ ∅ ∅;have q2:L/r<=L:=Ib _ ∅;obtain⟨l,j⟩:=hE.next hr
   rfl';show qu _ _ _ _ [aq r, .int (L-L/r*r), .int t, .int (lt-L/r*t)] _;rfl';exact⟨⟨_,_,_,_,_,rfl,⟨U,N⟩, .inr l⟩,by show(L-L/r*r).toNat<r.toNat;omega⟩
def za:DF:=λds Φ=>∃(p:Int) (prs:aj) (wd:Wo),ds=[.int p,cy prs,dU wd]/\0<p/\prs.length<=10000/\vq prs wd.length/\kE wd/\Φ true (.int (aQ prs wd%p))
def ML:cW za:=by
 intro ds Φ Ψ hm z;revert hm;walk_at "mo";exact λq=>z _ _ q
def X1:cg ["p","pairs","word"] ["p","pairs","word"] (aJ zP):=⟨rfl,rfl,rfl,by decide+kernel,rfl,by decide+kernel,by decide+kernel⟩
def Gh(F:bQ K "_law_sum" "_law_sum" zP f fd)(sH:mg "sum"=none):
    bD P w K mg base bM 1 f fd ["p","pairs","word"] (bF 3 za):=by
  refine F.ok X1 (λvs H Q E h=>h.1) (λcdv A outer s H vs Q E hr h=>?_);obtain⟨nb,ds,Φ,C,I,D,X⟩:=fK h;obtain⟨p,prs,wd,rfl,hp,hl,h1,h2,q⟩:=X;refine⟨_,#[5,@aM _ _ _ _ _ _ _ _ ia (@cB _ _ _ _ _ _ _ _ (Ao K) (N4 rfl) rfl sH RP #[7,(show cO (aJ zP) ["p","pairs","word"] _ ["place","factor","word"] [none,none,some 2]=true by decide+kernel),dI (K:=K) rfl (pv 1),(λ_ _ _ _=>⟨#[8,#[1,(by show aR (["place","factor","word"]:List Str);decide+kernel)],aK (i:=1) (by show aR (["place","factor","word"]:List Str);decide+kernel) rfl (be rfl)],(iX (@bB _ _ _ _ _ _ _ _ qO (@aD _ _ _ _ _ _ (bO K) bA (pv 2) (pv 0) (λ_ _=>rfl)) iY (bu _))),(@aM _ _ _ _ _ _ _ _ iD (pv 1) (@aD _ _ _ _ _ _ (bO K) bA (pv 2) (pv 0) (λ_ _=>rfl)))⟩)] ⋯ ⋯ (by rfl) (by rfl)) (pv 0)],?_⟩;refine Sv.fu C I D (ρ:=[.d false _, .d false _, .d false _]) rfl ?_;clear D I;rfl';refine az.ev (az.gK ⋯ rfl ?_);rfl';refine⟨by rw[ao];exact hl,λv=>⟨false,λi ds=>∃ns:List Int,ds=ns.map .int/\ns.sum=aQ (prs.take i) wd,⟨[],rfl,by simp[aQ]⟩,?_,?_⟩⟩
  · rintro i d ds hd hl' ⟨ns,rfl,hs⟩
    obtain⟨pr,G,rfl⟩:=c9 hd;obtain⟨g1,g2,g3⟩:=h1 pr (bC G);obtain⟨o,ho,S⟩:=oG (xs:=wd) cT g1 g2 rfl;have hi:i<prs.length:=(aO.mp G).1;have sN:=JX (wd:=wd) hi;have a:prs[i]=pr:=(aO.mp G).2;rw[a] at sN;rfl';refine⟨by walk_at "wk",?_⟩;rfl';rw[oV];cases o with
    | none =>
      rfl';refine⟨ns,rfl,?_⟩;rw[sN,hs];unfold gY;rw[ho];simp
    | some x =>
      have hx:Sm x:=h2 x (bC ho);have j:bE (wd.map cT) pr.1=some (.int x):=S;rfl';refine⟨ns++[pr.2*x],by simp,?_⟩;rw[sN,oS,hs];unfold gY;rw[ho];simp
  · rintro ds hl' ⟨ns,rfl,hs⟩
    rw[ao,c6] at hs;refine⟨ns,rfl,?_⟩;rw[hs];rfl';exact q
def Fp:DF:=λds Φ=>∃p n:Int,ds=[.int p, .int n]/\Wn p/\0<=n/\n<=10000/\∀os:List Int,(os.length:Int)=n->(∀x∈os,0<=x/\x<p)->Φ true (.list (os.map .int))
def JU:cW Fp:=by
 intro ds Φ Ψ hm z;revert hm;walk_at "mo";exact λq=>λos a b=>z _ _ (q os a b)
def RD:cg ["bag","p","n","way"] ["bag","p","n"] (aJ vj):=⟨rfl,rfl,rfl,by decide+kernel,rfl,by decide+kernel,by decide+kernel⟩
theorem adJ(F:bQ K "_law_letters" "_law_letters" vj f fd)(V:Callee P w K mg base "_law_draw" 2 ["bag","many"] lZ)(bY:mg "range"=none)(jM:mg "int"=none)(Dk:mg "min"=none):
  bD P w K mg base bM 3 f fd ["bag","p","n"] (iO 3 Fp):=by
 refine F.ok RD (λvs H Q E h=>h.1) (λcdv A outer s H vs Q E hr h=>?_);obtain⟨b,l,ws,nb,ds,Φ,rfl,T,C,t,I,D,X⟩:=rO h;obtain⟨p,n,rfl,⟨p2,a⟩,n0,n1,q⟩:=X;refine⟨_,#[3,(@aX _ _ (3) _ _ _ _ RD.nd rfl (ee rfl) #[30,V] (by rfl) (by first|exact .inl rfl|exact .inr rfl|assumption)),(@dJ _ _ _ _ _ _ _ _ #[13,pv 3] (@aI _ _ _ (@bf _ _ _ _ (dY (cz.of (show cO (aJ vj) ["bag","p","n","way"] _ ["k","bag","p"] [none,some 0,some 1]=true by decide+kernel)) (@iN _ _ _ _ _ _ rfl bY (@aa _ _ _ _ _ (pv 2) ak rfl) (by rfl)) (λ_ _ _ _=>⟨#[1,(by show aR (["k","bag","p"]:List Str);decide+kernel)],gJ,(@aM _ _ _ _ _ _ _ _ iD #[0,V,@aa _ _ _ _ _ (pv 1) (@aa _ _ _ _ _ (pv 2) ak rfl) rfl] (@j6 _ _ _ _ _ _ _ _ _ Sa rfl jM xh #[2,(@jq _ _ _ _ _ _ _ _ fX #[0,V,@aa _ _ _ _ _ (pv 1) (@aa _ _ _ _ _ au ak rfl) rfl] au (bu _))] ⋯ ⋯ (by rfl) (by rfl)))⟩)))) dO),dY (cz.of (show cO (aJ vj) ["bag","p","n","way"] _ ["k","bag","p","way"] [none,some 0,some 1,some 3]=true by decide+kernel)) (@iN _ _ _ _ _ _ rfl bY (@aa _ _ _ _ _ (pv 2) ak rfl) (by rfl)) (λ_ _ _ _=>⟨#[1,(by show aR (["k","bag","p","way"]:List Str);decide+kernel)],gJ,#[0,V,#[19,@aD _ _ _ _ _ _ (bO K) bA (@gR _ _ _ _ (@aa _ _ _ _ _ (pv 2) #[2,@cB _ _ _ _ _ _ _ _ _ (acV rfl) rfl Dk vy (@aa _ _ _ _ _ (pv 2) (@aa _ _ _ _ _ au ak rfl) rfl) ⋯ ⋯ (by rfl) (by rfl)] rfl)) (pv 3) (λ_ _=>rfl)]]⟩)],?_⟩;refine Sv.rz T C t I D (ρ:=[.aG, .d false _, .d false _, .no]) rfl ?_;clear D I;rfl';intro way w1 w2;by_cases c:way=2
 .rfl';refine az.ev (az.kc ⋯ rfl ?_);rfl';refine jA.ints (λx=>0<=x/\x<p) ?_ λos ki B=>q os ∅ B;rintro i d ⟨hi,rfl⟩;rfl';refine⟨by walk_at "wk",?_⟩;rfl';intro r M U;rfl';intro s s1 s2;by_cases c2:s=3
  .rfl';rw[decide_eq_true c2];exact⟨by simp;omega,by simp;omega⟩
  .rfl';rw[decide_eq_false c2];exact⟨by simp,by simp;omega⟩
 .obtain⟨m,e,m1,m2⟩:∃m:Int,bE [aq p, .int (if 3<p then 3 else p)] way=some (.int m)/\1<=m/\m<=p:=by
   rcases(show way=0\/way=1 by omega) with rfl|rfl
   .exact⟨p,rfl,∅,∅⟩
   .exact⟨_,rfl,by split<;>omega,by split<;>omega⟩
  rfl';refine az.ev (az.kc ⋯ rfl ?_);rfl';refine jA.ints (λx=>0<=x/\x<p) ?_ λos ki B=>q os ∅ B;rintro i d ⟨hi,rfl⟩;rfl';refine⟨by walk_at "wk",?_⟩;rfl';exact λr M U=>⟨r,rfl,M,∅⟩
noncomputable def zq:Option aj->PyData
 |none=> .none
 |some prs=>cy prs
def DU:DF:=λds Φ=>∃(p wide:Int) (wd:List Int),ds=[.int p, .list (wd.map .int), .int wide]/\gc p/\p<10^40/\1<=wd.length/\wd.length<=63/\(∀x∈wd,0<=x/\x<p)/\1<=wide/\wide<=900/\∀(o:Option aj) (f:Bool),(∀prs,o=some prs->je p wd.length prs/\aQ prs (wd.map some)%p=0)->Φ f (zq o)
def JA:cW DU:=by
 intro ds Φ Ψ hm z;revert hm;walk_at "mo";exact λq=>λo f h=>z _ _ (q o f h)
def sP:cg ["bag","p","word","wide","n","places","pairs","rest","last"] ["bag","p","word","wide"] (aJ xu):=⟨rfl,rfl,rfl,by decide+kernel,rfl,by decide+kernel,by decide+kernel⟩
theorem ZI(F:bQ K "_law_planted_check" "_law_planted_check" xu f fd)(Ig:Callee P w K mg base "_law_sum" 1 ["p","pairs","word"] (bF 3 za))(V:Callee P w K mg base "_law_draw" 2 ["bag","many"] lZ)(YT:Callee P w K mg base "_law_over" 1 ["p","a","b"] (bF 3 Jm))(bT:mg "len"=none)(ug:mg "sorted"=none)(Gz:mg "set"=none)(bY:mg "range"=none):
  bD P w K mg base bM 3 f fd ["bag","p","word","wide"] (iO 4 DU):=by
 refine F.ok sP (λvs H Q E h=>h.1) (λcdv A outer s H vs Q E hr h=>?_);obtain⟨b,l,ws,nb,ds,Φ,rfl,T,C,t,I,D,X⟩:=rO h;obtain⟨p,wide,wd,rfl,hp,Z,w1,w2,m,d1,d2,q⟩:=X;refine⟨_,(@aA _ _ _ _ _ (@aX _ _ (4) _ _ _ _ sP.nd rfl (ee rfl) #[4,bT,@aa _ _ _ _ _ (pv 2) ak rfl] (by rfl) (by first|exact .inl rfl|exact .inr rfl|assumption)) #[21,#[27,sP.nd,(@cB _ _ _ _ _ _ _ _ (Dp P w) (VQ rfl) rfl ug Lc #[2,(@j6 _ _ _ _ _ _ _ _ (EC P w K) (YB rfl) rfl Gz vG #[7,(show cO (aJ xu) ["bag","p","word","wide","n","places","pairs","rest","last"] _ ["k","bag","n"] [none,some 0,some 4]=true by decide+kernel),(@iN _ _ _ _ _ _ rfl bY #[2,(@aM _ _ _ _ _ _ _ _ gm au #[0,V,@aa _ _ _ _ _ (pv 0) (@aa _ _ _ _ _ (pv 3) ak rfl) rfl])] (by rfl)),(λ_ _ _ _=>⟨#[1,(by show aR (["k","bag","n"]:List Str);decide+kernel)],gJ,#[0,V,@aa _ _ _ _ _ (pv 1) (@aa _ _ _ _ _ (pv 2) ak rfl) rfl]⟩)] ⋯ ⋯ (by rfl) (by rfl))] ⋯ ⋯ (by rfl) (by rfl))],nu (i:=6) sP.nd rfl rfl (cz.of (show cO (aJ xu) ["bag","p","word","wide","n","places","pairs","rest","last"] _ ["place","bag","p"] [none,some 0,some 1]=true by decide+kernel)) (dI (K:=K) rfl (pv 5)) (λ_ _ _ _=>⟨#[1,(by show aR (["place","bag","p"]:List Str);decide+kernel)],gJ,(@iJ _ _ _ _ _ #[6,(@aM _ _ _ _ _ _ _ _ gm au #[0,V,#[19,@aM _ _ _ _ _ _ _ _ nE (pv 2) au]])])⟩),#[26,sP.nd,#[0,Ig,@aa _ _ _ _ _ (pv 1) (@aa _ _ _ _ _ (@rq _ _ _ _ _ _ _ _ _ (mC K) qH (pv 6) sq (@rG _ _ _ (@sL _ _ _ _ _ _ uB au))) (@aa _ _ _ _ _ (pv 2) ak rfl) rfl) rfl]],@aX _ _ (8) _ _ _ _ sP.nd rfl (be rfl) (@aD _ _ _ _ _ _ (bO K) bA (pv 5) (@sL _ _ _ _ _ _ uB au) (λ_ _=>rfl)) (by rfl) (by first|exact .inl rfl|exact .inr rfl|assumption),#[3,@dJ _ _ _ _ _ _ _ _ (PW.pt (oK (@bB _ _ _ _ _ _ _ _ iZ (pv 7) au (bu _)) (ow (@bB _ _ _ _ _ _ _ _ iZ (@aD _ _ _ _ _ _ (bO K) bA (pv 2) (pv 8) (λ_ _=>rfl)) au (bu _))))) (@aI _ _ _ (@bf _ _ _ _ (@aM _ _ _ _ _ _ _ _ ya (@rq _ _ _ _ _ _ _ _ _ (mC K) qH (pv 6) sq (@rG _ _ _ (@sL _ _ _ _ _ _ uB au))) (@gR _ _ _ _ #[2,@iJ _ _ _ _ _ (@aa _ _ _ _ _ (pv 8) #[2,#[0,YT,(@aa _ _ _ _ _ (pv 1) #[16,@aM _ _ _ _ _ _ _ _ nE au (pv 7),@aD _ _ _ _ _ _ (bO K) bA (pv 2) (pv 8) (λ_ _=>rfl)] rfl)]] rfl)])))) dO,@dJ _ _ _ _ _ _ _ _ (PW.pt (oK #[13,pv 7] (ow #[13,@aD _ _ _ _ _ _ (bO K) bA (pv 2) (pv 8) (λ_ _=>rfl)]))) (@aI _ _ _ (@bf _ _ _ _ (pv 6))) dO,@rJ _ _ _ _ _ _ _ _ (PW.pt (oK #[13,pv 7] (ow (@bB _ _ _ _ _ _ _ _ IC #[4,bT,@aa _ _ _ _ _ (pv 6) ak rfl] au (bu _))))) (@rq _ _ _ _ _ _ _ _ _ (mC K) qH (pv 6) sq (@rG _ _ _ (@sL _ _ _ _ _ _ uB au))) iY]]),?_⟩;refine Sv.rz T C t I D (ρ:=[.aG, .d false _, .d false _, .d false _, .no, .no, .no, .no, .no]) rfl ?_;clear D I;have p2:=hp.1;have Qi:(wd.map aq).length=wd.length:=ao ..;have u:∀x:Int,0<=x->x<=p->Sm x:=λx Y W=>by unfold Sm;omega
 rfl';refine az.ev (az.Kx (az.ev (az.kc ⋯ rfl ?_)));rfl';intro k0 k1 k2;rfl';refine jA.ints (λx=>0<=x/\x<(wd.map aq).length) ?_ λos ki B=>⟨os,rfl,∅,λk hk=>by have:=B k hk;omega,λg aa9 n=>?_⟩
 .rintro i d ⟨hi,rfl⟩;rfl';refine⟨by walk_at "wk",?_⟩;rfl';exact λr M U=>⟨r,rfl,M,U⟩
 have hrs:g.Nodup:=aa9.imp λh=>∅
 have hrl:0<g.length:=by
  have:0<os.length:=∅
  obtain⟨y,hy⟩:=List.exists_mem_of_length_pos this;exact Lh ((n y).mpr hy)
 have ahx:g.length<=os.length:=uA hrs λk hk=>(n k).mp hk;rfl';refine az.ev (az.gK ⋯ rfl ?_);rfl';refine⟨by rw[ao];omega,λv=>jA.rel Ap true (λi pr=>g[i]?=some pr.1/\1<=pr.2/\pr.2<p) ?_ λprs hpl O=>?_⟩
 .rintro i d hd;obtain⟨x,hx,rfl⟩:=c9 hd;rfl';refine⟨by walk_at "wk",?_⟩;rfl';intro r M U;rfl';exact⟨λ_=>rfl,(x,1+r),rfl,hx,by show 1<=1+r;omega,by show 1+r<p;omega⟩
 rw[ao] at hpl;have S:prs.map (·.1)=g:=by
  apply qo;intro j;rw[bw];cases e:prs[j]? with
  |none=>rw[jT (by have:=zp.mp e;omega)];rfl
  |some pr=>exact(O j pr e).1.symm
 have hQ:je p wd.length prs:=⟨by rw[S];exact hrs,∅,λpr G=>by
  obtain⟨k,hk⟩:=ic G;have h2:=O k pr hk;have h1:=B pr.1 ((n _).mp (bC h2.1));omega⟩
 have mU:(prs.map Ap).length=prs.length:=ao ..;have pe:ko (prs.map Ap) none (some (-1))=prs.dropLast.map Ap:=by
  unfold ko HT.gb;simp only[Kr,vw];rw[R5,Cy,mU]
  congr 1
  first|omega|(split<;>omega)
 have L:prs.dropLast.length=prs.length-1:=Qz ..;have Jx:je p wd.length prs.dropLast:=⟨((List.dropLast_sublist prs).map _).nodup hQ.1,∅,λpr G=>hQ.2.2 pr (List.dropLast_subset _ G)⟩;have IE:g.length-1<g.length:=∅
 have HX:bE (g.map aq) (-1)=some (.int g[g.length-1]):=by
  unfold bE dS;rw[if_neg ⋯,if_pos (by rw[ao];omega)];show(g.map aq)[_]?=_;rw[bw,ao,show(-1+(g.length:Int)).toNat=g.length-1 by omega,aC IE];rfl
 obtain⟨c,wR⟩:∃x,g[g.length-1]=x:=⟨_,rfl⟩;rw[wR] at HX;have lz:0<=c/\c<wd.length:=by
  have:=B c ((n _).mp (wR▸cU IE));omega
 have hlt:c.toNat<wd.length:=∅
 have qV:bE (wd.map aq) c=some (.int wd[c.toNat]):=eu lz.1 (by rw[bw,aC hlt];rfl);have hwl:=m _ (cU hlt);have U9:∀x:Int,gY (wd.map some) (c,x)=x*wd[c.toNat]:=λx=>sj (pr:=(c,x)) (aC hlt);generalize wd[c.toNat]=wl at*;have N:wd.map aq=(wd.map some).map cT:=by rw[j7];rfl
 have Zz:vq prs.dropLast (wd.map some).length:=λpr G=>by
  have:=Jx.2.2 pr G;rw[ao];exact⟨this.1,this.2.1,u _ ∅ ∅⟩
 have Dd:kE (wd.map some):=λx hx=>by
  obtain⟨y,hy,e⟩:=cL.mp hx;cases e;have:=m x hy;exact u x ∅ ∅
 rfl';refine Ev.dh ML ?_;rfl';refine⟨rfl,p,prs.dropLast,wd.map some,by show[_,dq _,dq _]=_;rw[pe,N],∅,∅,Zz,Dd,?_⟩;have R0:=iw (aQ prs.dropLast (wd.map some)) (show p≠0 by omega);have R1:=g7 (aQ prs.dropLast (wd.map some)) (show 0<p by omega);have o:∃x:Int,prs=prs.dropLast++[(c,x)]:=by
  have J:prs≠[]:=Sd ∅;have e:=Na J;refine⟨(prs.getLast J).2,?_⟩;have e2:(prs.getLast J).1=c:=by
   rw[<-wR,To];have hz:=O (prs.length-1) _ (aC ∅);have e3:g[prs.length-1]?=some g[g.length-1]:=by rw[show prs.length-1=g.length-1 by omega];exact aC IE
   rw[e3] at hz;exact(fP hz.1).symm
  rw[<-e2];exact e.symm
 have HM:∀x:Int,aQ (prs.dropLast++[(c,x)]) (wd.map some)%p=(aQ prs.dropLast (wd.map some)%p+x*wl)%p:=λx=>by
  rw[RJ,pW,U9,n7]
  congr 1
  show _+(_+0)=_;omega
 obtain⟨R,eR⟩:∃R,aQ prs.dropLast (wd.map some)%p=R:=⟨_,rfl⟩;simp only[eR] at HM R0 R1⊢;rfl';by_cases cR:R=0
 .rfl';by_cases cw:wl=0
  .rfl';obtain⟨x,hx⟩:=o
   exact q (some prs) _ (λ_ e=>by
    cases e;refine⟨hQ,?_⟩;rw[hx,HM,cR,cw,iu];simp)
  .rfl';by_cases cl:1<((prs.map Ap).length:Int)
   .rfl';rw[pe];exact q (some prs.dropLast) _ (λ_ e=>by cases e;exact⟨Jx,by rw[eR,cR]⟩)
   .rfl';exact q none _ (λ_ e=>by cases e)
 .rfl';by_cases cw:wl=0
  .rfl';exact q none _ (λ_ e=>by cases e)
  .have hwp:wl%p≠0:=by rw[kX ∅ ∅];exact cw
   rfl';refine Ev.dh aa0 ?_;rfl';refine⟨rfl,p,0-R,wl,rfl,hp,Z,hwp,∅,∅,λ⟨k,hk⟩=>?_⟩;have hs:=SO (p:=p) (b:=wl) (a:=0-R) ∅;generalize sol p wl (0-R)=sl at*;have hs1:sl≠0:=λz=>by
    subst z;rw[iu] at hk;have hkR:R=p*k:=∅
    rcases AJ k 0 with z|z|z
    .have:p*k<=p*(-1):=oA ∅ ∅;omega
    .subst z;omega
    .have:p*1<=p*k:=oA ∅ ∅;omega
   rfl';refine⟨by rw[pe,ao];show _+1<=10000;omega,?_⟩;show Φ _ (.list (ko (prs.map Ap) none (some (-1))++[Ap (c,sl)]));rw[pe,show(prs.dropLast.map Ap++[Ap (c,sl)])=(prs.dropLast++[(c,sl)]).map Ap by rw[bS];rfl];refine q (some (prs.dropLast++[(c,sl)])) _ (λ_ e=>?_);cases e;have hz:(R+sl*wl)%p=0:=by
    rw[show R+sl*wl=p*k by rw[mh sl wl];omega];exact Int.mul_emod_right p k
   refine⟨?_,by rw[HM];exact hz⟩;have hdr:(prs.dropLast++[(c,sl)]).map (·.1)=g:=by
    rw[bS,List.map_dropLast,S,FJ,<-wR];have:=Na (Sd hrl);rw[To] at this;exact this
   refine⟨by rw[hdr];exact hrs,by rw[fk,i9];omega,λpr G=>?_⟩;rcases dM.mp G with h|h
   .exact Jx.2.2 pr h
   .rw[aZ.mp h];exact⟨lz.1,lz.2,by show 1<=sl;omega,hs.2⟩
def Ei:DF:=λds Φ=>∃(p many wide:Int) (wd:List Int),ds=[.int p, .list (wd.map .int), .int many, .int wide]/\gc p/\p<10^40/\1<=wd.length/\wd.length<=63/\(∀x∈wd,0<=x/\x<p)/\0<=many/\many<=400/\1<=wide/\wide<=900/\∀(cs:List aj) (f:Bool),(cs.length:Int)<=many->(∀prs∈cs,je p wd.length prs/\aQ prs (wd.map some)%p=0)->Φ f (bR p wd.length cs)
def XM:cW Ei:=by
 intro ds Φ Ψ hm z;revert hm;walk_at "mo";exact λq=>λcs f a b=>z _ _ (q cs f a b)
def V7(o:Option aj):vK (zq o)=o.isNone:=by cases o<;>rfl
def OD:cg ["bag","p","word","many","wide","checks"] ["bag","p","word","many","wide"] (aJ v7):=⟨rfl,rfl,rfl,by decide+kernel,rfl,by decide+kernel,by decide+kernel⟩
theorem ady(F:bQ K "_law_planted" "_law_planted" v7 f fd)(a:Callee P w K mg base "_law_planted_check" 3 ["bag","p","word","wide"] (iO 4 DU))(bT:mg "len"=none)(bY:mg "range"=none):
    bD P w K mg base bM 4 f fd ["bag","p","word","many","wide"] (iO 5 Ei):=by
  refine F.ok OD (λvs H Q E h=>h.1) (λcdv A outer s H vs Q E hr h=>?_);obtain⟨b,l,ws,nb,ds,Φ,rfl,T,C,t,I,D,X⟩:=rO h;obtain⟨p,many,wide,wd,rfl,hp,Z,w1,w2,m,m1,m2,d1,d2,q⟩:=X;refine⟨_,(@aA _ _ _ _ _ (nu (i:=5) OD.nd rfl rfl (cz.of (show cO (aJ v7) ["bag","p","word","many","wide","checks"] _ ["c","bag","p","word","wide"] [none,some 0,some 1,some 2,some 4]=true by decide+kernel)) (@iN _ _ _ _ _ _ rfl bY (@aa _ _ _ _ _ (pv 3) ak rfl) (by rfl)) (λ_ _ _ _=>⟨#[1,(by show aR (["c","bag","p","word","wide"]:List Str);decide+kernel)],gJ,#[0,a,@aa _ _ _ _ _ (pv 1) (@aa _ _ _ _ _ (pv 2) (@aa _ _ _ _ _ (pv 3) (@aa _ _ _ _ _ (pv 4) ak rfl) rfl) rfl) rfl]⟩)) #[5,@iJ _ _ _ _ _ (@aa _ _ _ _ _ (pv 1) (@aa _ _ _ _ _ #[4,bT,@aa _ _ _ _ _ (pv 2) ak rfl] #[7,(show cO (aJ v7) ["bag","p","word","many","wide","checks"] _ ["pairs"] [none]=true by decide+kernel),dI (K:=K) rfl (pv 5),(λ_ _ _ _=>⟨#[1,(by show aR (["pairs"]:List Str);decide+kernel)],(iX (@bB _ _ _ _ _ _ _ _ qO (pv 0) iY (bu _))),(pv 0)⟩)] rfl) rfl)]),?_⟩;refine Sv.rz T C t I D (ρ:=[.aG, .d false _, .d false _, .d false _, .d false _, .no]) rfl ?_;clear D I;have Qi:(wd.map aq).length=wd.length:=ao ..;rfl';refine az.ev (az.kc ⋯ rfl ?_);rfl';refine jA.rel zq false (λ_ o=>∀prs,o=some prs->je p wd.length prs/\aQ prs (wd.map some)%p=0) ?_ λos ki B=>?_
  · rintro i d ⟨hi,rfl⟩
    rfl';refine⟨by walk_at "wk",?_⟩;refine Ev.oU JA rfl ?_;rfl';exact⟨rfl,p,wide,wd,rfl,hp,Z,w1,w2,m,d1,d2,λo f h=>⟨(λz=>by cases z),o,rfl,h⟩⟩
  rfl';refine az.ev (az.gK ⋯ rfl ?_);rfl';refine⟨by rw[ao];omega,λv=>⟨false,λi ds=>∃es:List aj,ds=es.map cy/\es.length<=i/\∀prs∈es,je p wd.length prs/\aQ prs (wd.map some)%p=0,⟨[],rfl,aW _,(λ_ h=>nomatch h)⟩,?_,?_⟩⟩
  · rintro j d ds hd hl' ⟨es,rfl,hel,hes⟩
    obtain⟨o,ho,rfl⟩:=c9 hd;rfl';refine⟨by walk_at "wk",?_⟩;rfl';rw[V7];cases o with
    | none =>
      rfl';exact⟨es,rfl,∅,hes⟩
    | some prs =>
      rw[show zq (some prs)=cy prs from rfl];rfl';refine⟨es++[prs],by rw[bS];rfl,by simp;omega,λq hq=>?_⟩;rcases dM.mp hq with h|h
      · exact hes q h
      · rw[aZ.mp h];exact B j _ ho prs rfl
  rintro ds hl' ⟨es,rfl,hel,hes⟩;rfl';rw[ao] at hel;show Φ _ (.tuple [.int p, .int ((wd.map aq).length:Int), .list (es.map cy)]);rw[Qi];exact q es _ ∅ hes
def HA:DF:=λds Φ=>∃wd:List Int,ds=[.list (wd.map .int)]/\wd.length<=10000/\∀ld:Wo,Io wd ld->Φ true (dU ld)
def Xp:cW HA:=by
 intro ds Φ Ψ hm z;revert hm;walk_at "mo";exact λq=>λld hl=>z _ _ (q ld hl)
def KS:cg ["bag","word","often"] ["bag","word"] (aJ Cb):=⟨rfl,rfl,rfl,by decide+kernel,rfl,by decide+kernel,by decide+kernel⟩
theorem ag6(F:bQ K "_law_lossy" "_law_lossy" Cb f fd)(V:Callee P w K mg base "_law_draw" 2 ["bag","many"] lZ):
  bD P w K mg base bM 3 f fd ["bag","word"] (iO 2 HA):=by
 refine F.ok KS (λvs H Q E h=>h.1) (λcdv A outer s H vs Q E hr h=>?_);obtain⟨b,l,ws,nb,ds,Φ,rfl,T,C,t,I,D,X⟩:=rO h;obtain⟨wd,rfl,hl,q⟩:=X;refine⟨_,(@aA _ _ _ _ _ (@aX _ _ (2) _ _ _ _ KS.nd rfl (ee rfl) (@aD _ _ _ _ _ _ (bO K) bA (@gR _ _ _ _ (@MO _ _ _ rfl)) #[30,V] (λ_ _=>rfl)) (by rfl) (by first|exact .inl rfl|exact .inr rfl|assumption)) #[5,dY (cz.of (show cO (aJ Cb) ["bag","word","often"] _ ["letter","bag","often"] [none,some 0,some 2]=true by decide+kernel)) (dI (K:=K) rfl (pv 1)) (λ_ _ _ _=>⟨#[1,(by show aR (["letter","bag","often"]:List Str);decide+kernel)],gJ,(@rJ _ _ _ _ _ _ _ _ #[13,#[0,V,@aa _ _ _ _ _ (pv 1) (@aa _ _ _ _ _ (pv 2) ak rfl) rfl]] iY (pv 0))⟩)]),?_⟩;refine Sv.rz T C t I D (ρ:=[.aG, .d false _, .no]) rfl ?_;clear D I;rfl';intro way w1 w2;have hL:way.toNat<([8,3,2,1]:List Int).length:=by show way.toNat<4;omega
 have hm:∀x∈([8,3,2,1]:List Int),1<=x/\x<=8:=⋯
 obtain⟨m1,m2⟩:=hm _ (cU hL);refine⟨way,rfl, .int ([8,3,2,1]:List Int)[way.toNat],?_,?_⟩
 .show bE (a3 aq [8,3,2,1]) way=_;exact eu w1 (by rw[bw,aC hL];rfl)
 generalize ([8,3,2,1]:List Int)[way.toNat]=often at m1 m2⊢;rfl';refine az.ev (az.gK ⋯ rfl ?_);rfl';refine⟨by rw[ao];exact hl,λv=>⟨true,λi ds=>ds.length=i/\∀(j:Nat) d,ds[j]?=some d->d= .none\/∃x,wd[j]?=some x/\d= .int x,⟨rfl,λj d e=>by simp at e⟩,?_,?_⟩⟩
 .rintro i d ds hd hl' ⟨hl2,hI⟩;obtain⟨x,hx,rfl⟩:=c9 hd;rfl';refine⟨by walk_at "wk",?_⟩;rfl';intro r r1 r2;have key:∀e:PyData,(e= .none\/e= .int x)->(ds++[e]).length=i+1/\∀(j:Nat) d,(ds++[e])[j]?=some d->d= .none\/∃x,wd[j]?=some x/\d= .int x:=λe he=>by
   refine⟨by rw[fk,i9,hl2],λj d hj=>?_⟩;rcases E4 j ds.length with h|h|h
   .exact hI j d (by rwa[jj h] at hj)
   .subst h;simp at hj;subst hj;rw[hl2];rcases he with he|he
    .exact .inl he
    .exact .inr ⟨x,hx,he⟩
   .rw[jT (by rw[fk,i9];omega)] at hj;cases hj
  by_cases c:r=0
  .rfl';exact key _ (.inl rfl)
  .rfl';exact key _ (.inr rfl)
 .rintro ds hl' ⟨hl2,hI⟩;rw[ao] at hl2;obtain⟨ld,rfl,eU⟩:=UO (wd:=wd) ds hl2 hI;exact q ld eU
def V5:cg ["net"] ["net"] (aJ zH):=⟨rfl,rfl,rfl,by decide+kernel,rfl,by decide+kernel,by decide+kernel⟩
def X4(F:bQ K "_law_copy" "_law_copy" zH f fd)(dw:mg "list"=none):
  bD P w K mg base bM 1 f fd ["net"] tu:=by
 refine F.ok V5 (λvs H Q E h=>?_) (λcdv A outer s H vs Q E hr h=>?_)
 .obtain⟨nb,p,n,cs,v,rfl,C,hv,hl,q⟩:=h
  rfl
 obtain⟨nb,p,n,cs,v,rfl,C,hv,hl,q⟩:=h;refine⟨_,#[5,@iJ _ _ _ _ _ (@aa _ _ _ _ _ (@aD _ _ _ _ _ _ (bJ K) bU (pv 0) au (λ_ _=>rfl)) (@aa _ _ _ _ _ (@aD _ _ _ _ _ _ (bJ K) bU (pv 0) au (λ_ _=>rfl)) #[7,(show cO (aJ zH) ["net"] _ ["pairs"] [none]=true by decide+kernel),dI (K:=K) rfl (@aD _ _ _ _ _ _ (bJ K) bU (pv 0) au (λ_ _=>rfl)),(λ_ _ _ _=>⟨#[1,(by show aR (["pairs"]:List Str);decide+kernel)],gJ,#[18,dw,@aa _ _ _ _ _ (pv 0) ak rfl]⟩)] rfl) rfl)],?_⟩;refine Um (N:=["net"]) (ds:=[bR p n cs]) (ρ:=[.d false (bR p n cs)]) C (.cons hv .nil) rfl λj c H1 W1=>?_;have t:Ev ⟨none,H,nb,[]⟩ [.d false (bR p n cs)] (cQ (bJ K) (bZ 0) (tC (V.int 0))) λ_ d=>d= .int p:=by rfl';rfl
 have r:Ev ⟨none,H,nb,[]⟩ [.d false (bR p n cs)] (cQ (bJ K) (bZ 0) (tC (V.int 1))) λ_ d=>d= .int n:=by rfl';rfl
 refine t j c H1 _ W1 λf1 v1 H2 d1 e1 s1 g=>?_;have W2:=W1.step s1;refine r j c H2 _ W2 λf2 b H3 d2 e2 s2 hv2=>?_;have W3:=W2.step s2;subst e1 e2;have ev1:=g.cC;have XR:=hv2.cC;subst ev1 XR;refine az.gK (G:=⟨none,H,nb,[]⟩) (ρ:=[.d false (bR p n cs)]) (Θ:=λ_ ds=>ds=cs.map cy) ⋯ rfl ?_ j c H3 _ W3 λf3 L xs H4 ds e3 s3 hL l I=>?_
 .rfl';refine⟨by rw[ao];exact hl,λv=>⟨false,λi ds=>ds=(cs.take i).map cy,rfl,?_,?_⟩⟩
  .rintro i d ds hd hl' rfl;obtain⟨prs,O,rfl⟩:=c9 hd;rfl';refine⟨by walk_at "wk",?_⟩;rfl';refine⟨λz=>(by cases z),?_⟩;show _=a3 cy (ip (i+1) cs);rw[Ai O,bS]
   rfl
  .rintro ds hl' rfl;rw[ao,c6]
 .subst e3;have old:∀{bq J M H'},Wd ⟨none,H,nb,[]⟩ bq J M H'->dG H H':=λW a o e=>W.old a o (λ_ _ z=>(by cases z)) e;have W4:=W3.step s3;have k:H L=none:=by
   cases e:H L with
   |none=>rfl
   |some o=>rw[old W3 L o e] at hL;cases hL
  refine⟨by show 3<=sizeLine;decide,λT hT=>?_⟩;have m:H T=none:=by
   cases e:H T with
   |none=>rfl
   |some o=>rw[old W4 T o e] at hT;cases hT
  have u:L≠T:=λz=>by rw[z,hT] at l;cases l
  refine q T L xs _ (λa o e=>?_) m k bx (by rw[aH u];exact l) ((I.av λa y=>?_).keep λa o _ e=>?_);·rw[aH (λz=>by rw[z,m] at e;cases e)];exact old W4 a o e
  .rcases y with y|y
   .exact .inl (.inr (.inl y))
   .exact .inr y
  .rw[aH (λz=>by rw[z,hT] at e;cases e)];exact e
def GO:cg ["found"] ["found"] (aJ G4):=⟨rfl,rfl,rfl,by decide+kernel,rfl,by decide+kernel,by decide+kernel⟩
def Ml(F:bQ K "_law_whole" "_law_whole" G4 f fd)(gu:mg "isinstance"=none)(jM:mg "int"=none)(om:mg "bool"=none):
  bD P w K mg base bM 1 f fd ["found"] IA:=by
 refine F.ok GO (λvs H Q E h=>?_) (λcdv A outer s H vs Q E hr h=>?_)
 .obtain⟨i,rfl,q⟩:=h
  rfl
 obtain⟨i,rfl,q⟩:=h;refine⟨_,#[5,(@uo _ _ _ _ _ _ _ #[17,gu,#[6,jK (v:= .ty "int") rfl jM xh rfl]] (@wj _ _ _ _ _ (@U6 _ _ _ _ #[17,gu,#[6,jK (v:= .ty "bool") rfl om Ho rfl]])))],?_⟩;walk_at "st";refine R.E6 ?_;walk_at "st";exact q
def Js:DF:=λds Φ=>∃(p n:Int) (cs:List aj),ds=[.int p, .int n, .list (cs.map cy)]/\iB p n cs/\cs≠[]/\∀(prs:aj),je p n.toNat prs->(∀v:List Int,v.length=n.toNat->(∀q∈cs,p∣aQ q (v.map some))->p∣aQ prs (v.map some))->Φ true (cy prs)
def Sr:cW Js:=by
 intro ds Φ Ψ hm z;revert hm;walk_at "mo";exact λq=>λprs a b=>z _ _ (q prs a b)
def ud:cg ["bag","p","n","checks","row","k","letter","place","factor"] ["bag","p","n","checks"] (aJ yW):=⟨rfl,rfl,rfl,by decide+kernel,rfl,by decide+kernel,by decide+kernel⟩
theorem VR(F:bQ K "_law_summed" "_law_summed" yW f fd)(V:Callee P w K mg base "_law_draw" 2 ["bag","many"] lZ)(bY:mg "range"=none)(bT:mg "len"=none):
  bD P w K mg base bM 3 f fd ["bag","p","n","checks"] (iO 4 Js):=by
 refine F.ok ud (λvs H Q E h=>h.1) (λcdv A outer s H vs Q E hr h=>?_);obtain⟨b,l,ws,nb,ds,Φ,rfl,T,C,t,I,D,X⟩:=rO h;obtain⟨p,n,cs,rfl,hN,J,q⟩:=X;refine⟨_,#[3,@aX _ _ (4) _ _ _ _ ud.nd rfl (ee rfl) (@aM _ _ _ _ _ _ _ _ Cw (@gR _ _ _ _ (@aa _ _ _ _ _ au ak rfl)) (pv 2)) (by rfl) (by first|exact .inl rfl|exact .inr rfl|assumption),@gX _ _ _ _ _ _ _ _ fF rfl (@iN _ _ _ _ _ _ rfl bY #[2,(@aM _ _ _ _ _ _ _ _ gm au #[30,V])] (by rfl)) (aK (i:=5) ud.nd rfl (be rfl)) (@aA _ _ _ _ _ #[29,ud.nd,(@aM _ _ _ _ _ _ _ _ gm au #[0,V,#[6,@aM _ _ _ _ _ _ _ _ nE (pv 1) au]])] (@aI _ _ _ #[11,dI (K:=K) rfl (@aD _ _ _ _ _ _ (bO K) bA (pv 3) #[0,V,#[6,#[4,bT,@aa _ _ _ _ _ (pv 3) ak rfl]]] (λ_ _=>rfl)),#[8,aK (i:=7) ud.nd rfl (be rfl),aK (i:=8) ud.nd rfl (be rfl)],#[20,@aM _ _ _ _ _ _ _ _ ia (@aM _ _ _ _ _ _ _ _ gm (@aD _ _ _ _ _ _ (bO K) bA (pv 4) (pv 7) (λ_ _=>rfl)) (@aM _ _ _ _ _ _ _ _ iD (pv 6) (pv 8))) (pv 1),pv 4,pv 7]])) (by intro _;rfl),dY (cz.of (show cO (aJ yW) ["bag","p","n","checks","row","k","letter","place","factor"] _ ["k","row"] [none,some 4]=true by decide+kernel)) (@iN _ _ _ _ _ _ rfl bY (@aa _ _ _ _ _ (pv 2) ak rfl) (by rfl)) (λ_ _ _ _=>⟨#[1,(by show aR (["k","row"]:List Str);decide+kernel)],(iX (@bB _ _ _ _ _ _ _ _ iZ (@aD _ _ _ _ _ _ (bO K) bA (pv 1) (pv 0) (λ_ _=>rfl)) au (bu _))),(@iJ _ _ _ _ _ #[6,@aD _ _ _ _ _ _ (bO K) bA (pv 1) (pv 0) (λ_ _=>rfl)])⟩)],?_⟩;refine Sv.rz T C t I D (ρ:=[.aG, .d false _, .d false _, .d false _, .no, .no, .no, .no, .no]) rfl ?_;clear D I;have p2:=hN.hp.1;have iE:=hN.iE;have hcl:=hN.cl;have n0:=hN.n0;have n1:=hN.n1;have gv:(cs.map cy).length=cs.length:=ao ..;have hc0:0<cs.length:=zb.mpr J;generalize jo:(lW (fV (cQ sE _ _) (fB 4)) _:TS)=tl;rfl';subst jo;refine Sv.seq ?_;refine Sv.sZ (az.yD ?_);rfl';intro g0;have hz:ar n.toNat (aq 0)=(ar n.toNat (0:Int)).map aq:=by rw[xV]
 rw[hz];intro A4;refine Sv.seq ?_;refine Sv.yj ?_;rfl';intro many m0 m1;rfl';refine⟨λc ρ=>∃(r:List Int) (g:Bool) (Z o B m:Sl),cZ p n.toNat r/\(∀v:List Int,v.length=n.toNat->(∀q∈cs,p∣aQ q (v.map some))->p∣aE (gI v) r)/\ρ=[.aG, .d false (.int p), .d false (.int n), .d false (.list (cs.map cy)), .own A4 g (r.map .int),Z,o,B,m],⟨_,_,_,_,_,_,(jO.init (cs:=[]) (bz:=[]) ∅).ok,λv _ _=>⟨0,by rw[Er,iu]⟩,rfl⟩,?_,?_⟩
 .rintro c d ρ ⟨hc,rfl⟩ ⟨r,g,Z,o,B,m,hR,vO,rfl⟩;rfl';intro l0 l1 l2;rfl';refine Sv.forL ?_;rfl';intro ci c0 c1;obtain⟨prs,O,HX⟩:=oG (xs:=cs) cy c0 (by rw[gv] at c1;exact c1) rfl;obtain⟨g1,g2,g3⟩:=hN.ok prs (bC O);have eY:(prs.map Ap).length=prs.length:=ao ..;rfl';refine λv=>⟨λj ρ=>∃(r:List Int) (g:Bool) (B m:Sl),cZ p n.toNat r/\(∀v:List Int,v.length=n.toNat->(∀q∈cs,p∣aQ q (v.map some))->p∣aE (gI v) r-(1+l0)*aQ (prs.take j) (v.map some))/\ρ=[.aG, .d false (.int p), .d false (.int n), .d false (.list (cs.map cy)), .own A4 g (r.map .int), .d true (.int (0+(c:Int))), .d true (.int (1+l0)),B,m],⟨_,_,_,_,hR,λv h1 h2=>by show p∣_-_*0;rw[iu,tY];exact vO v h1 h2,rfl⟩,?_,?_⟩
  .rintro j d ρ hd ⟨r,g,B,m,hJ,hLJ,rfl⟩;obtain⟨pr,k,rfl⟩:=c9 hd;obtain⟨a0,a1,a2,y⟩:=g3 pr (bC k);have hrl:=hJ.len;have G:bE (r.map aq) pr.1=some (.int (gI r pr.1.toNat)):=eu a0 (by rw[bw,hJ.at ∅];rfl);obtain⟨b0,b1⟩:=hJ.g (i:=pr.1.toNat) ∅;have s1:Sm (1+l0):=by unfold Sm;omega
   have s2:Sm pr.2:=by unfold Sm;omega
   have U:dS (r.map aq).length pr.1=some pr.1.toNat:=by
    unfold dS;rw[ao]
    repeat (first|rw[if_pos ∅]|rw[if_neg ∅])
   generalize z:(fV (cQ _ _ _) (nY (bZ 4) _ qd):TS)=tl2;rfl';subst z;refine Sv.rV rfl ?_;rfl';refine⟨_,_,rfl,U,?_⟩;rw[<-mX];refine⟨_,_,_,_,hJ.put (iw _ ∅) (g7 _ ∅),λv h1 h2=>?_,rfl⟩;have h3:=NT (l:=1+l0) (pr:=pr) ∅ ∅ (hLJ v h1 h2);have hjl:=(aO.mp k).1;rw[JX hjl,(aO.mp k).2,sj (aC (show pr.1.toNat<v.length by omega))];have e:gI v pr.1.toNat=v[pr.1.toNat]'∅:=by unfold gI;rw[br,aC (show pr.1.toNat<v.length by omega)];rfl
   rw[e] at h3;rw[mh pr.2 (v[pr.1.toNat]'∅)];exact h3
  .rintro ρ ⟨r,g,B,m,hJ,hLJ,rfl⟩;refine⟨_,_,_,_,_,_,hJ,λv h1 h2=>?_,rfl⟩;have h3:=hLJ v h1 h2;rw[eY,c6] at h3;obtain⟨a,ha⟩:=h3;obtain⟨b,hb⟩:=h2 prs (bC O);exact⟨a+(1+l0)*b,by rw[hb] at ha;grind⟩
 .rintro ρ ⟨r,g,Z,o,B,m,hR,vO,rfl⟩;have hrl:=hR.len;refine Sv.mD 4 rfl ?_;rfl';refine az.ev (az.kc ⋯ rfl ?_);rfl';refine⟨true,λi ds=>ds=(lQ r i).map Ap,rfl,?_,?_⟩
  .rintro i d ds ⟨hi,rfl⟩ hl' rfl;have S:bE (r.map aq) (0+(i:Int))=some (.int (gI r i)):=eu ∅ (by rw[bw,show(0+(i:Int)).toNat=i by omega,hR.at hi];rfl);generalize u:(sA _:TE)=tt;rfl';refine⟨by walk_at "wk",?_⟩;rfl';have hs:=L6 r i;by_cases c:gI r i=0
   .rw[if_neg (by simpa using c)] at hs;rfl';show _=a3 Ap (lQ r (i+1));rw[hs,jg]
   .rw[if_pos c] at hs;rfl';subst u;refine Ev.tupS ?_;rfl';refine⟨λ_=>Jc _,?_⟩;show _=a3 Ap (lQ r (i+1));rw[hs,bS,u4]
    rfl
  .rintro ds hl' rfl;exact q _ (adE hR ∅ ∅) λv h1 h2=>by rw[Jj h1 hrl];exact vO v h1 h2
def Eg:DF:=λds Φ=>∃(p n many:Int) (cs:List aj),ds=[bR p n cs, .int many]/\gc p/\p<10^40/\1<=n/\n<=400/\cs.length<=400/\(∀prs∈cs,je p n.toNat prs)/\0<=many/\many<=10/\∀(f:Bool) (a:List aj),a.length<=cs.length+10->(∀prs∈a,je p n.toNat prs)->(∀v:List Int,v.length=n.toNat->(∀q∈cs,p∣aQ q (v.map some))->∀q∈a,p∣aQ q (v.map some))->Φ f (bR p n a)
def Ys:cW Eg:=by
 intro ds Φ Ψ hm z;revert hm;walk_at "mo";exact λq=>λf c a b d=>z _ _ (q f c a b d)
theorem Qn{n:Int}(h1:gc p)(h2:p<10^40)(h3:1<=n)(h4:n<=400)(h5:cs.length<=500)(h6:∀prs∈cs,je p n.toNat prs):iB p n cs:=
 ⟨h1,h2,h3,h4,h5,λprs hp=>⟨(h6 prs hp).1,(h6 prs hp).2.1,λpr G=>by have:=(h6 prs hp).2.2 pr G;omega⟩⟩
theorem FC(cs:List aj):cH (.list (cs.map cy))=true:=by
 have h1:=Xi cs;unfold cH;simp[dk,er,h1.2];have:=h1.1;omega
def tK:cg ["bag","net","many","p","n","checks","k","pairs"] ["bag","net","many"] (aJ C6):=⟨rfl,rfl,rfl,by decide+kernel,rfl,by decide+kernel,by decide+kernel⟩
theorem Yt(F:bQ K "_law_more" "_law_more" C6 f fd)(qp:Callee P w K mg base "_law_copy" 1 ["net"] tu)(e:Callee P w K mg base "_law_summed" 3 ["bag","p","n","checks"] (iO 4 Js))(V:Callee P w K mg base "_law_draw" 2 ["bag","many"] lZ)(bY:mg "range"=none)(bT:mg "len"=none):
  bD P w K mg base bM 4 f fd ["bag","net","many"] (iO 3 Eg):=by
 refine F.ok tK (λvs H Q E h=>h.1) (λcdv A outer s H vs Q E hr h=>?_);obtain⟨b,l,ws,nb,ds,Φ,rfl,T,C,t,I,D,X⟩:=rO h;obtain⟨p,n,many,cs,rfl,hp,Z,n0,n1,hcl,u,m0,m1,q⟩:=X;refine⟨_,#[3,(@gF _ _ _ _ _ _ #[0,qp,@aa _ _ _ _ _ (pv 1) ak rfl] (@gV _ (K) _ _ _ (3) _ rfl rfl (@bW _ _ _ _ _ (aK (i:=3) tK.nd rfl (be rfl)) (@bW _ _ _ _ _ (aK (i:=4) tK.nd rfl (be rfl)) (@bW _ _ _ _ _ (aK (i:=5) tK.nd rfl (be rfl)) gC (by rfl)) (by rfl)) (by rfl)) (by rfl) (by rfl)) (by rfl) (by rfl) (by rfl)),@gX _ _ _ _ _ _ _ _ fF rfl (@iN _ _ _ _ _ _ rfl bY (@aa _ _ _ _ _ (pv 2) ak rfl) (by rfl)) (aK (i:=6) tK.nd rfl (be rfl)) (@aA _ _ _ _ _ #[26,tK.nd,(@rJ _ _ _ _ _ _ _ _ (@bB _ _ _ _ _ _ _ _ (w6 hr.units) (pv 5) (@gR _ _ _ _ ak) (bu _)) #[0,e,@aa _ _ _ _ _ (pv 0) (@aa _ _ _ _ _ (pv 3) (@aa _ _ _ _ _ (pv 4) (@aa _ _ _ _ _ (pv 5) ak rfl) rfl) rfl) rfl] (@gR _ _ _ _ ak))] (@aI _ _ _ (@dJ _ _ _ _ _ _ _ _ (@bB _ _ _ _ _ _ _ _ (w6 hr.units) (pv 7) (@gR _ _ _ _ ak) (bu _)) (@aI _ _ _ (@qK _ _ _ _ (qi qE Om PySem.F.type_list_insert FR (pv 5) (@aa _ _ _ _ _ #[0,V,#[6,(@aM _ _ _ _ _ _ _ _ gm #[4,bT,@aa _ _ _ _ _ (pv 5) ak rfl] au)]] (@aa _ _ _ _ _ (pv 7) ak rfl) rfl)) (by rfl))) dO))) (by intro _;rfl),@iJ _ _ _ _ _ (@aa _ _ _ _ _ (pv 3) (@aa _ _ _ _ _ (pv 4) (@aa _ _ _ _ _ (pv 5) ak rfl) rfl) rfl)],?_⟩;refine Sv.rz T C t I D (ρ:=[.aG, .d false _, .d false _, .no, .no, .no, .no, .no]) rfl ?_;clear D I;refine Sv.seq ?_;refine Sv.aeG ⋯ ?_;rfl';refine⟨p,n,cs,rfl,∅,λm=>?_⟩;refine Sv.seq ?_;refine Sv.yj ?_;rfl';refine⟨λi ρ=>∃(g:Bool) (a:List aj) (o B:Sl),a.length<=cs.length+i/\(∀prs∈a,je p n.toNat prs)/\(∀v:List Int,v.length=n.toNat->(∀q∈cs,p∣aQ q (v.map some))->∀q∈a,p∣aQ q (v.map some))/\ρ=[.aG, .d false (bR p n cs), .d false (.int many), .d true (.int p), .d true (.int n), .own m g (a.map cy),o,B],⟨_,cs,_,_,aW _,u,λ_ _ h=>h,rfl⟩,?_,?_⟩
 .rintro i d ρ ⟨hi,rfl⟩ ⟨g,a,o,B,hl',hcs',hT,rfl⟩;refine Gv.pM ?_;have gv:(a.map cy).length=a.length:=ao ..;refine Sv.seq ?_;refine Sv.tH (λJ=>∃(prs:aj) (f7:Bool),je p n.toNat prs/\(∀v:List Int,v.length=n.toNat->(∀q∈a,p∣aQ q (v.map some))->p∣aQ prs (v.map some))/\J=[.aG, .d false (bR p n cs), .d false (.int many), .d true (.int p), .d true (.int n), .own m g (a.map cy), .d true (.int (0+(i:Int))), .d f7 (cy prs)]) ?_ ?_
  .refine Sv.asg ?_;refine Ev.Hi ?_;refine Tv.lend 5 rfl ?_;rfl';refine⟨FC a,⋯,_,rfl,?_⟩;rw[show(dq (a3 cy a)).eqv (dq (a3 (λx:Fd=>x.snd) []))=(a.map cy).isEmpty from L2.Nj _];by_cases c:a=[]
   .subst c;rw[if_neg ⋯];rfl';exact⟨[],_,⟨.nil,⋯,(λ_ h=>nomatch h)⟩,(λ_ _ _=>⟨0,by rw[iu];rfl⟩),rfl⟩
   .rw[if_pos (by cases a with|nil=>exact absurd rfl c|cons _ _=>rfl)];refine Ev.Gk ?_;refine iM.SW 5 rfl ?_;refine iM.oU Sr rfl ?_;rfl';refine⟨rfl,p,n,a,rfl,Qn hp Z n0 n1 ∅ hcs',c,λprs O j=>⟨rfl,?_⟩⟩;refine Gv.name ?_;exact⟨prs,_,O,j,rfl⟩
  rintro J ⟨prs,f7,O,j,rfl⟩;rfl';refine⟨(Pw prs).1,⋯,_,rfl,?_⟩;rw[show(cy prs).eqv (dq (a3 (λx:Fd=>x.snd) []))=(prs.map Ap).isEmpty from L2.Nj _];by_cases c:prs=[]
  .subst c;rw[if_neg ⋯];rfl';exact⟨_,_,_,_,∅,hcs',hT,rfl⟩
  .rw[if_pos (by cases prs with|nil=>exact absurd rfl c|cons _ _=>rfl)];refine Sv.insert rfl ?_;refine Ev.lend 5 rfl ?_;rfl';rw[gv];intro k k0 k1;refine⟨rfl,k,rfl,k0,∅,∅,?_⟩;refine Ev.var rfl ?_;have es:(a.map cy).take k.toNat++cy prs::(a.map cy).drop k.toNat=(a.take k.toNat++prs::a.drop k.toNat).map cy:=by
    rw[bS,bG,Cy,Hg]
   rw[es];refine⟨_,_,_,_,?_,λq hq=>?_,λv h1 h2 q hq=>?_,rfl⟩
   .rw[fk,eH,iG,sW];omega
   .rcases dM.mp hq with z|z
    .exact hcs' q (pN z)
    .rcases aY.mp z with z|z
     .rw[z];exact O
     .exact hcs' q (EX z)
   .rcases dM.mp hq with z|z
    .exact hT v h1 h2 q (pN z)
    .rcases aY.mp z with z|z
     .rw[z];exact j v h1 (hT v h1 h2)
     .exact hT v h1 h2 q (EX z)
 .rintro ρ ⟨g,a,o,B,hl',hcs',hT,rfl⟩;refine Sv.mD 5 rfl ?_;rfl';exact q _ a ∅ hcs' hT
def IU:DF:=λds Φ=>∃(p many:Int) (v:List Int),ds=[cA v, .int p, .int many]/\(v.length:Int)=many/\v.length<=9000/\(∀x∈v,0<=x/\x<p)/\p<10^40/\Φ true (.bool true)
def HF:cW IU:=by
 intro ds Φ Ψ hm z;revert hm;walk_at "mo";exact λq=>z _ _ q
def VP{os:List Bool}(h:∀(i:Nat) o,os[i]?=some o->o=true):os.all id=true:=by
 rw[g6];intro o ho;obtain⟨i,hi⟩:=ic ho;exact h i o hi
def TU:cg ["found","p","many"] ["found","p","many"] (aJ xU):=⟨rfl,rfl,rfl,by decide+kernel,rfl,by decide+kernel,by decide+kernel⟩
def ED(F:bQ K "_law_letter_list" "_law_letter_list" xU f fd)(a:Callee P w K mg base "_law_whole" 1 ["found"] IA)(gx:mg "all"=none)(gu:mg "isinstance"=none)(dw:mg "list"=none)(bT:mg "len"=none):
  bD P w K mg base bM 2 f fd ["found","p","many"] (bF 3 IU):=by
 refine F.ok TU (λvs H Q E h=>h.1) (λcdv A outer s H vs Q E hr h=>?_);obtain⟨nb,ds,Φ,C,I,D,X⟩:=fK h;obtain⟨p,many,u,rfl,Ir,c,hu,iE,q⟩:=X;refine⟨_,(@aA _ _ _ _ _ #[9,PW.pt (mE #[14,#[17,gu,#[6,jK (v:= .ty "list") rfl dw jD rfl]]] (oM (@bB _ _ _ _ _ _ _ _ iZ #[4,bT,@aa _ _ _ _ _ (pv 0) ak rfl] (pv 2) (bu _))))] #[5,#[25,gx,#[7,(show cO (aJ xU) ["found","p","many"] _ ["one","p"] [none,some 1]=true by decide+kernel),dI (K:=K) rfl (pv 0),(λ_ _ _ _=>⟨#[1,(by show aR (["one","p"]:List Str);decide+kernel)],gJ,(@uo _ _ _ _ _ _ _ #[24,a] (@uo _ _ _ _ _ _ _ (@jq _ _ _ _ _ _ _ _ MC au (pv 0) (bu _)) (@wj _ _ _ _ _ (@jq _ _ _ _ _ _ _ _ zR (pv 0) (pv 1) (bu _)))))⟩)]]]),?_⟩;refine Sv.fu C I D (ρ:=[.d false _, .d false _, .d false _]) rfl ?_;clear D I;have b:(u.map aq).length=u.length:=ao ..;rfl';refine az.ev (az.gK ⋯ rfl ?_);rfl';refine λv=>?_;refine jA.rel ij true (λi o=>o=true) ?_ λos ki B=>⟨os,rfl,?_⟩
 .rintro i d hd;obtain⟨x,hx,rfl⟩:=c9 hd;obtain⟨Y,W⟩:=hu x (bC hx);rfl';refine⟨by walk_at "wk",?_⟩;rfl';exact decide_eq_true W
 .rw[VP B];exact q
def IF:DF:=λds Φ=>∃(p n:Int) (cs:List aj) (bz:List Int),ds=[bR p n cs,cA bz]/\iB p n cs/\bz.length=cs.length/\(∀x∈bz,0<=x/\x<p)/\∀rw:List Int,cZ p n.toNat rw->(∀i<n.toNat,p∣gI rw i-iI cs bz i)->∀f,Φ f (cA rw)
def EF:cW IF:=by
 intro ds Φ Ψ hm z;revert hm;walk_at "mo";exact λq=>λr a b f=>z _ _ (q r a b f)
def vH:cg ["net","factors","row","c","place","factor"] ["net","factors"] (aJ JF):=⟨rfl,rfl,rfl,by decide+kernel,rfl,by decide+kernel,by decide+kernel⟩
theorem Sx(F:bQ K "_law_combined" "_law_combined" JF f fd)(bY:mg "range"=none)(bT:mg "len"=none):
  bD P w K mg base bM 1 f fd ["net","factors"] (bF 2 IF):=by
 refine F.ok vH (λvs H Q E h=>h.1) (λcdv A outer s H vs Q E hr h=>?_);obtain⟨nb,ds,Φ,C,I,D,X⟩:=fK h;obtain⟨p,n,cs,bz,rfl,hN,hfl,l,q⟩:=X;refine⟨_,#[3,#[15,vH.nd,(@aM _ _ _ _ _ _ _ _ Cw (@gR _ _ _ _ (@aa _ _ _ _ _ au ak rfl)) #[12])],#[11,(@iN _ _ _ _ _ _ rfl bY #[2,#[4,bT,@aa _ _ _ _ _ (pv 1) ak rfl]] (by rfl)),aK (i:=3) vH.nd rfl (be rfl),#[11,dI (K:=K) rfl (@aD _ _ _ _ _ _ (bO K) bA #[12] (pv 3) (λ_ _=>rfl)),#[8,aK (i:=4) vH.nd rfl (be rfl),aK (i:=5) vH.nd rfl (be rfl)],#[20,(@aM _ _ _ _ _ _ _ _ ia (@aM _ _ _ _ _ _ _ _ gm (@aD _ _ _ _ _ _ (bO K) bA (pv 2) (pv 4) (λ_ _=>rfl)) (@aM _ _ _ _ _ _ _ _ iD (pv 5) (@aD _ _ _ _ _ _ (bO K) bA (pv 1) (pv 3) (λ_ _=>rfl)))) #[12]),pv 2,pv 4]]],pv 2],?_⟩;refine Sv.fu C I D (ρ:=[.d false _, .d false _, .no, .no, .no, .no]) rfl ?_;clear D I;have p2:=hN.hp.1;have iE:=hN.iE;have hcl:=hN.cl;have n0:=hN.n0;have n1:=hN.n1;have gv:(cs.map cy).length=cs.length:=ao ..;have b:(bz.map aq).length=bz.length:=ao ..;generalize jo:(lW (fV (cQ sE _ _) (fB 2)) _:TS)=tl;rfl';subst jo;refine Sv.seq ?_;refine Sv.sZ (az.yD ?_);rfl';intro g0;have hz:ar n.toNat (aq 0)=(ar n.toNat (0:Int)).map aq:=by rw[xV]
 rw[hz];intro A2;refine Sv.seq ?_;refine Sv.yj ?_;rfl';refine⟨λc ρ=>∃(r:List Int) (g:Bool) (u N Z:Sl),jO p n cs bz c [] 0 r/\ρ=[.d false (bR p n cs), .d false (cA bz), .own A2 g (r.map .int),u,N,Z],⟨_,_,_,_,_,jO.init ∅,rfl⟩,?_,?_⟩
 .rintro c d ρ ⟨hc,rfl⟩ ⟨r,g,u,N,Z,hI,rfl⟩;have e:c<cs.length:=by rw[b] at hc;omega
  have O:cs[c]?=some cs[c]:=aC e;have a:bz[c]?=some (bz[c]'∅):=aC ∅;generalize cs[c]=prs at O;generalize (bz[c]'∅)=x at a;obtain⟨g1,g2,g3⟩:=hN.ok prs (bC O);obtain⟨m,t⟩:=l x (bC a);have HX:bE (cs.map cy) (0+(c:Int))=some (cy prs):=eu ∅ (by rw[bw,show(0+(c:Int)).toNat=c by omega,O];rfl);have V:bE (bz.map aq) (0+(c:Int))=some (.int x):=eu ∅ (by rw[bw,show(0+(c:Int)).toNat=c by omega,a];rfl);have eY:(prs.map Ap).length=prs.length:=ao ..;have sx:Sm x:=by unfold Sm;omega
  refine Gv.pM ?_;refine Sv.forL ?_;rfl';refine λv=>⟨λj ρ=>∃(r:List Int) (g:Bool) (N Z:Sl),jO p n cs bz c (prs.take j) x r/\ρ=[.d false (bR p n cs), .d false (cA bz), .own A2 g (r.map .int), .d true (.int (0+(c:Int))),N,Z],⟨_,_,_,_,hI.start,rfl⟩,?_,?_⟩
  .rintro j d ρ hd ⟨r,g,N,Z,hJ,rfl⟩;obtain⟨pr,k,rfl⟩:=c9 hd;obtain⟨a0,a1,a2,y⟩:=g3 pr (bC k);have hrl:=hJ.ok.len;have G:bE (r.map aq) pr.1=some (.int (gI r pr.1.toNat)):=eu a0 (by rw[bw,hJ.ok.at ∅];rfl);obtain⟨b0,b1⟩:=hJ.ok.g (i:=pr.1.toNat) ∅;have s2:Sm pr.2:=by unfold Sm;omega
   have s3:Sm (gI r pr.1.toNat):=by unfold Sm;omega
   have U:dS (r.map aq).length pr.1=some pr.1.toNat:=by
    unfold dS;rw[ao]
    repeat (first|rw[if_pos ∅]|rw[if_neg ∅])
   generalize z:(fV (cQ _ _ _) (nY (bZ 2) _ qd):TS)=tl2;rfl';subst z;refine Sv.rV rfl ?_;rfl';refine⟨_,_,rfl,U,?_⟩;have es:prs.take (j+1)=prs.take j++[pr]:=Ai k;rw[<-mX];refine⟨_,_,_,_,?_,rfl⟩;rw[es];exact hJ.step ∅ a0 a1
  .rintro ρ ⟨r,g,N,Z,hJ,rfl⟩;rw[eY,c6] at hJ;exact⟨_,_,_,_,_,hJ.next O a hfl,rfl⟩
 .rintro ρ ⟨r,g,u,N,Z,hI,rfl⟩;rw[b,hfl] at hI;refine Sv.mD 2 rfl ?_;rfl';refine q r hI.ok (λi hi=>?_) _;have:=hI.sum i hi;rw[jw,c6,<-hfl,c6] at this;simpa[co] using this
def GF:DF:=λds Φ=>∃(p n:Int) (cs:List aj) (v:List Int),ds=[bR p n cs,cA v]/\iB p n cs/\v.length=n.toNat/\(∀x∈v,0<=x/\x<p)/\(∀prs∈cs,p∣aQ prs (v.map some))/\Φ true (.bool true)
def OR:cW GF:=by
 intro ds Φ Ψ hm z;revert hm;walk_at "mo";exact λq=>z _ _ q
def all_true{os:List Bool}(h:∀(i:Nat) o,os[i]?=some o->o=true):os.all id=true:=by
 rw[g6];intro o ho;obtain⟨i,hi⟩:=ic ho;exact h i o hi
def afW:cg ["net","word"] ["net","word"] (aJ Au):=⟨rfl,rfl,rfl,by decide+kernel,rfl,by decide+kernel,by decide+kernel⟩
theorem Vq(F:bQ K "_law_true" "_law_true" Au f fd)(Ig:Callee P w K mg base "_law_sum" 1 ["p","pairs","word"] (bF 3 za))(gx:mg "all"=none):
  bD P w K mg base bM 2 f fd ["net","word"] (bF 2 GF):=by
 refine F.ok afW (λvs H Q E h=>h.1) (λcdv A outer s H vs Q E hr h=>?_);obtain⟨nb,ds,Φ,C,I,D,X⟩:=fK h;obtain⟨p,n,cs,u,rfl,hN,Ir,hu,htr,q⟩:=X;refine⟨_,#[5,#[25,gx,#[7,(show cO (aJ Au) ["net","word"] _ ["pairs","net","word"] [none,some 0,some 1]=true by decide+kernel),dI (K:=K) rfl (@aD _ _ _ _ _ _ (bJ K) bU (pv 0) au (λ_ _=>rfl)),(λ_ _ _ _=>⟨#[1,(by show aR (["pairs","net","word"]:List Str);decide+kernel)],gJ,(@jq _ _ _ _ _ _ _ _ fX #[0,Ig,@aa _ _ _ _ _ (@aD _ _ _ _ _ _ (bJ K) bU (pv 1) au (λ_ _=>rfl)) (@aa _ _ _ _ _ (pv 0) (@aa _ _ _ _ _ (pv 2) ak rfl) rfl) rfl] au (bu _))⟩)]]],?_⟩;refine Sv.fu C I D (ρ:=[.d false _, .d false _]) rfl ?_;clear D I;have p2:=hN.hp.1;have iE:=hN.iE;have hcl:=hN.cl;have n0:=hN.n0;have gv:(cs.map cy).length=cs.length:=ao ..;have N:u.map aq=(u.map some).map cT:=by rw[j7];rfl
 rfl';refine az.ev (az.gK ⋯ rfl ?_);rfl';refine λv=>?_;refine jA.rel ij true (λi o=>o=true) ?_ λos ki B=>⟨os,rfl,?_⟩
 .rintro i d hd;obtain⟨prs,O,rfl⟩:=c9 hd;obtain⟨g1,g2,g3⟩:=hN.ok prs (bC O);rfl';refine⟨by walk_at "wk",?_⟩;rfl';refine Ev.dh ML ?_;rfl';refine⟨rfl,p,prs,u.map some,by show[_,dq _,dq _]=_;rw[N],∅,∅,λpr G=>?_,λx hx=>?_,?_⟩
  .have:=g3 pr G;rw[ao];exact⟨this.1,∅,by unfold Sm;omega⟩
  .obtain⟨y,hy,e⟩:=cL.mp hx;cases e;have:=hu x hy;unfold Sm;omega
  .have:aQ prs (u.map some)%p=0:=rD (htr prs (bC O));rw[this];rfl'
   rfl
 .rw[all_true B];exact q
def BB(p n:Int)(cs:List aj)(wd:Wo)(pl:Nat)(d:PyData):Prop:=(∃v bz,sD p n cs wd pl v bz/\d= .tuple [.str "told", .int v,cA bz])\/∃u,fW p n cs (jm wd pl) u/\d= .tuple [.str "open",cA u]
def Ep:DF:=λds Φ=>∃(p n:Int) (cs:List aj) (wd:Wo) (pl:Nat) (d:PyData),ds=[bR p n cs,dU wd, .int (pl:Int),d]/\iB p n cs/\wd.length=n.toNat/\(∀x,some x∈wd->0<=x/\x<p)/\wd[pl]?=some none/\BB p n cs wd pl d/\Φ true (.bool true)
def Bq:cW Ep:=by
 intro ds Φ Ψ hm z;revert hm;walk_at "mo";exact λq=>z _ _ q
def pX(a b:Str):iU (.str a) (.str b) (decide (a=b)):=iU.sd a b
theorem Lj:∀(f:Nat->Int) (xs:List Int) (x:Int),aE f (xs++[x])=aE f xs+f xs.length*x
  |f,[],x=>by simp[aE]
  | f, y :: ys, x => by
    show f 0*y+aE _ (ys++[x])=(f 0*y+aE _ ys)+f (ys.length+1)*x;rw[Lj (λi=>f (i+1)) ys x];omega
def uE:cg ["net","word","place","found","p","n","checks","other","row"] ["net","word","place","found"] (aJ ue):=⟨rfl,rfl,rfl,by decide+kernel,rfl,by decide+kernel,by decide+kernel⟩
theorem Z1(F:bQ K "_law_settles" "_law_settles" ue f fd)(t:Callee P w K mg base "_law_combined" 1 ["net","factors"] (bF 2 IF))(l:Callee P w K mg base "_law_letter_list" 2 ["found","p","many"] (bF 3 IU))(y:Callee P w K mg base "_law_true" 2 ["net","word"] (bF 2 GF))(bT:mg "len"=none)(gx:mg "all"=none)(gu:mg "isinstance"=none)(nO:mg "tuple"=none)(sH:mg "sum"=none)(jM:mg "int"=none)(bY:mg "range"=none):
    bD P w K mg base bM 3 f fd ["net","word","place","found"] (bF 4 Ep):=by
  refine F.ok uE (λvs H Q E h=>h.1) (λcdv A outer s H vs Q E hr h=>?_);obtain⟨nb,ds,Φ,C,I,D,X⟩:=fK h;obtain⟨p,n,cs,wd,pl,d,rfl,hN,hwl,m,hpl,N,q⟩:=X;refine⟨_,(@aA _ _ _ _ _ (@gF _ _ _ _ _ _ (pv 0) (@gV _ (K) _ _ _ (3) _ rfl rfl (@bW _ _ _ _ _ (aK (i:=4) uE.nd rfl (be rfl)) (@bW _ _ _ _ _ (aK (i:=5) uE.nd rfl (be rfl)) (@bW _ _ _ _ _ (aK (i:=6) uE.nd rfl (be rfl)) gC (by rfl)) (by rfl)) (by rfl)) (by rfl) (by rfl)) (by rfl) (by rfl) (by rfl)) #[21,#[9,PW.pt (mE #[14,#[17,gu,(@aa _ _ _ _ _ (pv 3) #[2,jK (v:= .ty "tuple") rfl nO EM rfl] rfl)]] (mE (@bB _ _ _ _ _ _ _ _ zR #[4,bT,@aa _ _ _ _ _ (pv 3) ak rfl] au (bu _)) (oM (@bB _ _ _ _ _ _ _ _ IC #[4,bT,@aa _ _ _ _ _ (pv 3) ak rfl] au (bu _)))))],(@dJ _ _ _ _ _ _ _ _ #[13,#[4,bT,@aa _ _ _ _ _ (pv 3) ak rfl]] #[3,@aX _ _ (7) _ _ _ _ uE.nd rfl (ee rfl) (@aD _ _ _ _ _ _ (bJ K) bU (pv 3) au (λ_ _=>rfl)) (by rfl) (by first|exact .inl rfl|exact .inr rfl|assumption),#[9,PW.pt (mE (@bB _ _ _ _ _ _ _ _ iZ (@aD _ _ _ _ _ _ (bJ K) bU (pv 3) au (λ_ _=>rfl)) tG (bu _)) (mE #[14,#[0,l,@aa _ _ _ _ _ (pv 7) (@aa _ _ _ _ _ (pv 4) (@aa _ _ _ _ _ (pv 5) ak rfl) rfl) rfl]] (oM #[14,#[0,y,@aa _ _ _ _ _ (pv 0) (@aa _ _ _ _ _ (pv 7) ak rfl) rfl]])))],@uo _ _ _ _ _ _ _ (@jq _ _ _ _ _ _ _ _ fX (@aD _ _ _ _ _ _ (bO K) bA (pv 7) (pv 2) (λ_ _=>rfl)) au (bu _)) (@wj _ _ _ _ _ #[25,gx,#[7,(show cO (aJ ue) ["net","word","place","found","p","n","checks","other","row"] _ ["k","word","other"] [none,some 1,some 7]=true by decide+kernel),@iN _ _ _ _ _ _ rfl bY (@aa _ _ _ _ _ (pv 5) ak rfl) (by rfl),(λ_ _ _ _=>⟨#[1,(by show aR (["k","word","other"]:List Str);decide+kernel)],(iX (@bB _ _ _ _ _ _ _ _ qO (@aD _ _ _ _ _ _ (bO K) bA (pv 1) (pv 0) (λ_ _=>rfl)) iY (bu _))),(@jq _ _ _ _ _ _ _ _ fX (@aD _ _ _ _ _ _ (bO K) bA (pv 2) (pv 0) (λ_ _=>rfl)) au (bu _))⟩)]])] dO),#[9,PW.pt (mE (@bB _ _ _ _ _ _ _ _ iZ (@aD _ _ _ _ _ _ (bJ K) bU (pv 3) au (λ_ _=>rfl)) tG (bu _)) (oM #[14,#[0,l,@aa _ _ _ _ _ (@gR _ _ _ _ #[2,@aD _ _ _ _ _ _ (bJ K) bU (pv 3) au (λ_ _=>rfl)]) (@aa _ _ _ _ _ (pv 4) (@aa _ _ _ _ _ au ak rfl) rfl) rfl]]))],#[9,#[14,#[0,l,@aa _ _ _ _ _ (@aD _ _ _ _ _ _ (bJ K) bU (pv 3) au (λ_ _=>rfl)) (@aa _ _ _ _ _ (pv 4) #[2,#[4,bT,@aa _ _ _ _ _ (pv 6) ak rfl]] rfl) rfl]]],#[3,(@aX _ _ (8) _ _ _ _ uE.nd rfl (ee rfl) #[0,t,#[6,@aD _ _ _ _ _ _ (bJ K) bU (pv 3) au (λ_ _=>rfl)]] (by rfl) (by first|exact .inl rfl|exact .inr rfl|assumption)),#[9,#[14,#[25,gx,#[7,(show cO (aJ ue) ["net","word","place","found","p","n","checks","other","row"] _ ["k","word","place","row"] [none,some 1,some 2,some 8]=true by decide+kernel),@iN _ _ _ _ _ _ rfl bY (@aa _ _ _ _ _ (pv 5) ak rfl) (by rfl),(λ_ _ _ _=>⟨#[1,(by show aR (["k","word","place","row"]:List Str);decide+kernel)],(iX (@bB _ _ _ _ _ _ _ _ wD (@aD _ _ _ _ _ _ (bO K) bA (pv 1) (pv 0) (λ_ _=>rfl)) iY (bu _))),(@jq _ _ _ _ _ _ _ _ fX (@aD _ _ _ _ _ _ (bO K) bA (pv 3) (pv 0) (λ_ _=>rfl)) (@j6 _ _ _ _ _ _ _ _ _ Sa rfl jM xh #[2,@jq _ _ _ _ _ _ _ _ fX (pv 0) (pv 2) (bu _)] ⋯ ⋯ (by rfl) (by rfl)) (bu _))⟩)]]]],@jq _ _ _ _ _ _ _ _ fX (@aM _ _ _ _ _ _ _ _ ia (@aM _ _ _ _ _ _ _ _ gm (@aD _ _ _ _ _ _ (bJ K) bU (pv 3) au (λ_ _=>rfl)) (@cB _ _ _ _ _ _ _ _ (Ao K) (N4 rfl) rfl sH RP #[7,(show cO (aJ ue) ["net","word","place","found","p","n","checks","other","row"] _ ["k","word","row"] [none,some 1,some 8]=true by decide+kernel),@iN _ _ _ _ _ _ rfl bY (@aa _ _ _ _ _ (pv 5) ak rfl) (by rfl),(λ_ _ _ _=>⟨#[1,(by show aR (["k","word","row"]:List Str);decide+kernel)],(iX (@bB _ _ _ _ _ _ _ _ qO (@aD _ _ _ _ _ _ (bO K) bA (pv 1) (pv 0) (λ_ _=>rfl)) iY (bu _))),(@aM _ _ _ _ _ _ _ _ iD (@aD _ _ _ _ _ _ (bO K) bA (pv 2) (pv 0) (λ_ _=>rfl)) (@aD _ _ _ _ _ _ (bO K) bA (pv 1) (pv 0) (λ_ _=>rfl)))⟩)] ⋯ ⋯ (by rfl) (by rfl))) (pv 4)) au (bu _)]]),?_⟩;refine Sv.fu C I D (ρ:=[.d false _, .d false _, .d false _, .d false _, .no, .no, .no, .no, .no]) rfl ?_;clear D I;have p2:=hN.hp.1;have iE:=hN.iE;have hcl:=hN.cl;have n0:=hN.n0;have n1:=hN.n1;have uy:=(aO.mp hpl).1;have FT:(wd.map cT).length=wd.length:=ao ..;rcases N with ⟨v,bz,hT,rfl⟩|⟨u,hW,rfl⟩
  · have hfl:=hT.len
    rfl';refine⟨_,pX _ _,_,rfl,?_⟩;rw[if_neg ⋯];rfl';refine Ev.dh HF ?_;rfl';refine⟨rfl,p,1,[v],rfl,rfl,by show 1<=9000;omega,?_,iE,?_⟩
    · intro x hx
      rw[aZ.mp hx];exact⟨hT.v0,hT.v1⟩
    rfl';refine Ev.dh HF ?_;rfl';refine⟨rfl,p,(cs.map cy).length,bz,rfl,by rw[ao];omega,∅,hT.rg,iE,?_⟩;rfl';refine Ev.dh EF ?_;rfl';refine⟨rfl,p,n,cs,bz,rfl,hN,hfl,hT.rg,λr hr e f=>?_⟩;obtain⟨hz,h1⟩:=hT.S4 r hr.len e;have hrl:=hr.len;rfl';refine az.ev (az.kc ⋯ rfl ?_);rfl';refine⟨true,λi ds=>∃bs:List Bool,ds=bs.map .bool/\bs.all id=true,⟨[],rfl,rfl⟩,?_,?_⟩
    · rintro i d ds ⟨hi,rfl⟩ hl' ⟨bs,rfl,hbs⟩
      obtain⟨o,ho,S⟩:=oG (xs:=wd) (k:=0+(i:Int)) cT ∅ (show 0+(i:Int)<wd.length by omega) rfl;rw[show(0+(i:Int)).toNat=i by omega] at ho;have V:bE (r.map aq) (0+(i:Int))=some (.int (gI r i)):=eu ∅ (by rw[bw,show(0+(i:Int)).toNat=i by omega,hr.at hi];rfl);rfl';refine⟨by walk_at "wk",?_⟩;rfl';rw[oV];cases o with
      | some x =>
        rfl';exact⟨bs,rfl,hbs⟩
      | none =>
        have hg:=hr.g (i:=i) ∅;have hk:gI r i=if i=pl then 1 else 0:=by
          obtain⟨J,b⟩:=hz i ho;by_cases c:i=pl
          · rw[if_pos c] at b⊢
            have h2:gI r i%p=1:=by rw[show gI r i=1+p*J by omega,uT,kX ∅ ∅]
            rw[kX hg.1 hg.2] at h2;exact h2
          · rw[if_neg c] at b⊢
            have h2:gI r i%p=0:=by rw[show gI r i=0+p*J by omega,uT,yM]
            rw[kX hg.1 hg.2] at h2;exact h2
        rfl';refine⟨bs++[true],?_,by rw[qz,hbs];rfl⟩;rw[bS,hk];by_cases c:i=pl;· subst c;simp
        · have:¬((i:Int)=(pl:Int)):=∅
          simp[c,this]
    · rintro ds hl' ⟨bs,rfl,hbs⟩
      refine⟨bs,rfl,?_⟩;rw[hbs];rfl';refine az.ev (az.kc ⋯ rfl ?_);rfl';refine⟨true,λi ds=>∃ns:List Int,ds=ns.map .int/\ns.sum=aE (dD wd) (r.take i),⟨[],rfl,rfl⟩,?_,?_⟩
      · rintro i d ds ⟨hi,rfl⟩ hl' ⟨ns,rfl,hns⟩
        obtain⟨o,ho,S⟩:=oG (xs:=wd) (k:=0+(i:Int)) cT ∅ (show 0+(i:Int)<wd.length by omega) rfl;rw[show(0+(i:Int)).toNat=i by omega] at ho;have V:bE (r.map aq) (0+(i:Int))=some (.int (gI r i)):=eu ∅ (by rw[bw,show(0+(i:Int)).toNat=i by omega,hr.at hi];rfl);have hs:aE (dD wd) (r.take (i+1))=aE (dD wd) (r.take i)+dD wd i*gI r i:=by
          rw[Ai (hr.at hi),Lj,iG,A6 ∅]
        obtain⟨r0,M⟩:=hr.g (i:=i) ∅;rfl';refine⟨by walk_at "wk",?_⟩;rfl';rw[oV];cases o with
        | none =>
          rfl';refine⟨ns,rfl,?_⟩;rw[hs,hns];unfold dD;rw[ho];simp
        | some x =>
          have j:bE (wd.map cT) (0+(i:Int))=some (.int x):=S;obtain⟨Y,W⟩:=m x (bC ho);have s1:Sm x:=by unfold Sm;omega
          have s2:Sm (gI r i):=by unfold Sm;omega
          rfl';refine⟨ns++[gI r i*x],by rw[bS];rfl,?_⟩;rw[hs,oS,hns];unfold dD;rw[ho];simp[mh]
      · rintro ds hl' ⟨ns,rfl,hns⟩
        rw[<-hrl,c6] at hns;refine⟨ns,rfl,?_⟩;rfl';rw[hns];have:(v+aE (dD wd) r)%p=0:=rD h1;rw[this];exact q
  · have hvl:=hW.len
    rfl';refine⟨_,pX _ _,_,rfl,?_⟩;rw[if_neg ⋯];rfl';refine Ev.dh HF ?_;rfl';refine⟨rfl,p,n,u,rfl,∅,∅,hW.rg,iE,?_⟩;rfl';refine Ev.dh OR ?_;rfl';refine⟨rfl,p,n,cs,u,rfl,hN,hvl,hW.rg,hW.p8,?_⟩;rfl';have a:gI u pl=1:=hW.known pl 1 (by rw[ly uy,if_pos rfl]);have G:bE (u.map aq) (pl:Int)=some (.int (gI u pl)):=eu ∅ (by rw[bw,jw,(cZ.at (p:=p) (w:=n.toNat) ⟨hvl,hW.rg⟩ ∅)];rfl);refine⟨_,G,?_⟩;rfl';refine az.ev (az.kc ⋯ rfl ?_);rfl';refine⟨true,λi ds=>∃bs:List Bool,ds=bs.map .bool/\bs.all id=true,⟨[],rfl,rfl⟩,?_,?_⟩
    · rintro i d ds ⟨hi,rfl⟩ hl' ⟨bs,rfl,hbs⟩
      obtain⟨o,ho,S⟩:=oG (xs:=wd) (k:=0+(i:Int)) cT ∅ (show 0+(i:Int)<wd.length by omega) rfl;rw[show(0+(i:Int)).toNat=i by omega] at ho;have V:bE (u.map aq) (0+(i:Int))=some (.int (gI u i)):=eu ∅ (by rw[bw,show(0+(i:Int)).toNat=i by omega,(cZ.at (p:=p) (w:=n.toNat) ⟨hvl,hW.rg⟩ hi)];rfl);rfl';refine⟨by walk_at "wk",?_⟩;rfl';rw[oV];cases o with
      | none =>
        rfl';exact⟨bs,rfl,hbs⟩
      | some x =>
        have B:i≠pl:=λz=>by subst z;rw[hpl] at ho;cases ho
        have hk:gI u i=0:=hW.known i 0 (by rw[ly ∅,if_neg B,if_neg (by rw[ho];intro z;cases z)]);rfl';exact⟨bs++[true],by rw[bS,decide_eq_true hk];rfl,by rw[qz,hbs];rfl⟩
    · rintro ds hl' ⟨bs,rfl,hbs⟩
      refine⟨bs,rfl,?_⟩;rw[hbs];exact q
def IZ:Nat->PyData->Prop
 |0,_=>False
 |n+1,d=>jt d=true\/∃ds,(d= .list ds\/d= .tuple ds)/\ds.length<=10000/\∀e∈ds,IZ n e
def sR(n:Nat):DF:=λds Φ=>∃d,ds=[d,d]/\IZ n d/\Φ true (.bool true)
def xw(n:Nat):cW (sR n):=by
 intro ds Φ Ψ hm z;revert hm;walk_at "mo";exact λq=>z _ _ q
def FX:∀vs H Q E,¬bF 2 (sR 0) vs H Q E:=λvs H Q E ⟨_,_,_,_,_,d,_,h,_⟩=>h
def RZ:cg ["found","due"] ["found","due"] (aJ BO):=⟨rfl,rfl,rfl,by decide+kernel,rfl,by decide+kernel,by decide+kernel⟩
theorem Ju(n:Nat)(F:bQ K "_law_alike" "_law_alike" BO f fd)(Aq:Callee P w K mg base "_law_alike" (n) ["found","due"] (bF 2 (sR n)))(gu:mg "isinstance"=none)(dw:mg "list"=none)(nO:mg "tuple"=none)(gx:mg "all"=none)(bT:mg "len"=none)(om:mg "bool"=none)(jM:mg "int"=none)(uh:mg "str"=none)(bY:mg "range"=none):
  bD P w K mg base bM (n+1) f fd ["found","due"] (bF 2 (sR (n+1))):=by
 refine F.ok RZ (λvs H Q E h=>h.1) (λcdv A outer s H vs Q E hr h=>?_);obtain⟨nb,ds,Φ,C,I,D,X⟩:=fK h;obtain⟨d,rfl,hok,q⟩:=X;refine⟨_,#[3,(@dJ _ _ _ _ _ _ _ _ (@iK _ (K) _ _ rfl (@cB _ _ _ _ _ _ _ _ (xG) QS rfl gu kg #[19,(@iJ _ _ _ _ _ #[16,jK (v:= .ty "list") rfl dw jD rfl,jK (v:= .ty "tuple") rfl nO EM rfl])] ⋯ ⋯ (by rfl) (by rfl)) (λ_=>rfl)) #[3,#[9,PW.pt (mE #[14,(@cB _ _ _ _ _ _ _ _ (xG) QS rfl gu kg #[6,(@iJ _ _ _ _ _ #[16,jK (v:= .ty "list") rfl dw jD rfl,jK (v:= .ty "tuple") rfl nO EM rfl])] ⋯ ⋯ (by rfl) (by rfl))] (oM (@bB _ _ _ _ _ _ _ _ iZ #[17,gu,#[6,jK (v:= .ty "list") rfl dw jD rfl]] #[17,gu,#[19,jK (v:= .ty "list") rfl dw jD rfl]] (bu _))))],#[9,(@bB _ _ _ _ _ _ _ _ iZ #[4,bT,@aa _ _ _ _ _ (pv 0) ak rfl] #[4,bT,@aa _ _ _ _ _ (pv 1) ak rfl] (bu _))],#[25,gx,#[7,(show cO (aJ BO) ["found","due"] _ ["k","found","due"] [none,some 0,some 1]=true by decide+kernel),(@iN _ _ _ _ _ _ rfl bY #[2,#[4,bT,@aa _ _ _ _ _ (pv 1) ak rfl]] (by rfl)),(λ_ _ _ _=>⟨#[1,(by show aR (["k","found","due"]:List Str);decide+kernel)],gJ,(@aS _ _ _ _ _ _ _ _ _ _ Aq (hr.mono (aW _)) #[16,@aD _ _ _ _ _ _ (BL K) KR (pv 1) (pv 0) (λ_ _=>rfl),@aD _ _ _ _ _ _ (BL K) KR (pv 2) (pv 0) (λ_ _=>rfl)] (by rfl) ⋯ (by rfl) (by rfl))⟩)]]] dO),#[9,PW.pt (mE (@bB _ _ _ _ _ _ _ _ iZ #[17,gu,#[6,jK (v:= .ty "bool") rfl om Ho rfl]] #[17,gu,#[19,jK (v:= .ty "bool") rfl om Ho rfl]] (bu _)) (oM (@bB _ _ _ _ _ _ _ _ iZ #[17,gu,#[6,jK (v:= .ty "int") rfl jM xh rfl]] #[17,gu,#[19,jK (v:= .ty "int") rfl jM xh rfl]] (bu _))))],@uo _ _ _ _ _ _ _ (@jq _ _ _ _ _ _ _ _ fX #[17,gu,#[6,jK (v:= .ty "str") rfl uh Mc rfl]] #[17,gu,#[19,jK (v:= .ty "str") rfl uh Mc rfl]] (bu _)) (@wj _ _ _ _ _ (@jq _ _ _ _ _ _ _ _ fX (pv 0) (pv 1) (bu _)))],?_⟩;refine Sv.fu C I D (ρ:=[.d false _, .d false _]) rfl ?_;clear D I;rfl';rcases hok with hs|⟨ds,hd,hl,he⟩
 .have h1:(j8 d "list" ||j8 d "tuple")=false:=by cases d<;>first|rfl|cases hs
  rw[h1];rfl';rw[beq_self_eq_true];rfl';rw[beq_self_eq_true];rfl';rw[beq_self_eq_true];rfl';exact⟨true, .self hs,q⟩
 rcases hd with rfl|rfl
 .rw[(Pp ds).1,(Pp ds).2,GY];rfl';refine az.ev (az.kc ⋯ rfl ?_);rfl';refine⟨true,λi es=>es=ar i (.bool true),rfl,?_,?_⟩
  .rintro i d' es ⟨hi,rfl⟩ hl' rfl;have c:i<ds.length:=∅
   have S:bE ds (0+(i:Int))=some ds[i]:=eu ∅ (by rw[show(0+(i:Int)).toNat=i by omega];exact aC c);rfl';refine⟨by walk_at "wk",?_⟩;rfl';refine Ev.dh (xw n) ?_;rfl';refine⟨rfl,ds[i],rfl,he _ (cU c),λ_=>rfl,?_⟩;show _=ar (i+1) _;rw[vC]
  .rintro es hl' rfl;refine⟨ar ds.length true,by simp,?_⟩;rw[show(ar ds.length true).all id=true by simp];exact q
 .rw[(R9 ds).1,(R9 ds).2,sS];rfl';refine az.ev (az.kc ⋯ rfl ?_);rfl';refine⟨true,λi es=>es=ar i (.bool true),rfl,?_,?_⟩
  .rintro i d' es ⟨hi,rfl⟩ hl' rfl;have c:i<ds.length:=∅
   have S:bE ds (0+(i:Int))=some ds[i]:=eu ∅ (by rw[show(0+(i:Int)).toNat=i by omega];exact aC c);rfl';refine⟨by walk_at "wk",?_⟩;rfl';refine Ev.dh (xw n) ?_;rfl';refine⟨rfl,ds[i],rfl,he _ (cU c),λ_=>rfl,?_⟩;show _=ar (i+1) _;rw[vC]
  .rintro es hl' rfl;refine⟨ar ds.length true,by simp,?_⟩;rw[show(ar ds.length true).all id=true by simp];exact q
def Jy:DF:=λds Φ=>∃(p n:Int) (cs:List aj) (wd:Wo),ds=[bR p n cs,dU wd]/\wd.length=n.toNat/\0<=n/\n<=400/\cs.length<=500/\(∀prs∈cs,prs.length<=10000)/\∀g:List Int,l6 cs (fU wd) g->Φ true (.list (g.map .int))
def Vn:cW Jy:=by
 intro ds Φ Ψ hm z;revert hm;walk_at "mo";exact λq=>λg a=>z _ _ (q g a)
open Classical in
noncomputable def Me(ρ:Rh):Nat:=match(ρ[2]?:Option Sl),(ρ[3]?:Option Sl) with
 |some (Sl.d _ (.list ds)),some (Sl.d _ x)=>2*ds.length+if x= .list ds then 0 else 1
 |_,_=>0
def Vd{a b:List Int}(h:(dq (a.map .int))= .list (b.map .int)):a=b:=by
 injection h with h
 exact(List.map_inj_right (λx y z=>by injection z)).mp h
structure vE(cs:List aj)(L0 L:List Int):Prop where
 sub:∃q:Int->Bool,L=L0.filter q
 max:∀T:List Int,(∀x∈T,x∈L0)->gp cs T=true->∀x∈T,x∈L
def vE.less{L0:List Int}(h:vE cs L0 L)(hp:prs∈cs)(h1:cE L prs=1)(hx:x∈prs.map (·.1)):vE cs L0 (L.filter λy=>decide (y≠x)):=
 ⟨by obtain⟨q,e⟩:=h.sub;exact⟨_,by rw[e,Fo]⟩,Y2 h.max hp h1 hx⟩
def rY:cg ["net","word","lost","before","pairs","met"] ["net","word"] (aJ uL):=⟨rfl,rfl,rfl,by decide+kernel,rfl,by decide+kernel,by decide+kernel⟩
theorem Xg(F:bQ K "_law_left" "_law_left" uL f fd)(bY:mg "range"=none)(bT:mg "len"=none):
    bD P w K mg base bM 1 f fd ["net","word"] (bF 2 Jy):=by
  refine F.ok rY (λvs H Q E h=>h.1) (λcdv A outer s H vs Q E hr h=>?_);obtain⟨nb,ds,Φ,C,I,D,X⟩:=fK h;obtain⟨p,n,cs,wd,rfl,hwl,n0,n1,hcl,hpl,q⟩:=X;refine⟨_,(@aA _ _ _ _ _ (@aX _ _ (2) _ _ _ _ rY.nd rfl (ee rfl) (dY (cz.of (show cO (aJ uL) ["net","word","lost","before","pairs","met"] _ ["k","word"] [none,some 1]=true by decide+kernel)) (@iN _ _ _ _ _ _ rfl bY (@aa _ _ _ _ _ (@aD _ _ _ _ _ _ (bJ K) bU (pv 0) au (λ_ _=>rfl)) ak rfl) (by rfl)) (λ_ _ _ _=>⟨#[1,(by show aR (["k","word"]:List Str);decide+kernel)],(iX (@bB _ _ _ _ _ _ _ _ wD (@aD _ _ _ _ _ _ (bO K) bA (pv 1) (pv 0) (λ_ _=>rfl)) iY (bu _))),(pv 0)⟩)) (by rfl) (by first|exact .inl rfl|exact .inr rfl|assumption)) #[3,#[22,rY.nd,iY],@uG _ _ _ _ _ _ fF (@bB _ _ _ _ _ _ _ _ (w6 hr.units) (pv 3) (pv 2) (bu _)) (@aA _ _ _ _ _ #[22,rY.nd,pv 2] (@aI _ _ _ (@gX _ _ _ _ _ _ _ _ fF rfl (dI (K:=K) rfl (@aD _ _ _ _ _ _ (bJ K) bU (pv 0) au (λ_ _=>rfl))) (aK (i:=4) rY.nd rfl (be rfl)) (@aA _ _ _ _ _ (@aX _ _ (5) _ _ _ _ rY.nd rfl (ee rfl) (dY (cz.of (show cO (aJ uL) ["net","word","lost","before","pairs","met"] _ ["place","factor","lost"] [none,none,some 2]=true by decide+kernel)) (dI (K:=K) rfl (pv 4)) (λ_ _ _ _=>⟨#[8,#[1,(by show aR (["place","factor","lost"]:List Str);decide+kernel)],aK (i:=1) (by show aR (["place","factor","lost"]:List Str);decide+kernel) rfl (be rfl)],(iX (bB (ur (K:=K) (by rfl)) (pv 0) (pv 2) (by with_unfolding_all rfl))),(pv 0)⟩)) (by rfl) (by first|exact .inl rfl|exact .inr rfl|assumption)) (@aI _ _ _ (@dJ _ _ _ _ _ _ _ _ #[13,#[4,bT,@aa _ _ _ _ _ (pv 5) ak rfl]] (@aI _ _ _ (@aX _ _ (2) _ _ _ _ rY.nd rfl (ee rfl) (dY (cz.of (show cO (aJ uL) ["net","word","lost","before","pairs","met"] _ ["k","met"] [none,some 5]=true by decide+kernel)) (dI (K:=K) rfl (pv 2)) (λ_ _ _ _=>⟨#[1,(by show aR (["k","met"]:List Str);decide+kernel)],(iX (@bB _ _ _ _ _ _ _ _ iZ (pv 0) (@aD _ _ _ _ _ _ (bO K) bA (pv 1) au (λ_ _=>rfl)) (bu _))),(pv 0)⟩)) (by rfl) (by first|exact .inl rfl|exact .inr rfl|assumption))) dO))) (by intro _;rfl)))),pv 2]),?_⟩;refine Sv.fu C I D (ρ:=[.d false _, .d false _, .no, .no, .no, .no]) rfl ?_;clear D I;have gv:(cs.map cy).length=cs.length:=ao ..;have FT:(wd.map cT).length=wd.length:=ao ..;refine Sv.seq ?_;refine Sv.setC ?_;refine az.ev (az.kc ⋯ rfl ?_);rfl';refine⟨true,λi ds=>ds=(((aL i).filter λj=>wd[j]?==some none).map λ(j:Nat)=>(j:Int)).map aq,rfl,?_,?_⟩
  · rintro i d ds ⟨hi,rfl⟩ hl' rfl
    obtain⟨o,ho⟩:∃o,wd[i]?=some o:=⟨wd[i]'∅,aC ∅⟩;have S:bE (wd.map cT) (0+(i:Int))=some (cT o):=eu ∅ (by rw[show(0+(i:Int)).toNat=i by omega,bw,ho];rfl);rfl';refine⟨by walk_at "wk",?_⟩;rfl';rw[oV];cases o with
    | none =>
      rfl';show _=a3 _ (a3 _ (cj _ (aL (i+1))));rw[lI,jx,qC (by rw[ho];rfl)];simp
    | some x =>
      rfl';show _=a3 _ (a3 _ (cj _ (aL (i+1))));rw[lI,jx,qy (by rw[ho];simp)];simp
  rintro ds hl' rfl;have e0:((aL n.toNat).filter λj=>wd[j]?==some none).map (λ(j:Nat)=>(j:Int))=fU wd:=by unfold fU;rw[hwl]
  rw[e0];obtain⟨L0,k⟩:∃L0,L0=fU wd:=⟨_,rfl⟩;have V:L0.length<=400:=by rw[k];have:=CY wd;omega
  rw[<-k] at q⊢;clear e0 k;refine Sv.seq ?_;refine Sv.asg ?_;refine Ev.aP ?_;refine Gv.vz ?_;refine Sv.seq ?_;refine Sv.uW (λρ=>∃(L:List Int) (b:PyData) (fl g:Bool) (N Z:Sl),vE cs L0 L/\(b= .none\/∃B:List Int,b= .list (B.map .int)/\(B=L->gp cs L=true))/\ρ=[.d false (bR p n cs), .d false (dU wd), .d true (.list (L.map .int)), .d g b,N,Z]) Me ⟨L0, .none,true,_,_,_,⟨⟨λ_=>true,(LK.mpr λ_ _=>rfl).symm⟩,λT hT _=>hT⟩, .inl rfl,rfl⟩ ?_;rintro ρ' ⟨L,b,fl,g,N,Z,hI,hb,rfl⟩;have De:L.length<=400:=by obtain⟨qq,e⟩:=hI.sub;rw[e];have:=oN qq L0;omega
  have l:(L.map aq).length=L.length:=ao ..;refine Tv.test ?_;refine Ev.R3 ?_;rfl';have m:cH b=true:=by
    rcases hb with rfl|⟨B,rfl,_⟩
    · with_unfolding_all rfl
    · exact L2.shaped_ints B
  refine⟨m,L2.shaped_ints L,_,rfl,?_⟩;by_cases c:b= .list (L.map .int)
  · have Y:gp cs L=true:=by
      rcases hb with rfl|⟨B,rfl,h⟩
      · cases c
      · exact h (Vd c)
    rw[c,L2.O9,decide_eq_true rfl,if_neg ⋯];rfl';exact q L ⟨hI.sub,Y,hI.max⟩
  have J:du b (.list (L.map .int))=false:=by
    rcases hb with rfl|⟨B,rfl,_⟩
    · rfl
    · rw[L2.O9,decide_eq_false (λz=>c (by rw[z]))]
  rw[J,if_pos ⋯];have W:Me [.d false (bR p n cs), .d false (dU wd), .d true (.list (L.map .int)), .d g b,N,Z]=2*L.length+1:=by
    show 2*(L.map aq).length+_=_;rw[l];split;· rename_i z;exact absurd z c
    · rfl
  rw[W];refine Sv.seq ?_;refine Sv.asg ?_;refine Ev.var rfl ?_;refine Gv.vz ?_;refine Sv.forL ?_;rfl';refine λv=>⟨λi ρ=>∃(a:List Int) (g:Bool) (N Z:Sl),vE cs L0 a/\a.length<=L.length/\(a.length=L.length->a=L/\∀prs∈cs.take i,cE L prs≠1)/\ρ=[.d false (bR p n cs), .d false (dU wd), .d true (.list (a.map .int)), .d g (.list (L.map .int)),N,Z],⟨L,_,_,_,hI,aW _,λ_=>⟨rfl,λ_ h=>(by simp at h)⟩,rfl⟩,?_,?_⟩
  · rintro i d ρ hd ⟨a,fb',x4',x5',hI',hle,hsame,rfl⟩
    obtain⟨prs,O,rfl⟩:=c9 hd;have eY:=bC O;have U:(prs.map Ap).length=prs.length:=ao ..;have Ui:=hpl prs eY;have r:(a.map aq).length=a.length:=ao ..;refine Gv.vz ?_;refine Sv.seq ?_;refine Sv.GB ?_;refine az.ev (az.gK ⋯ rfl ?_);rfl';refine λv=>⟨true,λi ds=>ds=((prs.take i).filter λpr=>decide (pr.1∈a)).map λpr=> .int pr.1,rfl,?_,?_⟩
    · rintro i d ds hd hl' rfl
      obtain⟨pr,G,rfl⟩:=c9 hd;rfl';refine⟨by walk_at "wk",?_⟩;refine Tv.test ?_;refine Ev.rA ?_;rfl';refine⟨a,rfl,?_⟩;rw[rZ];by_cases c:pr.1∈a
      · rw[decide_eq_true c]
        rfl';show _=a3 _ (cj _ (prs.take (i+1)));rw[Ai G,tw,if_pos c,bS]
        rfl
      · rw[decide_eq_false c]
        rfl';show _=a3 _ (cj _ (prs.take (i+1)));rw[Ai G,tw,if_neg c,jg]
    rintro ds hl' rfl;rw[U,c6];refine Sv.oR ?_;refine Tv.test ?_;refine Ev.eq ?_;refine Ev.CK ?_;rfl';rw[ao];by_cases c1:cE a prs=1
    · rw[if_pos (decide_eq_true (by unfold cE at c1;omega))]
      obtain⟨pr,M⟩:=JJ.mp (show(prs.filter λpr=>decide (pr.1∈a)).length=1 from c1);have Ek:pr∈prs.filter λpr=>decide (pr.1∈a):=by rw[M];exact aZ.mpr rfl
      obtain⟨h1,h2⟩:=fG.mp Ek;have t:pr.1∈a:=of_decide_eq_true h2;have R:pr.1∈prs.map (·.1):=cL.mpr ⟨pr,h1,rfl⟩;rw[M];refine Sv.setC ?_;refine az.ev (az.gK ⋯ rfl ?_);rfl';refine λv=>⟨true,λi ds=>ds=((a.take i).filter λy=>decide (y≠pr.1)).map .int,rfl,?_,?_⟩
      · rintro i d ds hd hl' rfl
        obtain⟨y,hy,rfl⟩:=c9 hd;rfl';refine⟨by walk_at "wk",?_⟩;rfl';by_cases c2:y=pr.1
        · rw[if_neg (by simp[c2])]
          show _=a3 _ (cj _ (a.take (i+1)));rw[Ai hy,jx,qy (by simp[c2]),vY,jg]
        · rw[if_pos (by simp[c2])]
          rfl';show _=a3 _ (cj _ (a.take (i+1)));rw[Ai hy,jx,qC (by simp[c2]),vY,bS]
          rfl
      rintro ds hl' rfl;rw[r,c6];have hlt:(a.filter λy=>decide (y≠pr.1)).length<a.length:=by
        have h1:(a.filter λy=>decide (y≠pr.1)).length<=a.length:=oN _ _;have h2:(a.filter λy=>decide (y≠pr.1)).length≠a.length:=λz=>by
          have:=Ra.mp z pr.1 t;simp at this
        omega
      refine⟨_,_,_,_,hI'.less eY c1 R,∅,λz=>∅,rfl⟩
    · rw[if_neg (by simp;unfold cE at c1;omega)]
      refine Sv.next ?_
      refine⟨a,_,_,_,hI',hle,λz=>?_,rfl⟩;obtain⟨e1,e2⟩:=hsame z;refine⟨e1,λu hu=>?_⟩;rw[Ai O] at hu;rcases dM.mp hu with h|h
      · exact e2 u h
      · rw[aZ.mp h,<-e1];exact c1
  · rintro ρ ⟨a,fb',x4',x5',hI',hle,hsame,rfl⟩
    rw[gv,c6] at hsame;refine⟨⟨a,_,true,_,_,_,hI', .inr ⟨L,rfl,λe=>?_⟩,rfl⟩,?_⟩
    · subst e
      unfold gp;rw[g6];exact λu hu=>decide_eq_true ((hsame rfl).2 u hu)
    · show 2*(a.map aq).length+_<_
      rw[ao];split;· omega
      · rename_i z
        have:a.length≠L.length:=λy=>z (by rw[(hsame y).1]);omega
def HH:DF:=λds Φ=>∃(p n:Int) (cs:List aj) (aB:List Int),ds=[bR p n cs, .list (aB.map .int)]/\cs.length<=10000/\(∀prs∈cs,prs.length<=10000)/\gp cs aB=true/\Φ true (.bool true)
def Wt:cW HH:=by
 intro ds Φ Ψ hm z;revert hm;walk_at "mo";exact λq=>z _ _ q
def Zs:cg ["net","lot"] ["net","lot"] (aJ zC):=⟨rfl,rfl,rfl,by decide+kernel,rfl,by decide+kernel,by decide+kernel⟩
theorem X0(F:bQ K "_law_out" "_law_out" zC f fd)(gx:mg "all"=none)(bT:mg "len"=none):
  bD P w K mg base bM 1 f fd ["net","lot"] (bF 2 HH):=by
 refine F.ok Zs (λvs H Q E h=>h.1) (λcdv A outer s H vs Q E hr h=>?_);obtain⟨nb,ds,Φ,C,I,D,X⟩:=fK h;obtain⟨p,n,cs,aB,rfl,hcl,hpl,ho,q⟩:=X;refine⟨_,#[5,#[25,gx,#[7,(show cO (aJ zC) ["net","lot"] _ ["pairs","lot"] [none,some 1]=true by decide+kernel),dI (K:=K) rfl (@aD _ _ _ _ _ _ (bJ K) bU (pv 0) au (λ_ _=>rfl)),(λ_ _ _ _=>⟨#[1,(by show aR (["pairs","lot"]:List Str);decide+kernel)],gJ,(@jq _ _ _ _ _ _ _ _ iZ #[4,bT,#[2,(by(refine' Vy (cz.of (NX:=["pairs","lot"]) (N:=["place","factor","lot"]) (mp:=[none,none,some 1]) ?YW) ?Vp ?V6);(case Vp=>exact(dI (K:=K) rfl (pv 0)));(case V6=>exact(λ_ _ _ _=>⟨(gV (K:=K) (n:=2) rfl rfl (bW #[1,(by show aR (["place","factor","lot"]:List Str);decide+kernel)] (bW (aK (i:=1) (by show aR (["place","factor","lot"]:List Str);decide+kernel) rfl (be rfl)) gC))),(iX (bB (ur (K:=K) (by rfl)) (pv 0) (pv 2) (by with_unfolding_all rfl))),(pv 0)⟩));(case YW=>decide+kernel))]] au (bu _))⟩)]]],?_⟩;refine Sv.fu C I D (ρ:=[.d false _, .d false _]) rfl ?_;clear D I;have gv:(cs.map cy).length=cs.length:=ao ..;rfl';refine az.ev (az.gK ⋯ rfl ?_);rfl';refine λv=>⟨true,λi es=>es=ar i (.bool true),rfl,?_,?_⟩
 .rintro i d es hd hl' rfl;obtain⟨prs,O,rfl⟩:=c9 hd;have eY:=bC O;have U:(prs.map Ap).length=prs.length:=ao ..;have Ui:=hpl prs eY;rfl';refine⟨by walk_at "wk",?_⟩;rfl';refine az.ev (az.gK ⋯ rfl ?_);rfl';refine λv=>⟨true,λi ds=>ds=((prs.take i).filter λpr=>decide (pr.1∈aB)).map λpr=> .int pr.1,rfl,?_,?_⟩
  .rintro i d ds hd hl' rfl;obtain⟨pr,G,rfl⟩:=c9 hd;rfl';refine⟨by walk_at "wk",?_⟩;refine Tv.test ?_;refine Ev.rA ?_;rfl';refine⟨aB,rfl,?_⟩;rw[rZ];by_cases c:pr.1∈aB
   .rw[decide_eq_true c];rfl';show _=a3 _ (cj _ (prs.take (i+1)));rw[Ai G,tw,if_pos c,bS]
    rfl
   .rw[decide_eq_false c];rfl';show _=a3 _ (cj _ (prs.take (i+1)));rw[Ai G,tw,if_neg c,jg]
  rintro ds hl' rfl;rw[U,c6];have h1:cE aB prs≠1:=by
   unfold gp at ho;rw[g6] at ho;exact of_decide_eq_true (ho prs eY)
  rfl';rw[ao];unfold cE at h1;rw[decide_eq_false ∅];rfl';show _=ar (i+1) _;rw[vC]
  rfl
 .rintro es hl' rfl;refine⟨ar cs.length true,by rw[gv];simp,?_⟩;rw[show(ar cs.length true).all id=true by simp];exact q
structure PW(p n:Int)(cs:List aj)(os:List Int)(wd lt:Wo)(left:List Int):Prop where
 hN:iB p n cs
 NR:n<=63
 hQ:∀prs∈cs,je p n.toNat prs
 hL:qv n cs
 wl:wd.length=n.toNat
 wr:∀x,some x∈wd->0<=x/\x<p
 ll:lt.length=n.toNat
 lr:∀x,some x∈lt->0<=x/\x<p
 fo:fW p n cs wd os
 fl:fW p n cs lt os
 sub:∀i:Nat,lt[i]?=some none->wd[i]?=some none
 gr:l6 cs (fU wd) left
 hl:left=fU lt
theorem Rg{n:Int}{v:Int}{u os:List Int}(hN:iB p n cs)(hwl:wd.length=n.toNat)(hk:∀y,some y∈wd->0<=y/\y<p)(hpl:wd[pl]?=some none)(h1:sD p n cs wd pl v bz)(h2:fW p n cs (jm wd pl) u)(hs:fW p n cs wd os):False:=by
 have p2:=hN.hp.1;have a0:=(SK (x:=0) hN hwl hpl h1).mp ((Pj (x:=0) hN hwl hk hpl ∅ ∅ h2).mpr ⟨os,hs⟩);have a1:=(SK (x:=1) hN hwl hpl h1).mp ((Pj (x:=1) hN hwl hk hpl ∅ ∅ h2).mpr ⟨os,hs⟩);have:=a0.2;have:=a1.2;omega
def Ky{n:Int}{u:List Int}(hpl:wd[pl]?=some none)(h:fW p n cs (jm wd pl) u):gI u pl=1:=h.known pl 1 (by rw[ly (aO.mp hpl).1,if_pos rfl])
theorem R7{n:Int}{pH:Wo}{u:List Int}(hpl:wd[pl]?=some none)(C:pH.length=wd.length)(h:fW p n cs (jm wd pl) u)(hz:∀i<wd.length,pH[i]?≠some none->gI u i=0):fW p n cs (jm pH pl) u:=by
 refine⟨h.len,h.rg,λj x e=>?_,h.p8⟩;have hj:j<pH.length:=by have:=(aO.mp e).1;rwa[tO] at this
 rw[ly hj] at e;by_cases c:j=pl;·rw[if_pos c] at e;cases e;rw[c];exact Ky hpl h
 .rw[if_neg c] at e;by_cases c2:pH[j]?=some none;·rw[if_pos c2] at e;cases e
  .rw[if_neg c2] at e;cases e;exact hz j ∅ c2
def ZN{u:List Int}(h:u.length=m):((aL m).filter λi=>decide (gI u i≠0)).map (λ(i:Nat)=>(i:Int))=jG u (ar m 0):=by
 unfold jG;rw[h]
 congr 1
 apply wN;intro i hi;have:gW (ar m 0) i=0:=by unfold gW;rw[br,gf];split<;>rfl
 rw[this];rfl
theorem Pe{m:Nat}:∀(prs:aj),aQ prs ((ar m (0:Int)).map some)=0
  |[]=>rfl
  | pr :: prs => by
    rw[pW,Pe prs];unfold gY;rw[bw,gf];by_cases c:pr.1.toNat<m;· rw[if_pos c];simp
    · rw[if_neg c];rfl
theorem PW.aB{n:Int}{os:List Int}{lt:Wo}{u:List Int}(h:PW p n cs os wd lt left)(hpl:wd[pl]?=some none)(hu:fW p n cs (jm wd pl) u):gp cs (jG u (ar n.toNat 0))=true/\(∀x∈jG u (ar n.toNat 0),x∈left)/\(pl:Int)∈left/\fW p n cs (jm lt pl) u:=by
 have p2:=h.hN.hp.1;have z:∀i,gW (ar n.toNat 0) i=0:=λi=>by unfold gW;rw[br,gf];split<;>rfl
 have ho:gp cs (jG u (ar n.toNat 0))=true:=Fn h.hN.hp (by rw[lN,hu.len]) hu.rg (λx hx=>by rw[IB hx];omega) (λprs O pr G=>by
  have:=(h.hQ prs O).2.2 pr G;rw[hu.len];exact this) (λprs O=>rD (hu.p8 prs O)) (λprs O=>by rw[Pe];simp)
 have y:∀x∈jG u (ar n.toNat 0),x∈left:=h.gr.max _ (λx hx=>by
  obtain⟨Y,W,B⟩:=uc.mp hx;rw[z,hu.len] at*;refine lX.mpr ⟨Y,?_⟩;refine jl λc=>B ?_;by_cases cp:x.toNat=pl;·rw[cp] at c;exact absurd hpl c
  .exact hu.known x.toNat 0 (by rw[ly (by rw[h.wl];omega),if_neg cp,if_neg c])) ho
 have h1:=Ky hpl hu;have hlt:=(aO.mp hpl).1;have hm:(pl:Int)∈jG u (ar n.toNat 0):=uc.mpr ⟨∅,by rw[hu.len,<-h.wl];omega,by rw[z,show((pl:Int)).toNat=pl by omega];show gI u pl≠0;omega⟩;refine⟨ho,y,y _ hm,R7 hpl (by rw[h.ll,h.wl]) hu λi hi hn=>jl λc=>hn ?_⟩;have:=y (i:Int) (uc.mpr ⟨∅,by rw[hu.len,<-h.wl];omega,by rw[z,show((i:Int)).toNat=i by omega];exact c⟩);rw[h.hl] at this;have:=(lX.mp this).2;rwa[show((i:Int)).toNat=i by omega] at this
def DP:DF:=λds Φ=>∃(p n:Int) (cs:List aj) (os:List Int) (wd lt:Wo) (left:List Int) (pl:Nat),ds=[bR p n cs, .tuple [.list (os.map .int),dU wd,dU lt], .int (pl:Int), .list (left.map .int)]/\PW p n cs os wd lt left/\wd[pl]?=some none/\Φ true (.bool true)
def Va:cW DP:=by
 intro ds Φ Ψ hm z;revert hm;walk_at "mo";exact λq=>z _ _ q
def rC:cg ["net","words","place","left","whole","word","later","found","again","lot"] ["net","words","place","left"] (aJ vf):=⟨rfl,rfl,rfl,by decide+kernel,rfl,by decide+kernel,by decide+kernel⟩
theorem Us(F:bQ K "_law_place_right" "_law_place_right" vf f fd)(M:Callee P w K mg base "settled" 5 ["net","word","place"] (bF 3 Hr))(qp:Callee P w K mg base "_law_copy" 1 ["net"] tu)(t:Callee P w K mg base "_law_settles" 3 ["net","word","place","found"] (bF 4 Ep))(Z:Callee P w K mg base "_law_out" 1 ["net","lot"] (bF 2 HH))(r:Callee P w K mg base "holds_out" 2 ["net","lot"] (bF 2 Fi))(dw:mg "list"=none)(gx:mg "all"=none)(bY:mg "range"=none):
  bD P w K mg base bM 6 f fd ["net","words","place","left"] (bF 4 DP):=by
 refine F.ok rC (λvs H Q E h=>h.1) (λcdv A outer s H vs Q E hr h=>?_);obtain⟨nb,ds,Φ,C,I,D,X⟩:=fK h;obtain⟨p,n,cs,os,wd,lt,left,pl,rfl,hW,hpl,q⟩:=X;refine⟨_,(@aA _ _ _ _ _ (@gF _ _ _ _ _ _ (pv 1) (@gV _ (K) _ _ _ (3) _ rfl rfl (@bW _ _ _ _ _ (aK (i:=4) rC.nd rfl (be rfl)) (@bW _ _ _ _ _ (aK (i:=5) rC.nd rfl (be rfl)) (@bW _ _ _ _ _ (aK (i:=6) rC.nd rfl (be rfl)) gC (by rfl)) (by rfl)) (by rfl)) (by rfl) (by rfl)) (by rfl) (by rfl) (by rfl)) #[21,(@aX _ _ (7) _ _ _ _ rC.nd rfl (ee rfl) #[0,M,(@aa _ _ _ _ _ #[24,qp] (@aa _ _ _ _ _ #[18,dw,@aa _ _ _ _ _ (pv 5) ak rfl] (@aa _ _ _ _ _ (pv 2) ak rfl) rfl) rfl)] (by rfl) (by first|exact .inl rfl|exact .inr rfl|assumption)),#[9,#[14,#[0,t,@aa _ _ _ _ _ (pv 0) (@aa _ _ _ _ _ (pv 5) (@aa _ _ _ _ _ (pv 2) (@aa _ _ _ _ _ (pv 7) ak rfl) rfl) rfl) rfl]]],(@dJ _ _ _ _ _ _ _ _ (bB (ur (K:=K) (by rfl)) (pv 2) (pv 3) (by with_unfolding_all rfl)) #[10,(@aX _ _ (8) _ _ _ _ rC.nd rfl (be rfl) #[0,M,(@aa _ _ _ _ _ #[24,qp] (@aa _ _ _ _ _ #[18,dw,@aa _ _ _ _ _ (pv 6) ak rfl] (@aa _ _ _ _ _ (pv 2) ak rfl) rfl) rfl)] (by rfl) (by first|exact .inl rfl|exact .inr rfl|assumption)),#[9,PW.pt (mE #[14,#[0,t,@aa _ _ _ _ _ (pv 0) (@aa _ _ _ _ _ (pv 6) (@aa _ _ _ _ _ (pv 2) (@aa _ _ _ _ _ (pv 8) ak rfl) rfl) rfl) rfl]] (oM (@bB _ _ _ _ _ _ _ _ iZ (@aD _ _ _ _ _ _ (bJ K) bU (pv 8) au (λ_ _=>rfl)) (@aD _ _ _ _ _ _ (bJ K) bU (pv 7) au (λ_ _=>rfl)) (bu _))))],(@aI _ _ _ #[9,PW.pt (oK (@bB _ _ _ _ _ _ _ _ fX (@aD _ _ _ _ _ _ (bJ K) bU (pv 7) au (λ_ _=>rfl)) tG (bu _)) (ow (@bB _ _ _ _ _ _ _ _ (w6 hr.units) (@aD _ _ _ _ _ _ (bJ K) bU (pv 8) au (λ_ _=>rfl)) (@aD _ _ _ _ _ _ (bJ K) bU (pv 7) au (λ_ _=>rfl)) (bu _))))])] dO),@dJ _ _ _ _ _ _ _ _ (@bB _ _ _ _ _ _ _ _ fX (@aD _ _ _ _ _ _ (bJ K) bU (pv 7) au (λ_ _=>rfl)) tG (bu _)) (@aI _ _ _ (@bf _ _ _ _ (@jq _ _ _ _ _ _ _ _ (Qc hr.units) (@aD _ _ _ _ _ _ (bJ K) bU (pv 7) au (λ_ _=>rfl)) (@aD _ _ _ _ _ _ (bO K) bA (pv 4) (pv 2) (λ_ _=>rfl)) (bu _)))) dO,#[3,nu (i:=9) rC.nd rfl rfl (cz.of (show cO (aJ vf) ["net","words","place","left","whole","word","later","found","again","lot"] _ ["k","found"] [none,some 7]=true by decide+kernel)) (@iN _ _ _ _ _ _ rfl bY (@aa _ _ _ _ _ (@aD _ _ _ _ _ _ (bJ K) bU (pv 0) au (λ_ _=>rfl)) ak rfl) (by rfl)) (λ_ _ _ _=>⟨#[1,(by show aR (["k","found"]:List Str);decide+kernel)],(iX (@bB _ _ _ _ _ _ _ _ iZ (@aD _ _ _ _ _ _ (bO K) bA (@aD _ _ _ _ _ _ (bJ K) bU (pv 1) au (λ_ _=>rfl)) (pv 0) (λ_ _=>rfl)) au (bu _))),(pv 0)⟩),#[9,PW.pt (mE #[14,#[0,Z,#[6,pv 9]]] (oM (@bB _ _ _ _ _ _ _ _ YF #[0,r,#[16,#[24,qp],#[18,dw,#[2,pv 9]]]] jy (bu _))))],@uo _ _ _ _ _ _ _ (jq (ur (K:=K) (by rfl)) (pv 2) (pv 3) (by with_unfolding_all rfl)) (@wj _ _ _ _ _ #[25,gx,#[7,(show cO (aJ vf) ["net","words","place","left","whole","word","later","found","again","lot"] _ ["k","left"] [none,some 3]=true by decide+kernel),dI (K:=K) rfl (pv 9),(λ_ _ _ _=>⟨#[1,(by show aR (["k","left"]:List Str);decide+kernel)],gJ,(jq (ur (K:=K) (by rfl)) (pv 0) (pv 1) (by with_unfolding_all rfl))⟩)]])]]),?_⟩;refine Sv.fu C I D (ρ:=[.d false _, .d false _, .d false _, .d false _, .no, .no, .no, .no, .no, .no]) rfl ?_;clear D I;have hN:=hW.hN;have hcl:=hN.cl;have p2:=hN.hp.1;have iE:=hN.iE;have NR:=hW.NR;have n0:=hN.n0;have hwl:=hW.wl;have ki:=hW.fo.len;have uy:=(aO.mp hpl).1;have l:gI os pl=(os[pl]'∅):=by unfold gI;rw[br,aC ∅];rfl
 have W:bE (os.map aq) (pl:Int)=some (.int (gI os pl)):=eu ∅ (by rw[show((pl:Int)).toNat=pl by omega,bw,aC ∅,l];rfl);have hps:Sm (pl:Int):=by unfold Sm;omega
 rfl';refine Ev.dh IS ?_;rfl';refine Ev.sI ?_;rfl';refine⟨p,n,cs,rfl,∅,?_⟩;rfl';refine⟨rfl,p,n,cs,wd,pl,rfl,hN,hwl,hW.wr,hpl,λv bz N=>?_,λu a=>?_⟩
 .have hv:gI os pl=v:=xJ hN hwl hpl N hW.fo;refine Gv.name ?_;rfl';refine Ev.dh Bq ?_;rfl';refine⟨rfl,p,n,cs,wd,pl,_,rfl,hN,hwl,hW.wr,hpl, .inl ⟨v,bz,N,rfl⟩,?_⟩;refine⟨_,rfl,?_⟩;rw[if_neg ⋯];refine Sv.next ?_
  refine Sv.seq ?_;refine Sv.tH (λJ=>∃m:Sl,J=[.d false (bR p n cs), .d false (.tuple [.list (os.map .int),dU wd,dU lt]), .d false (.int (pl:Int)), .d false (.list (left.map .int)), .d false (.list (os.map .int)), .d false (dU wd), .d false (dU lt), .d true (.tuple [.str "told", .int v,cA bz]),m, .no]) ?_ ?_
  .refine Sv.oR ?_;refine Tv.test ?_;refine Ev.rA ?_;rfl';refine⟨left,rfl,?_⟩;rw[rZ];by_cases c:(pl:Int)∈left
   .rw[decide_eq_true c];have mU:lt[pl]?=some none:=by
     rw[hW.hl] at c;have:=(lX.mp c).2;rwa[show((pl:Int)).toNat=pl by omega] at this
    rfl';refine Ev.dh IS ?_;rfl';refine Ev.sI ?_;rfl';refine⟨p,n,cs,rfl,∅,?_⟩;rfl';refine⟨rfl,p,n,cs,lt,pl,rfl,hN,hW.ll,hW.lr,mU,λb B e=>?_,λu a=>?_⟩
    .have hv2:gI os pl=b:=xJ hN hW.ll mU e hW.fl;have R:b=v:=∅
     subst R;refine Gv.name ?_;rfl';refine Ev.dh Bq ?_;rfl';refine⟨rfl,p,n,cs,lt,pl,_,rfl,hN,hW.ll,hW.lr,mU, .inl ⟨b,B,e,rfl⟩,?_⟩;refine⟨_,rfl,?_⟩;rfl';refine⟨_,pX _ _,_,rfl,?_⟩;rw[if_neg ⋯];rfl';refine⟨_,pX _ _,_,rfl,?_⟩;rw[if_pos ⋯];rfl';refine⟨by with_unfolding_all rfl,by with_unfolding_all rfl,_,rfl,?_⟩;rw[show du (.int b) (.int b)=true by simp[du],if_neg ⋯];rfl';exact⟨_,rfl⟩
    .exact(Rg hN hwl hW.wr hpl N (R7 mU (by rw[hwl,hW.ll]) a λi hi hn=>by
      refine a.known i 0 ?_;rw[ly hi,if_neg λz=>by subst z;exact hn hpl,if_neg λz=>hn (hW.sub i z)]) hW.fo).elim
   .rw[decide_eq_false c];rfl';exact⟨_,rfl⟩
  rintro J ⟨m,rfl⟩;rfl';refine⟨_,pX _ _,_,rfl,?_⟩;rw[if_pos ⋯];rfl';refine⟨by with_unfolding_all rfl,by with_unfolding_all rfl,?_⟩;rw[hv,show du (.int v) (.int v)=true by simp[du]];exact q
 .obtain⟨g,y,eY,V⟩:=hW.aB hpl a;have Ir:=a.len;have mU:lt[pl]?=some none:=by
   rw[hW.hl] at eY;have:=(lX.mp eY).2;rwa[show((pl:Int)).toNat=pl by omega] at this
  refine Gv.name ?_;rfl';refine Ev.dh Bq ?_;rfl';refine⟨rfl,p,n,cs,wd,pl,_,rfl,hN,hwl,hW.wr,hpl, .inr ⟨u,a,rfl⟩,?_⟩;refine⟨_,rfl,?_⟩;rw[if_neg ⋯];refine Sv.next ?_
  refine Sv.seq ?_;refine Sv.oR ?_;refine Tv.test ?_;refine Ev.rA ?_;rfl';refine⟨left,rfl,?_⟩;rw[rZ,decide_eq_true eY];rfl';refine Ev.dh IS ?_;rfl';refine Ev.sI ?_;rfl';refine⟨p,n,cs,rfl,∅,?_⟩;rfl';refine⟨rfl,p,n,cs,lt,pl,rfl,hN,hW.ll,hW.lr,mU,λb B e=>?_,λu2 Y=>?_⟩;·exact(Rg hN hW.ll hW.lr mU e V hW.fl).elim
  refine Gv.name ?_;rfl';refine Ev.dh Bq ?_;rfl';refine⟨rfl,p,n,cs,lt,pl,_,rfl,hN,hW.ll,hW.lr,mU, .inr ⟨u2,Y,rfl⟩,?_⟩;refine⟨_,rfl,?_⟩;rfl';refine⟨_,pX _ _,_,rfl,?_⟩;rw[if_neg ⋯];rfl';refine⟨_,pX _ _,_,rfl,?_⟩;rw[if_neg ⋯];rfl';refine⟨_,pX _ _,_,rfl,?_⟩;rw[if_neg ⋯];rfl';refine az.ev (az.kc ⋯ rfl ?_);rfl';refine⟨true,λi ds=>ds=(((aL i).filter λj=>decide (gI u j≠0)).map λ(j:Nat)=>(j:Int)).map aq,rfl,?_,?_⟩
  .rintro i d ds ⟨hi,rfl⟩ hl' rfl
   have S:bE (u.map aq) (0+(i:Int))=some (.int (gI u i)):=eu ∅ (by
    rw[show(0+(i:Int)).toNat=i by omega,bw,aC ∅];unfold gI;rw[br,aC ∅];rfl)
   rfl';refine⟨by walk_at "wk",?_⟩;rfl';by_cases c:gI u i=0
   .rw[if_neg (by simp[c])];show _=a3 _ (a3 _ (cj _ (aL (i+1))));rw[lI,jx,qy (by simp[c])];simp
   .rw[if_pos (by simp[c])];rfl';show _=a3 _ (a3 _ (cj _ (aL (i+1))));rw[lI,jx,qC (by simp[c])];simp
  rintro ds hl' rfl;rw[ZN Ir];obtain⟨U,k⟩:∃U,jG u (ar n.toNat 0)=U:=⟨_,rfl⟩;have L:U.Pairwise (· < ·):=by rw[<-k];exact TR _ _
  have G:∀x∈U,0<=x/\x<n:=λx hx=>by
   rw[<-k] at hx;obtain⟨h0,h1,_⟩:=uc.mp hx;exact⟨h0,∅⟩
  have T:U.length<=63:=by
   have:=BK (L.imp λh=>∅) G;omega
  have o:(U.map aq).length=U.length:=ao ..;rw[k] at g y⊢;rfl';refine Ev.dh Wt ?_;rfl';refine⟨rfl,p,n,cs,U,rfl,∅,λprs O=>by have:=(hN.ok prs O).2.1;omega,g,?_⟩;rfl';refine Ev.dh UZ ?_;rfl';refine Ev.sI ?_;rfl';refine⟨p,n,cs,rfl,∅,?_⟩;rfl';refine⟨rfl,p,n,cs,U,rfl,hW.hL,L.imp λh=>∅,G,?_⟩;rw[g];rfl';refine⟨left,rfl,?_⟩;rw[decide_eq_true eY];rfl';refine az.ev (az.gK ⋯ rfl ?_);rfl';refine λv=>⟨true,λi es=>es=ar i (.bool true),rfl,?_,?_⟩
  .rintro i d es hd hl' rfl;obtain⟨x,hx,rfl⟩:=c9 hd;rfl';refine⟨by walk_at "wk",?_⟩;rfl';refine⟨left,rfl,?_⟩;rw[rZ,decide_eq_true (y x (bC hx))];refine⟨λ_=>rfl,?_⟩;show _=ar (i+1) _;rw[vC]
  .rintro es hl' rfl;refine⟨ar U.length true,by rw[o];simp,?_⟩;rw[show(ar U.length true).all id=true by simp];exact q
def jU:cg ["script","bag","large","more","p","n","whole","wide","net","word","lost","left","later","rounds","asked"] ["script"] (aJ kY):=⟨rfl,rfl,rfl,by decide+kernel,rfl,by decide+kernel,by decide+kernel⟩
theorem Yf(F:bQ K "law" "law" kY f fd)(Xo:Callee P w K mg base "_law_bag" 1 ["script"] (Nu K))(V:Callee P w K mg base "_law_draw" 2 ["bag","many"] lZ)(aaP:Callee P w K mg base "_law_prime" 3 ["bag"] (iO 1 Jr))(aaI:Callee P w K mg base "_law_letters" 3 ["bag","p","n"] (iO 3 Fp))(aas:Callee P w K mg base "_law_more" 4 ["bag","net","many"] (iO 3 Eg))(Z2:Callee P w K mg base "_law_lossy" 3 ["bag","word"] (iO 2 HA))(UW:Callee P w K mg base "_law_left" 1 ["net","word"] (bF 2 Jy))(aeQ:Callee P w K mg base "mended" 9 ["net","word"] (bF 2 Dc))(Vt:Callee P w K mg base "_law_planted" 4 ["bag","p","word","many","wide"] (iO 5 Ei))(qp:Callee P w K mg base "_law_copy" 1 ["net"] tu)(Aq:Callee P w K mg base "_law_alike" 3 ["found","due"] (bF 2 (sR 3)))(US:Callee P w K mg base "greatest" 2 ["net","lot"] (bF 2 JY))(Z3:Callee P w K mg base "_law_place_right" 6 ["net","words","place","left"] (bF 4 DP))(dw:mg "list"=none)(gx:mg "all"=none)(bY:mg "range"=none)(bT:mg "len"=none):
    bD P w K mg base bM 10 f fd ["script"] (zw K):=by
  refine F.ok jU (λvs H Q E h=>?_) (λcdv A outer s H vs Q E hr h=>?_)
  · obtain⟨a,ns,rfl,N,hl,q⟩:=h
    rfl
  obtain⟨a,ns,rfl,N,hl,q⟩:=h;refine⟨_,(@aA _ _ _ _ _ #[23,jU.nd,#[24,Xo]] #[10,#[15,jU.nd,(@jq _ _ _ _ _ _ _ _ fX #[0,V,@aa _ _ _ _ _ (pv 1) (@aa _ _ _ _ _ au ak rfl) rfl] au (bu _))],#[22,jU.nd,#[0,V,@aa _ _ _ _ _ (pv 1) (@aa _ _ _ _ _ au ak rfl) rfl]],#[21,#[28,jU.nd,#[0,aaP,@aa _ _ _ _ _ (pv 1) ak rfl]],#[27,jU.nd,(@aM _ _ _ _ _ _ _ _ gm au #[0,V,#[19,@rJ _ _ _ _ _ _ _ _ (@iK _ (K) _ _ rfl (pv 2) (λ_=>rfl)) au au]])],(@aX _ _ (6) _ _ _ _ jU.nd rfl (ee rfl) #[0,aaI,@aa _ _ _ _ _ (pv 1) (@aa _ _ _ _ _ (pv 4) (@aa _ _ _ _ _ (pv 5) ak rfl) rfl) rfl] (by rfl) (by first|exact .inl rfl|exact .inr rfl|assumption)),#[26,jU.nd,(@aD _ _ _ _ _ _ (bO K) bA (@gR _ _ _ _ (@aa _ _ _ _ _ au (@aa _ _ _ _ _ au (@aa _ _ _ _ _ au #[2,@aM _ _ _ _ _ _ _ _ iD au (pv 5)] rfl) rfl) rfl)) #[0,V,@aa _ _ _ _ _ (pv 1) (@aa _ _ _ _ _ au ak rfl) rfl] (λ_ _=>rfl))],#[21,(@aX _ _ (8) _ _ _ _ jU.nd rfl (ee rfl) #[0,aas,@aa _ _ _ _ _ (pv 1) (@aa _ _ _ _ _ #[0,Vt,@aa _ _ _ _ _ (pv 1) (@aa _ _ _ _ _ (pv 4) (@aa _ _ _ _ _ (pv 6) (@aa _ _ _ _ _ #[0,V,#[19,@rJ _ _ _ _ _ _ _ _ (@iK _ (K) _ _ rfl (pv 2) (λ_=>rfl)) au au]] (@aa _ _ _ _ _ (pv 7) ak rfl) rfl) rfl) rfl) rfl] (@aa _ _ _ _ _ (pv 3) ak rfl) rfl) rfl] (by rfl) (by first|exact .inl rfl|exact .inr rfl|assumption)),(@aX _ _ (9) _ _ _ _ jU.nd rfl (ee rfl) #[0,Z2,@aa _ _ _ _ _ (pv 1) (@aa _ _ _ _ _ (pv 6) ak rfl) rfl] (by rfl) (by first|exact .inl rfl|exact .inr rfl|assumption)),#[20,iY,pv 9,#[0,V,@aa _ _ _ _ _ (pv 1) (@aa _ _ _ _ _ (pv 5) ak rfl) rfl]],nu (i:=10) jU.nd rfl rfl (cz.of (show cO (aJ kY) ["script","bag","large","more","p","n","whole","wide","net","word","lost","left","later","rounds","asked"] _ ["k","word"] [none,some 9]=true by decide+kernel)) (@iN _ _ _ _ _ _ rfl bY (@aa _ _ _ _ _ (pv 5) ak rfl) (by rfl)) (λ_ _ _ _=>⟨#[1,(by show aR (["k","word"]:List Str);decide+kernel)],(iX (@bB _ _ _ _ _ _ _ _ wD (@aD _ _ _ _ _ _ (bO K) bA (pv 1) (pv 0) (λ_ _=>rfl)) iY (bu _))),(pv 0)⟩),#[21,(@aX _ _ (11) _ _ _ _ jU.nd rfl (ee rfl) #[0,UW,(@aa _ _ _ _ _ (pv 8) #[2,pv 9] rfl)] (by rfl) (by first|exact .inl rfl|exact .inr rfl|assumption)),(@gF _ _ _ _ _ _ #[0,aeQ,#[16,#[0,qp,@aa _ _ _ _ _ (pv 8) ak rfl],#[18,dw,#[2,pv 9]]]] #[8,aK (i:=12) jU.nd rfl (ee rfl),aK (i:=13) jU.nd rfl (be rfl)] (by rfl) (by rfl) (by rfl)),#[9,#[14,#[0,Aq,#[16,#[0,US,#[16,#[0,qp,@aa _ _ _ _ _ (pv 8) ak rfl],#[18,dw,#[2,pv 10]]]],pv 11]]]],#[9,#[14,#[0,Aq,(@aa _ _ _ _ _ (pv 12) #[7,(show cO (aJ kY) ["script","bag","large","more","p","n","whole","wide","net","word","lost","left","later","rounds","asked"] _ ["k","whole","left"] [none,some 6,some 11]=true by decide+kernel),@iN _ _ _ _ _ _ rfl bY (@aa _ _ _ _ _ (pv 5) ak rfl) (by rfl),(λ_ _ _ _=>⟨#[1,(by show aR (["k","whole","left"]:List Str);decide+kernel)],gJ,(@rJ _ _ _ _ _ _ _ _ (bB (ur (K:=K) (by rfl)) (pv 0) (pv 2) (by with_unfolding_all rfl)) iY (@aD _ _ _ _ _ _ (bO K) bA (pv 1) (pv 0) (λ_ _=>rfl)))⟩)] rfl)]]],#[3,(@aX _ _ (14) _ _ _ _ jU.nd rfl (be rfl) #[18,dw,#[2,pv 10]] (by rfl) (by first|exact .inl rfl|exact .inr rfl|assumption)),@uG _ _ _ _ _ _ fF (PW.pt (oK (@iK _ (K) _ _ rfl (pv 2) (λ_=>rfl)) (ow (@bB _ _ _ _ _ _ _ _ IC #[4,bT,#[2,pv 14]] au (bu _))))) (@aI _ _ _ (@qK _ _ _ _ (qi qE QZ SY UE (pv 14) #[2,#[0,V,#[19,#[4,bT,#[2,pv 14]]]]]) (by rfl))),#[25,gx,#[7,(show cO (aJ kY) ["script","bag","large","more","p","n","whole","wide","net","word","lost","left","later","rounds","asked"] _ ["place","whole","net","word","left","later"] [none,some 6,some 8,some 9,some 11,some 12]=true by decide+kernel),dI (K:=K) rfl (pv 14),(λ_ _ _ _=>⟨#[1,(by show aR (["place","whole","net","word","left","later"]:List Str);decide+kernel)],gJ,#[0,Z3,@aa _ _ _ _ _ (pv 2) (@aa _ _ _ _ _ (@iJ _ _ _ _ _ (@aa _ _ _ _ _ (pv 1) (@aa _ _ _ _ _ (pv 3) (@aa _ _ _ _ _ (pv 5) ak rfl) rfl) rfl)) (@aa _ _ _ _ _ (pv 0) (@aa _ _ _ _ _ (pv 4) ak rfl) rfl) rfl) rfl]⟩)]]]]]]]),?_⟩;walk_at "st";refine⟨a,ns,rfl,N,hl,λb l H1 s1 f1 B1=>?_⟩;have Ie:=s1.seq N;have key:∀(t:TS) (D:Ends),(∀H,D.rt (.bl true) H)->Sv (GK b l H1) [.raw (.ref a), .aG, .no, .no, .no, .no, .no, .no, .no, .no, .no, .no, .no, .no, .no] t {nx:=λ_=>False,rt:=λ_ d=>d= .bool true}->t D [some (.ref a),some (.ref b),none,none,none,none,none,none,none,none,none,none,none,none,none] H1:=λt D d2 h=>h _ _ _ D (D9 (m:=13) B1) (VO d2);refine R.Mf ?_;dsimp only;refine key _ _ (λH=>?_) ?_;· exact q _
  rfl';intro lg lg0 lg1;rfl';intro mo mo0 mo1;rfl';refine Ev.oU TF rfl ?_;rfl';refine⟨rfl,λp hp Z f=>?_⟩;have p2:=hp.1;refine Gv.pM ?_;refine Sv.seq ?_;refine Sv.tH (λJ=>∃n:Int,1<=n/\n<=40/\J=[.raw (.ref a), .aG, .d true (.bool (decide (lg=5))), .d true (.int mo), .d true (.int p), .d true (.int n), .no, .no, .no, .no, .no, .no, .no, .no, .no]) ?_ ?_
  · rfl'
    by_cases c:lg=5
    · rw[if_pos (decide_eq_true c)]
      rfl';intro r r0 r1;rfl';exact⟨1+r,∅,∅,rfl⟩
    · rw[if_neg (by simpa using c)]
      rfl';intro r r0 r1;rfl';exact⟨1+r,∅,∅,rfl⟩
  rintro J ⟨n,n0,n1,rfl⟩;rfl';refine Ev.oU JU rfl ?_;rfl';refine⟨rfl,p,n,rfl,⟨∅,∅⟩,∅,∅,λos ki B=>?_⟩;have hom:(os.map aq).length=os.length:=ao ..;refine Gv.name ?_;refine Sv.seq ?_;refine Sv.tH (λJ=>∃(wide:Int) (f7:Bool),1<=wide/\wide<=120/\J=[.raw (.ref a), .aG, .d true (.bool (decide (lg=5))), .d true (.int mo), .d true (.int p), .d true (.int n), .d true (.list (os.map .int)), .d f7 (.int wide), .no, .no, .no, .no, .no, .no, .no]) ?_ ?_
  · rfl'
    intro d0 d1 d2;obtain⟨wide,ew,Ym,ew2⟩:=pick (L:=[4,4,4,3*n]) (k:=d0) d1 (by show _<(4:Int);omega) (λx=>1<=x/\x<=120) (by intro x hx;simp at hx;omega);refine⟨_,rfl,_,ew,?_⟩;refine Gv.name ?_;exact⟨wide,_,Ym,ew2,rfl⟩
  rintro J ⟨wide,f7,wi0,wi1,rfl⟩;refine Sv.seq ?_;refine Sv.tH (λJ=>∃(cs:List aj) (f8:Bool),cs.length<=48/\(∀prs∈cs,je p n.toNat prs)/\(∀prs∈cs,p∣aQ prs (os.map some))/\J=[.raw (.ref a), .aG, .d true (.bool (decide (lg=5))), .d true (.int mo), .d true (.int p), .d true (.int n), .d true (.list (os.map .int)), .d f7 (.int wide), .d f8 (bR p n cs), .no, .no, .no, .no, .no, .no]) ?_ ?_
  · rfl'
    refine Ev.oU Ys rfl ?_;rfl';refine Ev.oU XM rfl ?_;rfl'
    have go:∀r:Int,0<=r->r<39->∀(I:List aj),(I.length:Int)<=r->(∀prs∈I,je p os.length prs/\aQ prs (os.map some)%p=0)->I.length<=38/\(∀prs∈I,je p n.toNat prs):=λr _ _ I h1 h2=>⟨∅,λprs hm=>by
      have:=(h2 prs hm).1;rwa[show os.length=n.toNat by omega] at this⟩
    by_cases c:lg=5
    all_goals
      first|rw[if_pos (by simpa using c)]|rw[if_neg (by simpa using c)]
      rfl';intro r r0 r1;rfl';refine⟨rfl,p,r,wide,os,rfl,hp,Z,∅,∅,B,∅,∅,∅,∅,λI T WN Sb=>?_⟩;have X5:(os.length:Int)=n:=ki;obtain⟨z1,z2⟩:=go r r0 ∅ I WN Sb;rw[X5];rfl';refine⟨rfl,p,n,mo,I,rfl,hp,Z,n0,∅,∅,z2,mo0,∅,λHV cs hcl u hT=>?_⟩;refine Gv.name ?_;exact⟨cs,_,∅,u,hT os ∅ λq hq=>Az (Sb q hq).2,rfl⟩
  rintro J ⟨cs,f8,hcl,u,hT,rfl⟩;have hN:iB p n cs:=Qn hp Z n0 ∅ ∅ u;refine Sv.seq ?_;refine Sv.Z9 (iM.oU Xp rfl ?_);rfl';refine⟨rfl,os,rfl,∅,λld eU=>⟨rfl, .inl ⟨_,rfl,λA9=>?_⟩⟩⟩;have o8:=eU.1;refine Sv.seq ?_;refine Sv.rV rfl ?_;rfl';intro k k0 k1;have U:dS (ld.map cT).length k=some k.toNat:=by
    unfold dS;rw[ao]
    repeat (first|rw[if_pos ∅]|rw[if_neg ∅])
  refine⟨_,_,rfl,U,?_⟩;have es:(ld.map cT).set k.toNat .none=(ld.set k.toNat none).map cT:=by rw[mX];rfl
  rw[es];obtain⟨wd,CL⟩:∃wd,ld.set k.toNat none=wd:=⟨_,rfl⟩;have hwl:wd.length=n.toNat:=by rw[<-CL,fR];omega
  have j3:∀x,some x∈wd->0<=x/\x<p:=λx hx=>by
    rw[<-CL] at hx;rcases nZ hx with z|z
    · exact B x (Bi eU z)
    · cases z
  have Qo:Agree os wd:=λi x e=>by
    rw[<-CL,zI] at e;split at e;· split at e<;>cases e
    · exact eU.2 i x e
  rw[CL];refine Sv.mD 9 rfl ?_;have FT:(wd.map cT).length=wd.length:=ao ..;refine Sv.seq ?_;refine Sv.GB ?_;refine az.ev (az.kc ⋯ rfl ?_);rfl';refine⟨true,λi ds=>ds=(((aL i).filter λj=>wd[j]?==some none).map λ(j:Nat)=>(j:Int)).map aq,rfl,?_,?_⟩
  · rintro i d ds ⟨hi,rfl⟩ hl' rfl
    obtain⟨o,ho⟩:∃o,wd[i]?=some o:=⟨wd[i]'∅,aC ∅⟩;have S:bE (wd.map cT) (0+(i:Int))=some (cT o):=eu ∅ (by rw[show(0+(i:Int)).toNat=i by omega,bw,ho];rfl);rfl';refine⟨by walk_at "wk",?_⟩;rfl';rw[oV];cases o with
    | none =>
      rfl';show _=a3 _ (a3 _ (cj _ (aL (i+1))));rw[lI,jx,qC (by rw[ho];rfl)];simp
    | some x =>
      rfl';show _=a3 _ (a3 _ (cj _ (aL (i+1))));rw[lI,jx,qy (by rw[ho];simp)];simp
  rintro ds hl' rfl;have e0:((aL n.toNat).filter λj=>wd[j]?==some none).map (λ(j:Nat)=>(j:Int))=fU wd:=by unfold fU;rw[hwl]
  rw[e0]
  have Jv:jW p cs wd.length:=⟨hp,Z,∅,λprs O=>by
    obtain⟨z1,z2,z3⟩:=u prs O;refine⟨z2,λpr G=>?_,λpr G=>?_⟩
    · have:=z3 pr G
      exact⟨this.1,∅,by unfold Sm;omega⟩
    · have:=z3 pr G
      rw[kX ∅ ∅];omega⟩
  have Hv:∀prs∈cs,prs.length<=40:=λprs O=>by
    obtain⟨z1,z2,z3⟩:=u prs O;have:=BK (m:=n) z1 λx hx=>by
      obtain⟨pr,G,rfl⟩:=cL.mp hx;have:=z3 pr G;omega
    rw[ao] at this;omega
  have X:qv n cs:=⟨n0,∅,∅,Xh (m:=40) Hv ∅,λprs O pr G=>by
    have:=(u prs O).2.2 pr G;exact⟨this.1,∅⟩⟩
  have Dd:kE wd:=λx hx=>by have:=j3 x hx;unfold Sm;omega
  have DW:∀prs∈cs,∀pr∈prs,0<=pr.1/\pr.1<wd.length:=Jv.rg;have Jz:=GA (p:=p) ∅ DW;have Xl:=(yP (p:=p) ∅ DW).2.2.2.2;have EV:=HP Jv ∅ B (λprs O=>rD (hT prs O)) Qo;have JZ:=UL (p:=p) ∅ DW (λi x e=>j3 x (bC e));obtain⟨L,C⟩:∃L,fU wd=L:=⟨_,rfl⟩;have FZ:L.Pairwise (· < ·):=by rw[<-C];exact JL wd
  have Wh:∀x∈L,0<=x/\x<n:=λx hx=>by
    rw[<-C] at hx;obtain⟨h0,h1⟩:=lX.mp hx;have:=(aO.mp h1).1;exact⟨h0,∅⟩
  have De:L.length<=40:=by rw[<-C];have:=CY wd;omega
  rw[C];rfl';refine Ev.dh Vn ?_;rfl';refine⟨rfl,p,n,cs,wd,rfl,hwl,∅,∅,∅,λprs O=>by have:=Hv prs O;omega,λg hg=>?_⟩;obtain⟨lt,hlt⟩:∃lt,iC p cs wd=lt:=⟨_,rfl⟩;rw[hlt] at Jz Xl EV JZ;rw[C] at hg Jz;have y:g=fU lt:=RK FZ hg Jz;refine Gv.vz ?_;rfl';refine Ev.dh Z7 ?_;rfl';refine Ev.sI ?_;rfl';refine⟨p,n,cs,rfl,∅,?_⟩;rfl';refine⟨rfl,p,n,cs,wd,rfl,Jv,Dd,∅,?_⟩;rw[hlt];generalize dq ((iR p cs wd).map lG)=rds;rfl'
  have aok:∀xs:List Int,xs.length<=10000->IZ 3 (.list (xs.map .int)):=λxs h=> .inr ⟨_, .inl rfl,by rw[ao];exact h,λe he=>by
    obtain⟨x,_,rfl⟩:=cL.mp he;exact .inl rfl⟩
  refine Ev.dh (xw 3) ?_;rfl';refine Ev.dh Yx ?_;rfl';refine Ev.sI ?_;rfl';refine⟨p,n,cs,rfl,∅,?_⟩;rfl';refine⟨rfl,p,n,cs,L,rfl,X,⟨FZ.imp λh=>∅,Wh⟩,λprs O=>by have:=Hv prs O;omega,λg2 FP=>?_⟩;rw[RK FZ FP hg];have hgl:g.length<=40:=by rw[y];have:=CY lt;omega
  rfl';refine⟨rfl,_,rfl,aok g ∅,?_⟩;rfl';refine Ev.dh (xw 3) ?_;rfl';refine az.ev (az.kc ⋯ rfl ?_);rfl';refine⟨false,λi ds=>ds=(lt.take i).map cT,rfl,?_,?_⟩
  · rintro i d ds ⟨hi,rfl⟩ hl' rfl
    have hio:i<os.length:=∅
    have hil:i<lt.length:=∅
    have S:bE (os.map aq) (0+(i:Int))=some (.int os[i]):=eu ∅ (by rw[show(0+(i:Int)).toNat=i by omega,bw,aC hio];rfl);have hts:lt.take (i+1)=lt.take i++[lt[i]]:=Ai (aC hil);rfl';refine⟨by walk_at "wk",?_⟩;refine Tv.rj ?_;rw[if_pos rfl];refine Ev.Hi (Tv.test (Ev.rA ?_));rfl';refine⟨g,rfl,?_⟩;rw[rZ];by_cases c:(0+(i:Int))∈g
    · rw[decide_eq_true c]
      rw[y] at c;have:=(lX.mp c).2;rw[show(0+(i:Int)).toNat=i by omega,aC hil] at this;rfl';show _=a3 _ (lt.take (i+1));rw[hts,bS,fP this];rfl
    · rw[decide_eq_false c]
      rfl';have:lt[i]=some os[i]:=by
        cases e:lt[i] with
        |none=>exact absurd (by rw[y];exact lX.mpr ⟨∅,by rw[show(0+(i:Int)).toNat=i by omega,aC hil,e]⟩) c
        | some x =>
          have:=EV i x (by rw[aC hil,e]);rw[aC hio] at this;rw[fP this]
      show _=a3 _ (lt.take (i+1));rw[hts,bS,this];rfl
  rintro ds hl' rfl;rw[show n.toNat=lt.length by omega,c6];rfl'
  refine⟨rfl,dU lt,rfl, .inr ⟨_, .inl rfl,by rw[ao];omega,λe he=>by
    obtain⟨o,_,rfl⟩:=cL.mp he;cases o<;>exact .inl rfl⟩,?_⟩
  generalize jo:(lW (fV (ir (jN K) _) _) _:TS)=tl;rfl';subst jo;refine Sv.seq ?_;refine Sv.sZ (az.listOf ?_);rfl';intro A14;refine Sv.seq ?_;refine Sv.tH (λρ=>∃(M:List Int) (pD pU pS:Bool),(∀x∈M,x∈L)/\M.length<=40/\ρ=[.raw (.ref a), .aG, .d true (.bool (decide (lg=5))), .d true (.int mo), .d true (.int p), .d true (.int n), .d true (.list (os.map .int)), .d f7 (.int wide), .d f8 (bR p n cs), .d true (dU wd), .d false (.list (L.map .int)), .d false (.list (g.map .int)), .d pD (dU lt), .d pU rds, .own A14 pS (M.map .int)]) ?_ ?_
  · refine Sv.uW (λρ=>∃(M:List Int) (pD pU pS:Bool),(∀x∈M,x∈L)/\M.length<=40/\ρ=[.raw (.ref a), .aG, .d true (.bool (decide (lg=5))), .d true (.int mo), .d true (.int p), .d true (.int n), .d true (.list (os.map .int)), .d f7 (.int wide), .d f8 (bR p n cs), .d true (dU wd), .d false (.list (L.map .int)), .d false (.list (g.map .int)), .d pD (dU lt), .d pU rds, .own A14 pS (M.map .int)]) (λ(ρ:Rh)=>match ρ[14]? with|some (Sl.own _ _ ds)=>ds.length|_=>0) ⟨L,_,_,_,λ_ h=>h,De,rfl⟩ ?_
    rintro J ⟨M,pD,pU,pS,hM,hMl,rfl⟩;have MM:(M.map aq).length=M.length:=ao ..;rfl';by_cases c:lg=5
    · rw[if_pos (decide_eq_true c)]
      rfl';by_cases c2:(2:Int)<(M.map aq).length
      · rw[if_pos (decide_eq_true c2)]
        refine Sv.WT rfl ?_;rfl';intro r r0 r1;refine⟨r.toNat,by rw[QH r0],∅,∅,?_⟩;rw[show(a3 aq M).eraseIdx r.toNat=a3 aq (M.eraseIdx r.toNat) by rw[Mh,Mh,bS,Cy,Hg]];refine⟨⟨M.eraseIdx r.toNat,_,_,_,λx hx=>hM x (List.mem_of_mem_eraseIdx hx),dP (List.length_eraseIdx_le ..) hMl,rfl⟩,?_⟩;show(a3 _ (M.eraseIdx r.toNat)).length<(a3 _ M).length;rw[ao,ao,G0 ∅];omega
      · rw[if_neg (by simpa using c2)]
        exact⟨M,_,_,_,hM,hMl,rfl⟩
    · rw[if_neg (by simpa using c)]
      exact⟨M,_,_,_,hM,hMl,rfl⟩
  rintro J ⟨M,pD,pU,pS,hM,hMl,rfl⟩;have MM:(M.map aq).length=M.length:=ao ..;refine Sv.mD 14 rfl ?_;rfl';refine az.ev (az.gK ⋯ rfl ?_);rfl';have XW:PW p n cs os wd lt g:=by
    refine⟨hN,∅,u,X,hwl,j3,∅,λx hx=>by
      obtain⟨i,hi⟩:=ic hx;exact JZ.2 i x hi,⟨∅,B,λj x e=>by unfold gI;rw[br,Qo j x e];rfl,hT⟩,⟨∅,B,λj x e=>by unfold gI;rw[br,EV j x e];rfl,hT⟩,?sub,by rw[C];exact hg,y⟩
    case sub=>
      intro i e;cases z:wd[i]? with
      | none =>
        have:=(aO.mp e).1;have:=zp.mp z;omega
      | some o =>
        cases o with
        |none=>rfl
        |some x=>rw[JZ.1 i x z] at e;cases e
  refine λv=>⟨true,λi es=>es=ar i (.bool true),rfl,?_,?_⟩
  · rintro i d es hd hl' rfl
    obtain⟨x,hx,rfl⟩:=c9 hd;have xB:=hM x (bC hx);rw[<-C] at xB;obtain⟨Y,W⟩:=lX.mp xB;rfl';refine⟨by walk_at "wk",?_⟩;rfl';refine Ev.dh Va ?_;rfl';refine⟨rfl,p,n,cs,os,wd,lt,g,x.toNat,by show[_,_,aq x,_]=[_,_,_,_];rw[QH Y];rfl,XW,W,?_⟩;refine⟨λ_=>rfl,?_⟩;show _=ar (i+1) _;rw[vC]
  · rintro es hl' rfl
    refine⟨ar M.length true,by rw[MM];simp,?_⟩;rw[show(ar M.length true).all id=true by simp]
end
local macro_rules| `(tactic|walk_at "bn")=> `(tactic|(intro _ _ _ _ _ _ us hl;first|(obtain⟨_,h⟩:=NZ hl;subst h;rfl)|(obtain⟨_,_,h⟩:=ln2 hl;subst h;rfl)|(obtain⟨_,_,_,h⟩:=Ob hl;subst h;rfl)|(obtain⟨_,_,_,_,h⟩:=Mx hl;subst h;rfl)|(obtain⟨_,_,_,_,_,h⟩:=Ln hl;subst h;rfl)|(obtain⟨_,_,_,_,_,_,h⟩:=ln6 hl;subst h;rfl)|(obtain⟨_,_,_,_,_,_,_,h⟩:=ln7 hl;subst h;rfl)))
def all_mk:Ur:=by
 intro l w K h mg fa f0 f1 f2 f3 f4 f5 f6 f7 f8 f9 Mq HV pD pU pS LZ Qf Q3 Qp Qa Rm P1 O5 OB Qd Mr KN ND S3 Rr Nh Rv f32 Rq QD L3 OH LY QK Pu MV Nz O3 RM NY zo tS tP uF tF X G MN Lz G6 Nk LS EI Fc II zL DB RB Nc M1 KG Sg M8 MY FN MJ OZ O7 KU KQ SE KO Pn Jf K1 Pg QN SV Mm KH Py N3 Fj QV MT Ti Ms Lp RA S8 LH J2 Pq bX CU CS Bc B3 Ba yT CC nQ kR d0 d1 d2 d3 d4 d5 d6 d7 d8 d9 tM Bl Cj xO zj AY yC AB z5 yo zZ Bm CV BN yd B5 BC zg yb AA Bj yk CP B8 Cc Bb Ac zk yS Ar BJ BZ yJ Ce Bx Aa z7 yq Ct BE zK zX BR ze zh zl BU Al wG AF yv A0 CD vP BF xT Ca yg wI yG AR Aw zQ yE xX yF Bd Cm Cr yV B6 CG CO CH Bs Bh;have e:=MN.symm.trans (cD X G Aa);cases e;obtain⟨a0,_,r⟩:=d0;have b0:=r.binds (ps:=["p","a","b"]) (by walk_at "bn");obtain⟨a1,_,E⟩:=d1;have b1:=E.binds (ps:=["p","b"]) (by walk_at "bn");obtain⟨a2,_,F2⟩:=d2;have b2:=F2.binds (ps:=["p","pairs","word"]) (by walk_at "bn");obtain⟨y,_,F3⟩:=d3;have b3:=F3.binds (ps:=["word"]) (by walk_at "bn");obtain⟨a4,_,q⟩:=d4;have b4:=q.binds (ps:=["net"]) (by walk_at "bn");obtain⟨a5,_,M⟩:=d5;have b5:=M.binds (ps:=["net"]) (by walk_at "bn");obtain⟨a6,_,o⟩:=d6;have b6:=o.binds (ps:=["p","rows","places"]) (by walk_at "bn");obtain⟨a7,_,x⟩:=d7;have b7:=x.binds (ps:=["rows","taken","place"]) (by walk_at "bn");obtain⟨a8,_,D⟩:=d8;have b8:=D.binds (ps:=["p","rows","k","place"]) (by walk_at "bn");obtain⟨a9,_,V⟩:=d9;have b9:=V.binds (ps:=["p","factor","row"]) (by walk_at "bn");obtain⟨L,_,GR⟩:=tM;have b10:=GR.binds (ps:=["p","row","factor","own"]) (by walk_at "bn");obtain⟨a11,_,JM⟩:=Bl;have Uw:=JM.binds (ps:=["net","row","word"]) (by walk_at "bn");obtain⟨c,_,Ez⟩:=Cj;have b12:=Ez.binds (ps:=["net","word","place"]) (by walk_at "bn");obtain⟨a13,_,Kn⟩:=xO;have b13:=Kn.binds (ps:=["net","lot"]) (by walk_at "bn");obtain⟨j,_,T⟩:=zj;have b14:=T.binds (ps:=["seated","lot"]) (by walk_at "bn");obtain⟨Xs,_,Gm⟩:=AY;have YU:=Gm.binds (ps:=["net","lot"]) (by walk_at "bn");obtain⟨F,_,Ga⟩:=yC;have b16:=Ga.binds (ps:=["pairs","inside"]) (by walk_at "bn");obtain⟨Wf,_,Ds⟩:=AB;have b17:=Ds.binds (ps:=["net","word","c"]) (by walk_at "bn");obtain⟨N,_,n⟩:=z5;have Wj:=n.binds (ps:=["p","pairs","rest","word"]) (by walk_at "bn");obtain⟨S,_,Eh⟩:=yo;have b19:=Eh.binds (ps:=["net","word"]) (by walk_at "bn");obtain⟨Ws,_,U⟩:=zZ;have b20:=U.binds (ps:=["net"]) (by walk_at "bn");obtain⟨a21,_,Dg⟩:=Bm;have WY:=Dg.binds (ps:=["net","word"]) (by walk_at "bn");obtain⟨u,_,t⟩:=CV;have b22:=t.binds (ps:=["script"]) (by walk_at "bn");obtain⟨R,_,JH⟩:=BN;have b23:=JH.binds (ps:=["bag","many"]) (by walk_at "bn");obtain⟨Ud,_,EH⟩:=yd;have Xx:=EH.binds (ps:=["bag","many"]) (by walk_at "bn");obtain⟨a25,_,C7⟩:=B5;have b25:=C7.binds (ps:=["number"]) (by walk_at "bn");obtain⟨d,_,f⟩:=BC;have Zd:=f.binds (ps:=["bag"]) (by walk_at "bn");obtain⟨a27,_,p⟩:=zg;have ZQ:=p.binds (ps:=["p","a","b"]) (by walk_at "bn");obtain⟨VH,_,Eb⟩:=yb;have Xm:=Eb.binds (ps:=["p","pairs","word"]) (by walk_at "bn");obtain⟨Vm,_,Y⟩:=AA;have b29:=Y.binds (ps:=["bag","p","n"]) (by walk_at "bn");obtain⟨Xf,_,I⟩:=Bj;have b30:=I.binds (ps:=["bag","p","word","wide"]) (by walk_at "bn");obtain⟨XO,_,B⟩:=yk;have b31:=B.binds (ps:=["bag","p","word","many","wide"]) (by walk_at "bn");obtain⟨a32,_,C1⟩:=CP;have b32:=C1.binds (ps:=["bag","word"]) (by walk_at "bn");obtain⟨Uz,_,H⟩:=B8;have b33:=H.binds (ps:=["net"]) (by walk_at "bn");obtain⟨UT,_,C⟩:=Cc;have YL:=C.binds (ps:=["found"]) (by walk_at "bn");obtain⟨Xe,_,z⟩:=Bb;have b35:=z.binds (ps:=["bag","p","n","checks"]) (by walk_at "bn");obtain⟨i,_,Z⟩:=Ac;have VB:=Z.binds (ps:=["bag","net","many"]) (by walk_at "bn");obtain⟨WI,_,O⟩:=zk;have b37:=O.binds (ps:=["found","p","many"]) (by walk_at "bn");obtain⟨m,_,J⟩:=yS;have XU:=J.binds (ps:=["net","factors"]) (by walk_at "bn");obtain⟨a39,_,Q⟩:=Ar;have VI:=Q.binds (ps:=["net","word"]) (by walk_at "bn");obtain⟨VW,_,ET⟩:=BJ;have b40:=ET.binds (ps:=["net","word","place","found"]) (by walk_at "bn");obtain⟨b,_,a⟩:=BZ;have zF:=a.binds (ps:=["found","due"]) (by walk_at "bn");obtain⟨Xn,_,Jh⟩:=yJ;have b42:=Jh.binds (ps:=["net","word"]) (by walk_at "bn");obtain⟨Yk,_,E8⟩:=Ce;have Yp:=E8.binds (ps:=["net","lot"]) (by walk_at "bn");obtain⟨XI,_,A⟩:=Bx;have b44:=A.binds (ps:=["net","words","place","left"]) (by walk_at "bn");have F45:=uw (st:=kY) z7 yq Ct;have Ru:=uw (st:=tD) zX BR ze;have Za:=Ru.binds (ps:=["self","net","word"]) (by walk_at "bn");have MQ:=uw (st:=ux) BU Al wG;have b47:=MQ.binds (ps:=["self"]) (by walk_at "bn");have Pf:=uw (st:=tR) A0 CD vP;have TZ:=Pf.binds (ps:=["self"]) (by walk_at "bn");have Qu:=uw (st:=sQ) Ca yg wI;have Vk:=Qu.binds (ps:=["self"]) (by walk_at "bn");have g:gM K bX:=⟨CS,Bc,B3,Ba⟩;have G3:=ju X G yG;have gx:=ju X G AR;have om:=ju X G Aw;have Jp:=ju X G zQ;have ja:=ju X G yE;have jM:=ju X G xX;have gu:=ju X G yF;have bT:=ju X G Bd;have dw:=ju X G Cm;have Dk:=ju X G Cr;have bY:=ju X G yV;have Gz:=ju X G B6;have ug:=ju X G CG;have uh:=ju X G CO;have sH:=ju X G CH;have nO:=ju X G Bs;have Gu:=ju X G Bh;refine⟨PySem.W.fnOf "law" "law" (lT kY) (lF kY) (aJ kY) .none EI Fc II G6 zL DB,λs v=> .of_eq rfl,λbase _ _=>?_⟩;have MU:=Callee.mk' V (Zt (P:=l.prog) (w:=w) (base:=base) V) b9 (cD X G a9);have OT:=Callee.mk' E (Wy (P:=l.prog) (w:=w) (base:=base) E MU) b1 (cD X G a1);have aec:=Callee.mk' r (aeZ (P:=l.prog) (w:=w) (base:=base) r OT) b0 (cD X G a0);have OW:=Callee.mk' F2 (Y8 (P:=l.prog) (w:=w) (base:=base) F2) b2 (cD X G a2);have aaY:=Callee.mk' F3 (Zw (P:=l.prog) (w:=w) (base:=base) F3 ja) b3 (cD X G y);have P9:=Callee.mk' q (V1 (P:=l.prog) (w:=w) (base:=base) q ja bY) b4 (cD X G a4);have Ut:=Callee.mk' M (Fh (P:=l.prog) (w:=w) (base:=base) M ja bT) b5 (cD X G a5);have aa6:=Callee.mk' x (M2 (P:=l.prog) (w:=w) (base:=base) x ja) b7 (cD X G a7);have afa:=Callee.mk' GR (SD (P:=l.prog) (w:=w) (base:=base) GR Gu) b10 (cD X G L);have aaA:=Callee.mk' D (X8 (P:=l.prog) (w:=w) (base:=base) D MU OT afa) b8 (cD X G a8);have aao:=Callee.mk' o (F7 (P:=l.prog) (w:=w) (base:=base) o aa6 aaA) b6 (cD X G a6);have afo:=Callee.mk' JM (Vo (P:=l.prog) (w:=w) (base:=base) JM OW dw ja) Uw (cD X G a11);have Xb:=Callee.mk' Ez (BH (P:=l.prog) (w:=w) (base:=base) Ez aao Ut aaY afo) b12 (cD X G c);have agv:=Callee.mk' T (Up (P:=l.prog) (w:=w) (base:=base) T dw) b14 (cD X G j);have acv:=Callee.mk' Kn (MF (P:=l.prog) (w:=w) (base:=base) Kn agv P9) b13 (cD X G a13);have aeF:=Callee.mk' Ga (Zc (P:=l.prog) (w:=w) (base:=base) Ga) b16 (cD X G F);have XY:=Callee.mk' Gm (DD (P:=l.prog) (w:=w) (base:=base) Gm P9 aeF Jp bT ja) YU (cD X G Xs);have aaQ:=Callee.mk' n (Og (P:=l.prog) (w:=w) (base:=base) n aec OW bT) Wj (cD X G N);have Vv:=Callee.mk' Ds (YG (P:=l.prog) (w:=w) (base:=base) Ds aaQ) b17 (cD X G Wf);have Tz:=Callee.mk' Eh (Gj (P:=l.prog) (w:=w) (base:=base) Eh Vv bY bT ug) b19 (cD X G S);have VT:=Callee.mk' U (Y0 (P:=l.prog) (w:=w) (base:=base) U dw) b20 (cD X G Ws);have Z0:pF l.prog w K mg base bX "step" 7 ["self"] (jR 1 (wM bX)):=⟨g,tP,_,Kd (P:=l.prog) (w:=w) (base:=base) MQ g nQ kR Tz,b47,⟨zh,zl,wG⟩⟩;have XX:pF l.prog w K mg base bX "mend" 8 ["self"] (jR 1 (wu bX)):=⟨g,uF,_,Yz (P:=l.prog) (w:=w) (base:=base) Pf Z0,TZ,⟨AF,yv,vP⟩⟩;have XN:pF l.prog w K mg base bX "word" 1 ["self"] (jR 1 (v8 bX)):=⟨g,tF,_,Xk (P:=l.prog) (w:=w) (base:=base) Qu g kR dw,Vk,⟨BF,xT,wI⟩⟩;have Zg:FL l.prog w K mg base bX "Mender" 2 ["self","net","word"] (jR 3 (w5 bX)):=⟨tS,_,T1 (P:=l.prog) (w:=w) (base:=base) Ru g nQ kR VT dw,Za,⟨yT,BE,zK,CC⟩,cD X G CU⟩;have XT:=Callee.mk' Dg (Hm (P:=l.prog) (w:=w) (base:=base) Dg XX XN Zg) WY (cD X G a21);have Wz:=Callee.mk' t (HI (P:=l.prog) (w:=w) (base:=base) t G3) b22 (cD X G u);have aaf:=Callee.mk' JH (Uh (P:=l.prog) (w:=w) (base:=base) JH bY) b23 (cD X G R);have rM:=Callee.mk' EH (WS (P:=l.prog) (w:=w) (base:=base) EH aaf bT) Xx (cD X G Ud);have abh:=Callee.mk' C7 (Vw (P:=l.prog) (w:=w) (base:=base) C7 bY) b25 (cD X G a25);have aai:=Callee.mk' f (Iw (P:=l.prog) (w:=w) (base:=base) f rM abh) Zd (cD X G d);have VV:=Callee.mk' p (Xa (P:=l.prog) (w:=w) (base:=base) p) ZQ (cD X G a27);have Q5:=Callee.mk' Eb (Gh (P:=l.prog) (w:=w) (base:=base) Eb sH) Xm (cD X G VH);have afE:=Callee.mk' Y (adJ (P:=l.prog) (w:=w) (base:=base) Y rM bY jM Dk) b29 (cD X G Vm);have Xw:=Callee.mk' I (ZI (P:=l.prog) (w:=w) (base:=base) I Q5 rM VV bT ug Gz bY) b30 (cD X G Xf);have VC:=Callee.mk' B (ady (P:=l.prog) (w:=w) (base:=base) B Xw bT bY) b31 (cD X G XO);have aa7:=Callee.mk' C1 (ag6 (P:=l.prog) (w:=w) (base:=base) C1 rM) b32 (cD X G a32);have IL:=Callee.mk' H (X4 (P:=l.prog) (w:=w) (base:=base) H dw) b33 (cD X G Uz);have Zp:=Callee.mk' C (Ml (P:=l.prog) (w:=w) (base:=base) C gu jM om) YL (cD X G UT);have YM:=Callee.mk' z (VR (P:=l.prog) (w:=w) (base:=base) z rM bY bT) b35 (cD X G Xe);have agJ:=Callee.mk' Z (Yt (P:=l.prog) (w:=w) (base:=base) Z IL YM rM bY bT) VB (cD X G i);have U4:=Callee.mk' O (ED (P:=l.prog) (w:=w) (base:=base) O Zp gx gu dw bT) b37 (cD X G WI);have YE:=Callee.mk' J (Sx (P:=l.prog) (w:=w) (base:=base) J bY bT) XU (cD X G m);have aef:=Callee.mk' Q (Vq (P:=l.prog) (w:=w) (base:=base) Q Q5 gx) VI (cD X G a39);have Yv:=Callee.mk' ET (Z1 (P:=l.prog) (w:=w) (base:=base) ET YE U4 aef bT gx gu nO sH jM bY) b40 (cD X G VW);have Zn:=Callee.void (P:=l.prog) (w:=w) (base:=base) (k:=0) (sp:=bF 2 (sR 0)) a zF (cD X G b) FX;have agz:=Callee.mk' a (Ju (P:=l.prog) (w:=w) (base:=base) 0 a Zn gu dw nO gx bT om jM uh bY) zF (cD X G b);have VM:=Callee.mk' a (Ju (P:=l.prog) (w:=w) (base:=base) 1 a agz gu dw nO gx bT om jM uh bY) zF (cD X G b);have Z6:=Callee.mk' a (Ju (P:=l.prog) (w:=w) (base:=base) 2 a VM gu dw nO gx bT om jM uh bY) zF (cD X G b);have Zy:=Z6;have aeq:=Callee.mk' Jh (Xg (P:=l.prog) (w:=w) (base:=base) Jh bY bT) b42 (cD X G Xn);have Yn:=Callee.mk' E8 (X0 (P:=l.prog) (w:=w) (base:=base) E8 gx bT) Yp (cD X G Yk);have Yw:=Callee.mk' A (Us (P:=l.prog) (w:=w) (base:=base) A Xb IL Yv Yn acv dw gx bY) b44 (cD X G XI);exact Yf F45 Wz rM aai afE agJ aa7 aeq XT VC IL Zy XY Yw dw gx bY bT
end K48
end
section
open PySem PySem.W PyProof.Rows
theorem PySem.Challenge.cw_fewchecks_k48_whole_rounds_lots_and_fact_holds : PySem.Challenge.rw_fewchecks_k48_whole_rounds_lots_and_fact.Holds := by
 w_on
 o_law
 k_head
 (case hw=>w_witness2)
 k_fill
 refine K48.walk (l:=PySem.Challenge.rw_fewchecks_k48_whole_rounds_lots_and_fact) rfl rfl (λw h Y=>PySem.W.kIn_of Y) ?F
 case F=>
  intro w mg fa h KX G hmg
  refine' K48.all_mk KX G hmg ..
  any_goals first|(refine' L2.aN.mk ..;any_goals k_is)|k_is
end
