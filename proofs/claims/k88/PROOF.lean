import PyProof.Rows.All
import Wide.All
import OpenK.AllK
import Wide.FinOn
import Lean
import PyProof.EqAt
import PyProof.EqKinds
import PyProof.TupleCall
import PySem.Challenge.RW_fewchecks_k88_whole_desk_and_mender
set_option Elab.async false
set_option linter.all false
set_option maxHeartbeats 0
set_option maxRecDepth 100000
set_option compiler.extract_closed false
section
local macro_rules | `(tactic| omega) => `(tactic| first | lia | omega (config := {}))
local macro_rules|`(∅)=>`(by omega)
local macro_rules|`(⋯)=>`(by decide)
local macro_rules | `(tactic| rfl') => `(tactic| walk_at "dt")
open And renaming intro->xc
open Array renaming length_toList->mj,getElem?_eq_getElem->nB,getElem?_toList->qy,getElem?_eq_some_iff->uF,size_extract->DL,getD_eq_getD_getElem?->ES,getElem?_eq_none->Et,getElem?_push->OE,getElem?_extract_of_lt->Nt,toList_push->l4
open Bool renaming false_ne_true->eB,and_eq_true->fF,or_false->qh,false_or->rE,eq_iff_iff->t9,not_eq_true->ua,true_or->uO,bne_true->Al,true_and->Ju,bne_false->FH,eq_false_iff->J5,false_eq_true->kn,not_false->qk,or_true->tJ
open Classical renaming byContradiction->jl,choose_spec->S1,choose->n3
open False renaming elim->dy
open ForInStep renaming yield->eA
open Function renaming comp_def->md
open Int renaming emod_nonneg->jM,emod_lt_of_pos->jK,mul_assoc->lG,mul_sub->oR,mul_ediv_add_emod->pM,mul_comm->qd,zero_mul->um,mul_le_mul_of_nonneg_left->w5,ediv_nonneg->vF,sub_zero->xx,emod_eq_of_lt->uW,lt_irrefl->yg,mul_one->BI,sub_mul->A9,mul_add->AV,natAbs_dvd_natAbs->Ci,natAbs_mul->Iv,le_of_dvd->IC,toNat_natCast->Ho,ne_of_lt->Gk,ediv_le_self->FA,mul_le_mul->J8,emod_eq_zero_of_dvd->Pp,eq_ofNat_of_zero_le->Ut,gcd_eq_zero_iff->Q0,gcd->h9,gcd_dvd_right->me,lt_trichotomy->mf,emod_add_emod->mu,gcd_dvd_left->nC,natCast_mul->o7,natCast_add->pz,toNat->p0,mul_nonneg->p6,mul_zero->ui,one_mul->vf,mul_neg->vi,add_mul->vk
open Int.ofNat renaming inj->xi
open Lean renaming mkIdent->dE
open List renaming length_map->aj,mem_singleton->aF,getElem?_eq_getElem->aL,mem_cons->aM,getElem?_map->bu,getElem?_eq_some_iff->bH,getElem?_set_ne->bQ,map_cons->bR,mem_cons_of_mem->bV,mem_cons_self->bZ,length_append->cP,mem_map->cM,mem_of_getElem?->cS,map_append->cX,getElem?_set_self->dB,length_cons->dM,not_mem_nil->dX,getElem?_eq_none->eO,getElem?_replicate->eY,size_toArray->fk,mem_append->fN,getElem?_append_right->fJ,getElem?_append_left->fO,nodup_cons->gf,lookup_cons->gJ,length_range->gC,length_set->gR,append_nil->ic,ext_getElem?->iu,mem_filter->iN,getD_eq_getElem?_getD->iM,getElem?_of_mem->iW,getElem_mem->jB,take_length->jO,getElem?_range->jA,length_singleton->kc,mem_append_right->kQ,getElem?_cons_succ->kN,filterMap_cons->lF,cons_append->lB,map_map->l7,nodup_append->mF,filter_append->mS,set_set->nk,find?_cons->m5,length_take->oZ,replicate_succ->ou,any_cons->oE,filter_cons->oF,pairwise_cons->oh,pairwise_map->ow,mem_append_left->pR,all_eq_true->pZ,length_eq_zero_iff->qb,take_of_length_le->qp,filter_cons_of_neg->pW,foldl_append->pN,mem_range->qW,mem_filterMap->qz,map_nil->qQ,all_cons->qE,filter_cons_of_pos->qD,flatMap_cons->qL,length_replicate->sL,flatten_cons->sR,foldl_cons->tQ,pairwise_iff_getElem->tP,any_eq_true->tE,map_congr_left->r6,append_assoc->u9,length_filter_le->yk,mem_flatMap->wX,filterMap_append->vU,findSome?_cons->v8,getElem?_take->yh,getElem?_zip_eq_some->BK,filterMap_cons_some->DI,length_filterMap_le->CW,length_zip->BW,map_set->zB,ne_nil_of_length_pos->yV,of_mem_zip->ET,take_zero->Er,take_add_one->EO,sum_append->JD,range_succ_eq_map->KL,reverse_cons->IQ,flatMap_append->GU,length_pos_iff->GA,pairwise_append->Fb,filter_eq_self->KR,foldl_nil->HE,take_append_drop->G8,getElem_zip->Ef,map_take->Kw,pairwise_lt_range->La,getElem?_toArray->Uw,length_eraseIdx_of_lt->Mx,mem_of_mem_take->UX,mem_or_eq_of_mem_set->N6,filterMap_cons_none->Nr,filter_sublist->Od,exists_of_findSome?_eq_some->M4,mem_of_find?_eq_some->TN,findSome?_eq_none_iff->Nd,getElem?_eq_none_iff->P9,dropLast_sublist->ME,dropLast_concat_getLast->Sh,getLast_eq_getElem->Ny,replicate_succ'->OU,replicate->au,range->a4,Nodup->bx,map->dj,length->eQ,lookup->fx,zip->g7,map_filterMap->kz,find?_eq_none->kS,findSome?_map->k4,map_replicate->la,any_eq_false->lr,take_sublist->lu,filter_congr->mi,getElem?_inj->mn,getElem?_set->mr,map_dropLast->mx,length_drop->ng,countP_cons->n4,getElem_map->og,nil_append->oP,length_nil->ph,find?_some->pE,take->pX,nodup_nil->qP,drop_zero->rf,foldl->rG,find?->sh,any_nil->tI
open List.Nodup renaming length_le_of_subset->AK
open List.Pairwise renaming sublist->RG,nil->wy
open List.Perm renaming append_left->tx,swap->xf,cons->xh
open List.Sublist renaming cons₂->kA,map->wY
open List.cons renaming inj->xG
open Nat renaming le_refl->aW,le_trans->cU,ne_of_lt->fM,lt_of_lt_of_le->fX,zero_le->iP,le_of_ble_eq_true->iQ,lt_irrefl->lg,le_of_lt->lV,lt_succ_self->oQ,mul_mod->o5,lt_of_le_of_lt->qi,lt_succ_of_lt->qY,ne_of_gt->sV,mul_comm->rO,le_of_eq->vS,le_succ->xD,lt_trans->xH,mul_assoc->ve,mod_lt->A0,pow_add->BR,le_of_not_lt->Kh,not_lt_zero->J6,lt_or_eq_of_le->J3,lt_trichotomy->HQ,lt_of_lt_of_eq->Gf,mul_one->Ei,zero_mul->Ka,div_add_mod->Fj,mod_mod->EA,mod_mod_of_dvd->FE,one_mul->HN,le_of_dvd->EU,lt_or_gt_of_ne->Gy,sub_self->EJ,dvd_of_mod_eq_zero->P0,Coprime->h8,pos_of_ne_zero->km,mod_eq_of_lt->nz,min_le_right->oe,mul_le_mul->ra,lt_or_ge->tq,mul_zero->t2,pow_zero->t4,log2_lt->vc,pow_mul->vv,pow_mod->vx,gcd->vy
open Nat.Coprime renaming pow_left->uM
open Nat.succ renaming inj->zC
open Ne renaming symm->cY
open Option renaming some_ne_none->gx,map_eq_some_iff->jJ,isSome_iff_exists->qC,isNone_iff_eq_none->tS,map_some->wA,isSome_map->Af,map_map->Ff,getD_none->nr,map_none->pU,none->va
open Option.some renaming inj->gz
open Or renaming inl->bg,inr->e0
open Prod renaming ext_iff->t5,ext->wt
open PyProof.Rows renaming boot_list->kJ,boot_isinstance->nE,boot_sorted->wZ,callWith_type1->Ic,boot_int->IT,boot_tuple->RS,boot_bool->Vb,boot_str->L3,firstMet->fe,IntsAre->fH,subscriptTail_builtinR->ib,AllBare->ik,boot_range->iV,subscriptTail->j2,firstMet_succ->kj,envOfC->mB,callWith_builtin1->mI,entry_list_sort->px,slot_list_sort->ql,list_sort_tree->qs,args_list_sort->qw,sortedHeap_old->qx,sortedHeap_at->ti,seqObj->tz,boot_abs->ug,boot_sum->uj,boot_min->uk,boot_set->uw,boot_all->uz,SortSt->wq
open PyProof.Rows.F renaming plain_set_update_loop->Ir,entry_set_update_loop->hX
open PySem renaming boot_len->gM,mem_of_lookup->qv,wpAny_bind->ae,Value->ag,Addr->ar,Shared->aw,wpAny_pure->a3,mainGlobals->bc,model->bj,Program->bo,starEach->bp,rawInt->cf,wpAny_call_entry->cv,World->cx,Around->c4,compareOp->da,wpAny_newObj_type->df,wpAny_setState_of->dq,codeAny_builtin->du,wpAny_holding->dA,wpAny_passesOwn->ec,pickOrder->ee,Heap->eh,SetTable->ei,wpAny_callSpecial?_slot->ej,Expr->ek,Stmt->el,wpAny_askSetting->eo,sysModules->eD,wpAny_mono->eF,FuncData->eI,NameKind->eJ,wpAny_setField->eM,wpAny_Call_Name_kw->e7,scanBound->fb,plainId_quiet->fg,backTo->fm,wpAny_truthy_bool->ft,assignEach->fv,foldedSetIterable->fw,keywordEach->fA,sliceBounds->fD,fits_of_scanBound->fP,wpAny_pyIter_slot->gb,bootBuiltins->gq,codeAny_mono->gw,builtinLookup_eq_fast->gN,wpAny_execs_nil->gO,letOwnedTupleGo->gT,unsupported->g4,binaryOp->g6,Builtin->g8,isSubtype_type->hu,wpAny_pyIter_list->hH,getMethod->hJ,Scope->hU,attributeBase->hV,wpAny_attempt->h7,wpAny_isInstance->ia,typeLookup_type->il,wpAny_ite_split->ip,valueAt->iq,backToKw->iz,call_meets->iI,pyNext->i0,wpAny_runValue->i1,sizeLine_eq->i5,wpAny_setEntries_of->js,wpAny_standAt->jx,callWith->j1,relayAll->kf,setField->kk,tupleKind_room_in1->ky,wpAny_assign_Name->lj,slot_list_getitem->lx,callerA->lJ,wpAny_storeSet_of->lS,wpAny_rule->l3,setNext->ma,setsByText->mc,wpAny_dictEntries->ml,setNextDrawn->mN,call_meetsIn->m3,wpAny_execs_cons->m4,wpAny_getItem_of->n7,GenState->oi,tupleKind->ox,swapsWith->oy,BindsTo->oI,seqIndex_of->oJ,subscripted->oL,codeAny_of_tree->pa,drawOrder->pd,wpAny_specialOf->pk,wpAny_updateSeq->pq,recursionLimit->p3,fitsIndex_both->p4,entryFor_alias->qc,firstArgMember->qf,wpAny_seqItems->qj,builtinsNs->rh,wpAny_Name->rk,assign->rn,wpAny_load->rr,wpAny_call->ru,typeIs_int->rA,intKind_is->rQ,argsOk->r3,intBits_le_64->sm,evalPart_none->so,call_list_seq->sv,raiseNew->sT,wpAny_newList->tf,cLine->tj,cellsFrom->tm,getItem->u3,bindL->u5,bindC->u6,newList->vb,collect->vt,Operator->v3,pyIter->v5,compEnvC->wb,compPost->wi,entryFor->wj,atKey->w6
open PySem.Around renaming under_plainId->qu,under->my
open PySem.AutoListH renaming list___mul___list_int_3->kd
open PySem.Builtin.Dict renaming showsAll->dk,dictSlotArgs->eP,samePairs->ij,addrOf->jv
open PySem.Builtin.Frozenset renaming updateFrom->oo,newClass->p1,addrOf->r4,sizeOf->r7,slot0->td
open PySem.Builtin.Int renaming intBits->jb
open PySem.Builtin.List renaming listTooLong->ed,listExtendWith->eC,listLengthHint->g5,listSameRef->sg
open PySem.Builtin.Range renaming rangeSize->sk
open PySem.Calls renaming Name_function_global->QO,call_function_entry->S6
open PySem.Code renaming isFrame->mz,frames->u4
open PySem.DictEntry renaming refKey->wO
open PySem.F renaming called_set->pI,plainAttrs_list->uv,slot_list_append->wM,type_list_append->xo,plain_list_iadd->Ar,slot_dict_pop->HJ,plainAttrs_dict->KP,entry_proto_collect->L5,plain_proto_collect->Lp,entry_list_iadd->Ot,plain_extend_loop->SM,slot_dict_delitem->SI,slot_list_insert->O0,slot_dict_ne->OQ,slot_dict_get->Rc,type_dict_pop->Mi,slot_int_rmul->oT,plain_set_new->pb
open PySem.Heap renaming lt_size->cT,get?_push_of_some->dz,get?_push_size->iH,size_push->mY,get?_update_other->ny,get?_update_self->DY,SameBut->eu
open PySem.Heap.DictOf renaming new->w7
open PySem.Heap.IsSliceOf renaming new->wa
open PySem.Heap.SameBut renaming update->jq
open PySem.NameKind renaming free->cm,cell->ke
open PySem.Obj renaming mapSeq->eX,mapFields->hZ,data_mapFields->kl,putSet->lL
open PySem.PassesOwn renaming never->gy
open PySem.PyData renaming int->ba,canLayAll0->be,depthAll->bX,canLay0->cq,depth->dC,eqv->e6,list->fI,tuple->gL,eqvAll->kq,bool->o3,none->vE
open PySem.SeqAt renaming canLay_of_shaped->zA,shaped->cn
open PySem.SeqAt.EqAt renaming int_str->vN,str_int->vT
open PySem.SetTable renaming grown->et,insertAt->hM,Probe->qa
open PySem.SetTable.below renaming go->eL
open PySem.SetTable.probe renaming go->hQ
open PySem.Str renaming ofString->dc,empty->oC
open PySem.Value renaming isInt_shape->xW,ref->cc,type->ea,none->fo,int->gd,str->hG,bool->ix,isStrOf_shape->i4,float->ot,isStrOf->si,isInt->uN,bytes->uZ
open PySem.W renaming mg_of->cK,mg_none_of->kR,kia_one->lQ,kia_tup->qR,kitx_dict->Dt,plainGet_of->Io,methodCall_KW->GC,kitx_list->JB,callWith_K->IG,cellsFrom_some->Lb
open PySem.W.WData renaming int->w4
open PySem.W.WShape renaming has->wx
open PySem.Walks renaming dictKeys->rb,list->wC
open PySem.pickOrder renaming go->mM
open Sum renaming inl->cZ,inr->lh
open Sum.inl renaming inj->E1
open True renaming intro->de
open PySem PySem.Spec PyProof.Rows
variable{nb aA:ar->Prop}{pins:List (ar×Obj)}{a C acc dx:ar}{n i t' j m ep:Nat}{Θ:Bool->List PyData->Prop}{g:Int->Option (Int×PyData)}{Q E:ag->aw->Prop}{p:Int}{ds ws:List PyData}{α κ:Type}{mp:List (Option Nat)}{d:PyData}{s:aw}{x qual:Str}{us its:List ag}{mg mA:Str->Option ag}{D:(Str->Option ag)->eh->Prop}{w:cx}{ns ks L:List Int}{A:c4}{pos:Pos}{u oc:ag}{N NX:List Str}{o:Obj}{osl:Array (Option ag)}{h base h':eh}{pl:Sem Bool}{pr:Int×Int}{b bt:Bool}{T:String}{scope:hU}{es:Array (Int×ag)}{l:PySem.W.OpenLaw}{rs:List (List Int)}{e tg:ek}{M:Model}{QQ:Fin->aw->Prop}{ch fp:List ar}{fd:eI}{I:Nat->List PyData->Prop}{use:Option (ag->Sem Unit)}{g':Array oi}{outer:List Env}{it:Nat->PyData->Prop}{env:Env}{cells:List (Str×ar)}{d':Drawn}{ha:Nat->Int}{items:Array ag}
namespace PySem.W.Fast
def tw14411297401025540334:=Nat
def tw3931283435399178675:=Nat
def tw12168588349948365099:=Nat
def tw15036725265214844993:=Nat
def tw15764749353283661891:=Nat
def tw841524803555091991:=Nat
def tw10942419580294351891:=Nat
def tw17742444602641997485:=Nat
def tw14102614678502516939:=Nat
def tw16175537128559305646:=Nat
def tw4202090346076121259:=Nat
def tw3838678080420153366:=Nat
def tw12205643701986664760:=Nat
def tw12238446389491935932:=Nat
def tw17198680534423304492:=Nat
def tw11244127774550688237:=Nat
def tw9345657624945670536:=Nat
def tw15066483456048713029:=Nat
def tw1131213195518124742:=Nat
def tw10566445770837813493:=Nat
def tw17628558153190111532:=Nat
def tw4576321507338372217:=Nat
def tw12085256608117410745:=Nat
def tw16091310749308666984:=Nat
def tw4910947722163992786:=Nat
def tw4271733730288867351:=Nat
def tw3172345351221943249:=Nat
def tw15919203135343614677:=Nat
def tw5626133186878169061:=Nat
def tw9206922753735865266:=Nat
def tw11648209766738086788:=Nat
def tw8962483152458493799:=Nat
def tw1610407844513053580:=Nat
def tw7024950044284513740:=Nat
def tw6155728275730746877:=Nat
def tw9206680567696633586:=Nat
def tw5956668977103534812:=Nat
def tw14369069572317809857:=Nat
def tw14233835715116318330:=Nat
def tw1128220748618781911:=Nat
def tw15279215398584814415:=Nat
def tw7310923782166933981:=Nat
def tw12323009438255579199:=Nat
def tw13861598828770233256:=Nat
def tw1638719274708842877:=Nat
def tw16300110815499380513:=Nat
def tw5731319822320178283:=Nat
def tw9057808106784062682:=Nat
def tw7687594945052938844:=Nat
def tw2767912334219536479:=Nat
def tw16958935623071271957:=Nat
def tw522021770301469114:=Nat
def tw1436361168326824781:=Nat
def tw9498204796335554827:=Nat
def tw18174016221152034611:=Nat
def tw13575346770158996815:=Nat
def tw2599793583427550443:=Nat
def tw5780585986021928388:=Nat
def tw13599521882197142783:=Nat
def tw16205184076969422091:=Nat
def tw3720995257535386018:=Nat
def tw10336744237061022893:=Nat
def tw4487632566579719036:=Nat
def tw5052435591083373427:=Nat
def tw15522913552164347071:=Nat
def tw6964492155827284253:=Nat
def tw15851984506286960963:=Nat
def tw2762315970479184877:=Nat
def tw7988839962442850104:=Nat
def tw6060912913857440957:=Nat
def tw7500587733206252073:=Nat
def tw2114866456295373661:=Nat
def tw4064086807140238271:=Nat
def tw5055198012966032201:=Nat
def tw8359342119247266871:=Nat
def tw8623950057880088636:=Nat
def tw6530408147625849332:=Nat
def tw6158981010332710076:=Nat
def tw4679816771479856086:=Nat
def tw14308515389159650099:=Nat
def tw2675488482403477839:=Nat
def tw6236587288453483754:=Nat
def tw5691251030677438945:=Nat
def tw16995098142109981500:=Nat
def tw9702989442634905988:=Nat
def tw12019688130478517917:=Nat
def tw11820833666368768718:=Nat
def tw1361429395640554783:=Nat
def tw17290440537785371968:=Nat
def tw16872201713442159476:=Nat
def tw13066058667680478654:=Nat
def tw16518862884146757201:=Nat
def tw15531202452605504409:=Nat
def tw9316477309753687852:=Nat
def tw9875997194094633536:=Nat
def tw10303764817373818205:=Nat
def tw4190965764686509639:=Nat
def tw16294977633422658415:=Nat
def tw12563050228895006057:=Nat
def tw7295397195825238975:=Nat
def tw4419595344480906253:=Nat
def tw9886425565174580428:=Nat
def tw10604759049438575944:=Nat
def tw16009201738268375102:=Nat
def tw1719205631744719287:=Nat
def tw14102241938617968636:=Nat
def tw16452202472692236196:=Nat
def tw4539934085009693239:=Nat
def tw10242409262641471309:=Nat
def tw4033012277734579123:=Nat
def tw9252102780361767091:=Nat
def tw9106291774565151107:=Nat
def tw3023528803410830569:=Nat
def tw9945161165007272853:=Nat
def tw15656378626682939508:=Nat
def tw13608943363506571452:=Nat
def tw15824759836202281700:=Nat
def tw11140308350759119101:=Nat
def tw10670694075212240118:=Nat
def tw13886723150053338208:=Nat
def tw8870130423509013896:=Nat
def tw1670784781335287534:=Nat
def tw1931055454751998425:=Nat
def tw11352196268368129831:=Nat
def tw16783380225300624562:=Nat
def tw237906865335337721:=Nat
def tw6149278732280219963:=Nat
def tw16402555543093039306:=Nat
def tw13490738667106125197:=Nat
def tw15423933948855031979:=Nat
def tw5400395731358859540:=Nat
def tw17351322447710577673:=Nat
def tw11443414985821478061:=Nat
def tw18110512510102429842:=Nat
def tw11657128090115103976:=Nat
def tw9540764376111028264:=Nat
def tw12535350596172615243:=Nat
def tw12815072229470083603:=Nat
def tw12168939519119518987:=Nat
def tw7823708944896826220:=Nat
def tw16139297807331969185:=Nat
def tw11874515958102582511:=Nat
def tw17240417549716508014:=Nat
def tw4488121171545566568:=Nat
def tw6873057534408590288:=Nat
def tw11746212893294487286:=Nat
def tw6194442151325584322:=Nat
def tw5173588023254833140:=Nat
def tw15619450872820112612:=Nat
def tw922179895674037650:=Nat
def tw1968767304117146297:=Nat
def tw18104488766554509725:=Nat
def tw4052266262506766907:=Nat
def tw1368289128091310436:=Nat
def tw10038428466541982908:=Nat
def tw2669453249272783188:=Nat
def tw14830039367467767273:=Nat
def tw12105820663972713414:=Nat
def tw568075988566146472:=Nat
def tw12732407738124171425:=Nat
def tw1722719317952132037:=Nat
def tw12477123821396328375:=Nat
def tw13258994985687563745:=Nat
def tw5254829269202400312:=Nat
def tw8443792441121139042:=Nat
def tw14052074394896821061:=Nat
def tw3082576829916234855:=Nat
def tw4151208006581632101:=Nat
def tw13852630659532343686:=Nat
def tw14097664600664647664:=Nat
def tw10748938522051095105:=Nat
def tw16357230702772027063:=Nat
def tw6419398763033552551:=Nat
def tw9558307373952983881:=Nat
def tw1541697242343838108:=Nat
def tw10793467181861987156:=Nat
def tw16336467715421741661:=Nat
def tw7666212710201355854:=Nat
def tw17456532704312455773:=Nat
def tw1067730369907823929:=Nat
def tw6208165614548090344:=Nat
def tw16376225959040802860:=Nat
def tw17973313832794138644:=Nat
def tw11549545135389404768:=Nat
def tw12506311396325035972:=Nat
def tw16884548523384311735:=Nat
def tw17747899254316979530:=Nat
def tw17889701895163115125:=Nat
def tw6649610660600676958:=Nat
def tw17253177309564924779:=Nat
def tw17950001082062101202:=Nat
def tw3940736782085656881:=Nat
def tw8778306056436632228:=Nat
def tw9400554288109569990:=Nat
def tw18138100496176460092:=Nat
def tw1378414856104236919:=Nat
def tw15821937208560567348:=Nat
def tw7534861205213836051:=Nat
def tw6666818219329304362:=Nat
def tw14974922139286456189:=Nat
def tw17578055232642627514:=Nat
def tw6180976327623287273:=Nat
def tw6548633231021567301:=Nat
def tw1726295977796520494:=Nat
def tw14372171555202296490:=Nat
def tw4920201458618022746:=Nat
def tw11271050028104163208:=Nat
def tw11968869962597286548:=Nat
def tw861348948335256725:=Nat
def tw12271887987054293589:=Nat
def tw17582475332300573447:=Nat
def tw14266774592535310925:=Nat
def tw7269536207144823921:=Nat
def tw15922208310598338106:=Nat
def tw6881807040973504643:=Nat
def tw12137356220337912477:=Nat
def tw18394972238527474281:=Nat
def tw13068160184392711204:=Nat
def tw17078049501067173718:=Nat
def tw14084325578354721355:=Nat
def tw11653684995146353454:=Nat
def tw11043151799039139116:=Nat
def tw16081664825859600316:=Nat
def tw14295049231219720857:=Nat
def tw3739481304677726005:=Nat
def tw15606500319551951598:=Nat
def tw10130637535847202053:=Nat
def tw11390109017838172461:=Nat
end PySem.W.Fast
namespace L2
noncomputable abbrev Key:=Sum Int Str
noncomputable def tG:Key->ag->Bool
 | .inl k,v=>uN k v
 | .inr x,v=>si x v
noncomputable def N0(w:cx):Key->Int
 | .inl k=>hashInt k
 | .inr x=>hashStr w x
def pe:∀{k:Key} {v:ag},tG k v=true->(∃i t,k=cZ i/\v=gd i t)\/(∃x t,k=lh x/\v=hG x t)
  | .inl i, v, h => by
    obtain⟨t,e⟩:=xW (k:=i) (v:=v) h;exact .inl ⟨i,t,rfl,e⟩
  | .inr x, v, h => by
    obtain⟨t,e⟩:=i4 (x:=x) (v:=v) h;exact .inr ⟨x,t,rfl,e⟩
def FW(i:Int)(t:Tok):tG (.inl i) (.int i t)=true:=by simp[tG,uN]
def X2(x:Str)(t:Tok):tG (.inr x) (.str x t)=true:=by simp[tG,si]
def VX(a b:Int):decide ((cZ a:Key)=cZ b)=(a==b):=by
 by_cases e:a=b;·subst e;simp
 .have h:¬(cZ a:Key)=cZ b:=λq=>e (E1 q);rw[decide_eq_false h];exact(beq_eq_false_iff_ne.mpr e).symm
def Wn(a b:Str):decide ((lh a:Key)=lh b)=decide (a=b):=by
 by_cases e:a=b;·subst e;simp
 .have h:¬(lh a:Key)=lh b:=λq=>e (Sum.inr.inj q);rw[decide_eq_false h,decide_eq_false e]
def Ol(a:Int)(b:Str):decide ((cZ a:Key)=lh b)=false:=decide_eq_false (λq=>nomatch q)
def We(a:Str)(b:Int):decide ((lh a:Key)=cZ b)=false:=decide_eq_false (λq=>nomatch q)
noncomputable def iy(prog:bo)(w:cx):PySem.KeyKind prog w Key where
 is:=tG
 hash:=N0 w
 inj:=λv a b ha hb=>by
  rcases pe ha with ⟨i,t,rfl,rfl⟩|⟨x,t,rfl,rfl⟩
  .rcases pe hb with ⟨j,u,rfl,e⟩|⟨y,u,rfl,e⟩
   .injection e with e1 _;rw[e1]
   .exact nomatch e
  .rcases pe hb with ⟨j,u,rfl,e⟩|⟨y,u,rfl,e⟩
   .exact nomatch e
   .injection e with e1 _;rw[e1]
 byValue:=λk v h=>by
  rcases pe h with ⟨i,t,rfl,rfl⟩|⟨x,t,rfl,rfl⟩<;>rfl
 pyHash:=λhv h=>by
  rcases pe hv with ⟨i,t,rfl,rfl⟩|⟨x,t,rfl,rfl⟩
  .exact wpAny_pyHash_int h
  .exact wpAny_pyHash_str h
 eqBool:=λY hv h=>by
  rcases pe Y with ⟨i,t,rfl,rfl⟩|⟨x,t,rfl,rfl⟩
  .rcases pe hv with ⟨j,u,rfl,rfl⟩|⟨y,u,rfl,rfl⟩
   .rw[VX] at h;exact wpAny_eqBool_int h
   .rw[Ol] at h;exact vN i t y u _ _ _ _ h
  .rcases pe hv with ⟨j,u,rfl,rfl⟩|⟨y,u,rfl,rfl⟩
   .rw[We] at h;exact vT x t j u _ _ _ _ h
   .rw[Wn] at h;exact wpAny_eqBool_str h
 «strs» :=λk x t v h=>by
  rcases pe h with ⟨i,u,rfl,e⟩|⟨y,u,rfl,e⟩
  .exact nomatch e
  .injection e with e1 _
   subst e1
   cases v<;>rfl
def Wg(prog:bo)(w:cx)(i:Int)(t:Tok):(iy prog w).is (.inl i) (.int i t)=true:=FW i t
def x5(prog:bo)(w:cx)(x:Str)(t:Tok):(iy prog w).is (.inr x) (.str x t)=true:=X2 x t
inductive V where
 |aN|bl (b:Bool)|int (i:Int)|str (x:Str)|kX (b:Array UInt8)|nI (b:UInt64)|ref (a:ar)|ty (n:String)
 deriving DecidableEq
def RelV:V->ag->Prop
 | .aN,u=>u=fo
 | .bl b,u=>u=ix b
 | .int i,u=>∃t,u=gd i t
 | .str x,u=>∃t,u=hG x t
 | .kX b,u=>∃t,u=uZ b t
 | .nI b,u=>∃t,u=ot b t
 | .ref a,u=>u=cc a
 | .ty n,u=>u=ea n
abbrev Vals:List V->List ag->Prop:=Paired RelV
theorem Vals.length{xs:List V}{us:List ag}(r:Vals xs us):xs.length=us.length:=Paired.length r
theorem Vals.get:∀{xs:List V} {us:List ag} {i:Nat} {x:V},Vals xs us->xs[i]?=some x->∃u,us[i]?=some u/\RelV x u
  |_,_,_,_, .nil,e=>by simp at e
  |_,_,0,_, .cons r _,e=>by simp at e;subst e;exact⟨_,rfl,r⟩
  | _, _, i + 1, x, .cons _ t, e => by
    obtain⟨u,h1,h2⟩:=Vals.get (i:=i) (x:=x) t (by simpa using e);exact⟨u,by simpa using h1,h2⟩
theorem Vals.set{x:V}{u:ag}(r:RelV x u):∀{xs:List V} {us:List ag} (i:Nat),Vals xs us->Vals (xs.set i x) (us.set i u)
 |_,_,_, .nil=> .nil
 |_,_,0, .cons _ t=> .cons r t
 |_,_,i+1, .cons q t=> .cons q (Vals.set r i t)
theorem Vals.append:∀{xs ys:List V} {us ws:List ag},Vals xs us->Vals ys ws->Vals (xs++ys) (us++ws)
 |_,_,_,_, .nil,s=>s
 |_,_,_,_, .cons r t,s=> .cons r (Vals.append t s)
theorem Vals.take:∀{xs:List V} {us:List ag} (n:Nat),Vals xs us->Vals (xs.take n) (us.take n)
 |_,_,0,_=> .nil
 |_,_,_+1, .nil=> .nil
 |_,_,n+1, .cons r t=> .cons r (Vals.take n t)
theorem Vals.drop:∀{xs:List V} {us:List ag} (n:Nat),Vals xs us->Vals (xs.drop n) (us.drop n)
 |_,_,0,r=>r
 |_,_,_+1, .nil=> .nil
 |_,_,n+1, .cons _ t=>Vals.drop n t
def i8:Option V->Option ag->Prop
 |some v,some u=>RelV v u
 |none,none=>True
 |_,_=>False
def KV:List (κ×V)->List (κ×ag)->Prop:=Paired λ(p:κ×V) (q:κ×ag)=>p.1=q.1/\RelV p.2 q.2
noncomputable def kV:Key->V
 | .inl i=> .int i
 | .inr x=> .str x
inductive HO where
  |lst (xs:List V)
  |tup (xs:List V)
  |dK (kvs:List (Key×V))|dT (kvs:List (List Key×V))
  |set (S:Int->Bool) (n:Nat)
  |ins (C dx:ar) (fs:List (Str×V))
  |own (x:ar)
  |xd (fs:List (Str×V))
  |met (f x:ar)
  |p8 (lo hi:Int)
  |cC (o:Obj) (u:HO)
  |qH (ps:Array ag)
  |ext (φ:eh->Prop)
noncomputable abbrev Hp:=ar->Option HO
noncomputable def upd(H:Hp)(a:ar)(o:HO):Hp:=λb=>if b=a then some o else H b
def aV{H:Hp}{o:HO}:upd H a o a=some o:=by unfold upd;rw[if_pos rfl]
def aG{H:Hp}{b:ar}{o:HO}(h:b≠a):upd H a o b=H b:=by unfold upd;rw[if_neg h]
def G0{H:Hp}{o u:HO}:upd (upd H a o) a u=upd H a u:=by
 funext b;unfold upd;split<;>rfl
def jW{H:Hp}{b:ar}{o:HO}(h:H a=some o)(h':H b=none):a≠b:=by
 intro e;subst e;rw[h] at h';cases h'
section
variable(P:bo)(w:cx)
def dJ(H:Hp)(h:eh)(a:ar):HO->Prop
 | .lst xs=>xs.length<=sizeLine/\∃(its:List ag) (n:Nat),Vals xs its/\h.get? a=some {cls:= .type "list",data:= .seq its.toArray n}
 | .tup xs=>xs.length<=sizeLine/\∃its:List ag,Vals xs its/\IsTup h a its.toArray
 | .dK kvs=>kvs.length<=sizeLine/\(a==eD)=false/\∃vs,KV kvs vs/\h.DictOf (iy P w) a vs
 | .dT kvs => kvs.length <= sizeLine /\ (a == sysModules) = false /\ ∃ xs : List (List Key × Addr × Value),
   Paired (λ(p:List Key×V) (q:List Key×ar×ag)=>p.1=q.1/\H q.2.1=some (.tup (p.1.map kV))/\RelV p.2 q.2.2) kvs xs/\
   ∃o es ep,h.get? a=some o/\o.ExactDict/\o.data= .dict es ep/\es.toList=xs.map (entryOfKey (ox (iy P w)))/\(xs.map (·.1)).Nodup
 | .set S n=>h.SetOf (intKind P w) a S n
 | .ins C dx fs => H dx = some (.own a) /\ fs.length <= 1000 /\ dx ≠ a /\ h.get? a = some (PySem.W.instObj C dx) /\
   ∃mA,h.Ns1 dx mA/\(∀f,i8 (fs.lookup f) (mA f))/\PySem.Within mA (fs.map (·.1))
 | .own _=>∃o,h.get? a=some o
 | .xd fs=>∃mA,h.Ns1 a mA/\∀f,i8 (fs.lookup f) (mA f)
 | .p8 lo hi=>∃t u v,h.get? a=some {cls:= .type "range",data:= .fields #[.int lo t, .int hi u, .int 1 v]}
 | .cC o u=>h.get? a=some o/\dJ H h a u
 | .qH ps=>h.get? a=some {cls:= .none,data:= .fields ps}
 | .met f x=>h.get? a=some (PySem.W.methodObj (.ref f) (.ref x))
 | .ext φ=>φ h/\(∃o,h.get? a=some o)/\∀h1 h2:eh,φ h1->(∀o,h1.get? a=some o->h2.get? a=some o)->φ h2
def ff(H:Hp)(h:eh):Prop:=∀a o,H a=some o->dJ P w H h a o
end
section
variable{P:bo}{w:cx}{H H':Hp}{h h':eh}{a:ar}{o:HO}
theorem dJ.lt(x:dJ P w H h a o):a<h.objs.size:=by
 cases o with
 |lst xs=>obtain⟨_,_,_,_,e⟩:=x;exact cT e
 |tup xs=>obtain⟨_,_,_,p⟩:=x;exact p.lt
 |dK kvs=>obtain⟨_,_,_,_,o,_,_,e,_⟩:=x;exact cT e
 |dT kvs=>obtain⟨_,_,_,_,o,_,_,e,_⟩:=x;exact cT e
 |set S n=>obtain⟨o,_,_,_,e,_⟩:=x;exact cT e
 |ins C dx fs=>obtain⟨_,_,_,e,_⟩:=x;exact cT e
 |own y=>obtain⟨_,e⟩:=x;exact cT e
 |xd fs=>obtain⟨_,⟨_,_,_,e,_⟩,_⟩:=x;exact cT e
 |p8 lo hi=>obtain⟨_,_,_,e⟩:=x;exact cT e
 |cC B u=>obtain⟨e,_⟩:=x;exact cT e
 |qH ps=>exact cT (show h.get? a=some _ from x)
 |met f y=>exact cT (show h.get? a=some _ from x)
 |ext φ=>obtain⟨_,⟨_,e⟩,_⟩:=x;exact cT e
theorem Paired.LM{α g:Type}{F G:α->g->Prop}:∀{l₁:List α} {l₂:List g},Paired F l₁ l₂->(∀a b,F a b->G a b)->Paired G l₁ l₂
 |_,_, .nil,_=> .nil
 |_,_, .cons r t,f=> .cons (f _ _ r) (Paired.LM t f)
def dJ.stay(x:dJ P w H h a o)(k:∀b u,(b=a\/H b=some (.own a))->h.get? b=some u->h'.get? b=some u)
    (U:∀b,H b=some (.own a)->H' b=some (.own a)) (ht:∀b xs,H b=some (.tup xs)->H' b=some (.tup xs)):dJ P w H' h' a o:=by
  induction o with
  |lst xs=>obtain⟨z,its,n,r,e⟩:=x;exact⟨z,its,n,r,k _ _ (.inl rfl) e⟩
  |tup xs=>obtain⟨z,its,r,B,e,c⟩:=x;exact⟨z,its,r,B,k _ _ (.inl rfl) e,c⟩
  |dK kvs=>obtain⟨z,y,vs,r,B,es,ep,e,c⟩:=x;exact⟨z,y,vs,r,B,es,ep,k _ _ (.inl rfl) e,c⟩
  | dT kvs =>
    obtain⟨z,y,xs,r,B,es,ep,e,c⟩:=x;exact⟨z,y,xs,Paired.LM r λp q z=>⟨z.1,ht _ _ z.2.1,z.2.2⟩,B,es,ep,k _ _ (.inl rfl) e,c⟩
  |set S n=>obtain⟨B,es,ep,t,e,c⟩:=x;exact⟨B,es,ep,t,k _ _ (.inl rfl) e,c⟩
  | ins C dx fs =>
    obtain⟨d,z,ne,e,mA,⟨od,es,ep,e2,c⟩,r⟩:=x;exact⟨U _ d,z,ne,k _ _ (.inl rfl) e,mA,⟨od,es,ep,k _ _ (.inr d) e2,c⟩,r⟩
  |own y=>obtain⟨B,e⟩:=x;exact⟨B,k _ _ (.inl rfl) e⟩
  |xd fs=>obtain⟨mA,⟨od,es,ep,e,c⟩,r⟩:=x;exact⟨mA,⟨od,es,ep,k _ _ (.inl rfl) e,c⟩,r⟩
  |p8 lo hi=>obtain⟨t,u,v,e⟩:=x;exact⟨t,u,v,k _ _ (.inl rfl) e⟩
  |cC B u ih=>obtain⟨e,q⟩:=x;exact⟨k _ _ (.inl rfl) e,ih q⟩
  | qH ps =>
    have e:h.get? a=some {cls:= .none,data:= .fields ps}:=x;show h'.get? a=some {cls:= .none,data:= .fields ps};exact k a _ (.inl rfl) e
  | met f y =>
    have e:h.get? a=some (PySem.W.methodObj (.ref f) (.ref y)):=x;show h'.get? a=some (PySem.W.methodObj (.ref f) (.ref y));exact k a _ (.inl rfl) e
  |ext φ=>obtain⟨p,⟨o,e⟩,st⟩:=x;exact⟨st _ _ p λo q=>k _ _ (.inl rfl) q,⟨o,k _ _ (.inl rfl) e⟩,st⟩
theorem ff.lt(x:ff P w H h)(e:H a=some o):a<h.objs.size:=(x a o e).lt
def ff.fresh(x:ff P w H h)(e:h.objs.size<=a):H a=none:=by
 cases q:H a with
 |none=>rfl
 |some u=>exact absurd (fX (x.lt q) e) (lg _)
def ff.kept(x:ff P w H h)(k:∀b u,h.get? b=some u->h'.get? b=some u):ff P w H h':=λa o e=>
 (x a o e).stay (λb u _ q=>k b u q) (λ_ q=>q) λ_ _ q=>q
def ff.laid(x:ff P w H h)(k:∀b u,h.get? b=some u->h'.get? b=some u)(hp:h.objs.size<=a)(new:dJ P w (upd H a o) h' a o):ff P w (upd H a o) h':=λb u e=>by
 have hn:=x.fresh hp;by_cases hb:b=a;·subst hb;rw[aV] at e;cases e;exact new
 .rw[aG hb] at e;exact(x b u e).stay (λc v _ q=>k c v q) (λc q=>by rw[aG (jW q hn)];exact q) λc xs q=>by rw[aG (jW q hn)];exact q
end
def Rd(H:Hp)(a:ar)(u:HO):Prop:=H a=some u\/∃o,H a=some (.cC o u)
def Rd.ok{P:bo}{H:Hp}{u:HO}(r:Rd H a u)(x:ff P w H h):dJ P w H h a u:=by
 rcases r with r|⟨o,r⟩
 .exact x a u r
 .obtain⟨_,q⟩:=x a _ r;exact q
def wN:Option HO->Prop
 |some (.lst _)=>True
 |some (.dK _)=>True
 |some (.dT _)=>True
 |some (.set _ _)=>True
 |some (.ins _ _ _)=>True
 |some (.ext _)=>True
 |_=>False
section
variable{P:bo}{w:cx}{H:Hp}{h h':eh}{x e:ar}{o':HO}
def ff.write(ok:ff P w H h)(d:wN (H x))(he:e=x\/H e=some (.own x))(k:∀b u,b≠e->h.get? b=some u->h'.get? b=some u)(f:∃u,h'.get? e=some u)
  (new:dJ P w (upd H x o') h' x o'):ff P w (upd H x o') h':=λb u q=>by
 have i:∀c y,H c=some (.own y)->c≠x:=λc y r z=>by subst z;rw[r] at d;exact d
 have g:∀c xs,H c=some (.tup xs)->c≠x:=λc xs r z=>by subst z;rw[r] at d;exact d
 by_cases hb:b=x;·subst hb;rw[aV] at q;cases q;exact new
 .rw[aG hb] at q;by_cases a:b=e
  .have D:H b=some (.own x):=by
    rcases he with z|z
    .exact absurd (a.trans z) hb
    .rw[a];exact z
   rw[q] at D;cases D
   obtain⟨v,hv⟩:=f;exact⟨v,by rw[a];exact hv⟩
  .refine(ok b u q).stay (λc v hc r=>k c v ?_ r) (λc r=>by rw[aG (i c b r)];exact r) λc xs r=>by rw[aG (g c xs r)];exact r
   rcases hc with rfl|hc
   .exact a
   .rintro rfl;rcases he with z|z
    .exact i c b hc z
    .rw[hc] at z;cases z;exact hb rfl
end
structure Un(fs ex:List ar)(H H':Hp)(h h':eh):Prop where
 keep:∀b o,h.get? b=some o->H b=none->b∉fs->b∉ex->h'.get? b=some o
 slot:∀b o,h.get? b=some o->H b=none->b∈fs->b∉ex->∃sl,h'.get? b=some {o with slots:=sl}
 free:∀b o,h.get? b=some o->H b=none->b∉ex->H' b=none
 there:∀b o,h.get? b=some o->b∉ex->∃o',h'.get? b=some o'
 tups:∀b xs,H b=some (.tup xs)->H' b=some (.tup xs)
 mP:∀b o u,H b=some (.cC o u)->H' b=some (.cC o u)
 n5:∀b ps,H b=some (.qH ps)->∃more,H' b=some (.qH (ps++more))
section
variable{fs fs' ex ex':List ar}{H H1 H2:Hp}{h h1 h2 h':eh}{a x e:ar}{o:HO}
def Un.any(u:Un fs ex H H1 h h1){b:ar}{B:Obj}(q:h.get? b=some B)(n:H b=none)(hx:b∉ex):∃sl,h1.get? b=some {B with slots:=sl}:=by
 by_cases hb:b∈fs;·exact u.slot b B q n hb hx
 .exact⟨B.slots,u.keep b B q n hb hx⟩
def Un.kept(k:∀b u,h.get? b=some u->h'.get? b=some u):Un fs ex H H h h':=
 ⟨λb B q _ _ _=>k b B q,λb B q _ _ _=>⟨B.slots,k b B q⟩,λ_ _ _ n _=>n,λb B q _=>⟨B,k b B q⟩,λ_ _ q=>q,λ_ _ _ q=>q,λ_ ps q=>⟨#[],by rw[q];simp⟩⟩
def Un.refl:Un fs ex H H h h:=Un.kept λ_ _ q=>q
def Un.laid(k:∀b u,h.get? b=some u->h'.get? b=some u)(hp:h.objs.size<=a)(hn:H a=none):Un fs ex H (upd H a o) h h' where
 keep:=λb u q _ _ _=>k b u q
 slot:=λb u q _ _ _=>⟨u.slots,k b u q⟩
 free:=λb u q n _=>by rw[aG (fM (fX (cT q) hp))];exact n
 there:=λb u q _=>⟨u,k b u q⟩
 tups:=λb xs q=>by rw[aG (jW q hn)];exact q
 mP:=λb u xs q=>by rw[aG (jW q hn)];exact q
 n5:=λb ps q=>⟨#[],by rw[aG (jW q hn),q];simp⟩
def Un.write(d:wN (H x))(he:e=x\/H e=some (.own x))(k:∀b u,b≠e->h.get? b=some u->h'.get? b=some u)(f:∃u,h'.get? e=some u):Un fs ex H (upd H x o) h h':=by
 have hx:∀b,H b=none->b≠x:=λb n z=>by subst z;rw[n] at d;exact d
 have hb:∀b,H b=none->b≠e:=λb n z=>by
  subst z;rcases he with r|r
  .exact hx b n r
  .rw[n] at r;cases r
 have hm:∀b u,H b=some u->¬wN (some u)->b≠x:=λb u q nm z=>by subst z;rw[q] at d;exact nm d
 refine⟨λb u q n _ _=>k b u (hb b n) q,λb u q n _ _=>⟨u.slots,k b u (hb b n) q⟩,λb u q n _=>by rw[aG (hx b n)];exact n,λb u q _=>?_,
  λb xs q=>by rw[aG (hm b _ q λz=>z)];exact q,λb u xs q=>by rw[aG (hm b _ q λz=>z)];exact q,λb ps q=>⟨#[],by rw[aG (hm b _ q λz=>z),q];simp⟩⟩
 by_cases a:b=e;·subst a;exact f
 .exact⟨u,k b u a q⟩
end
noncomputable def DT(h:eh)(H:Hp):List ar:=(a4 h.objs.size).filter λa=>(H a).isSome
noncomputable def oY(h:eh)(H:Hp):eh:=PySem.W.hideAll h (DT h H)
def ZS(h:eh)(H:Hp):(oY h H).objs.size=h.objs.size:=PySem.W.hideAll_size _ _
def Zu{H:Hp}{b:ar}(e:h.get? b=some o)(n:H b=none):(oY h H).get? b=some o:=
 PySem.W.hideAll_get _ e λhm=>by
  have q:(H b).isSome=true:=(iN.mp hm).2;rw[n] at q;simp at q
def D2{H:Hp}{b:ar}(e:(oY h H).get? b=some o):h.get? b=some o/\H b=none:=by
  have e':h.get? b=some o:=PySem.W.of_hideAll (DT h H) e;refine⟨e',?_⟩;cases q:H b with
  |none=>rfl
  | some x =>
    have hm:b∈DT h H:=iN.mpr ⟨qW.mpr (cT e'),by simp[q]⟩;have z:(oY h H).get? b=none:=PySem.W.hideAll_none (DT h H) hm;rw[z] at e;cases e
noncomputable def ade(g h:eh)(L:ar):List (ar×Obj):=(a4 h.objs.size).filterMap λa=>if a=L\/(g.get? a).isSome=true then none else(h.get? a).map λo=>(a,o)
noncomputable def rest(g h:eh)(L d:ar):List (ar×Obj):=(ade g h L).filter λp=>decide (p.1≠d)
structure Mod(K:PySem.W.Frag)(mg:Str->Option ag)(base:eh):Prop where
 we:K.In base
 glob:base.Ns bc mg
 blt:∃mb,base.Ns rh mb/\∀x:Str,x≠"__name__" ->mb x=gq x
 nolimit:base.NoLimit
structure Cx where
 prog:bo
 w:cx
 K:PySem.W.Frag
 mg:Str->Option ag
 base:eh
 A:c4
 N:List Str
 s₀:aw
 H₀:Hp
 env:Env
 outer:List Env
 stack:List Env
 ex:List ar
 fn:Str->Bool
 calm:Bool
 pn:List (ar×Obj)
 xe:ag->aw->Prop
noncomputable def frs(l:List Env):List ar:=l.filterMap (·.frame)
noncomputable abbrev Cx.fs(X:Cx):List ar:=frs X.outer
def Eo(sc:hU)(x:Str):Prop:=sc.names.lookup x=some .local\/sc.names.lookup x=some .cell\/sc.names.lookup x=some .free
def Loc(sc:hU)(x:Str):Prop:=sc.names.lookup x=some .local\/sc.names.lookup x=some .cell
def Look(env:Env)(h:eh)(m:Str->Option ag)(x:Str)(u:ag):Prop:=
 (env.kindOf x=some .local/\m x=some u)\/((env.kindOf x=some .cell\/env.kindOf x=some .free)/\∃c,env.cells.lookup x=some c/\h.IsCell c (some u))
structure Cx.Ok(X:Cx):Prop where
 mod:Mod X.K X.mg X.base
 kind:X.env.scope.kind= .function
 glob:X.env.globals=bc
 blt:X.env.builtins=rh
 above:X.s₀.heap.objs.size<=X.env.locals
 inj:∀x y c,X.env.cells.lookup x=some c->X.env.cells.lookup y=some c->x=y
 has:∀x,(X.env.kindOf x=some .cell\/X.env.kindOf x=some .free)->∃c,X.env.cells.lookup x=some c
 uH:∀x c,X.fn x=true->X.env.cells.lookup x=some c->X.s₀.heap.objs.size<=c
 hd:X.calm=true->X.A.handled=none
 frames:X.A.frames=some X.stack
 stk:X.stack=X.outer\/(X.stack=X.env::X.outer/\X.env.frame=some X.env.locals)
 B4:∀b∈X.ex,b≠X.env.locals/\∀x c,X.env.cells.lookup x=some c->c≠b
 bs:∀b o,X.base.get? b=some o->X.s₀.heap.get? b=some o/\X.H₀ b=none
 pQ:X.base.objs.size<=X.s₀.heap.objs.size
 wm:∀b o,X.base.get? b=some o->b∉X.ex
 vZ:∀b∈X.ex,b∉X.fs
 lK:X.s₀.heap.FunFrames X.base X.outer
 qF:∀b∈X.fs,X.H₀ b=none
structure Inv(X:Cx)(pins:List (ar×Obj))(σ:List (Option V))(H:Hp)(s:aw):Prop where
 ok:X.Ok
 os:s.os=X.s₀.os
 bare:ik s.gens
 base:Un X.fs X.ex X.H₀ H X.s₀.heap s.heap
 loc:∃m,s.heap.Ns X.env.locals m/\∀(i:Nat) (x:Str) (v:V),X.N[i]?=some x->σ[i]?=some (some v)->Eo X.env.scope x->∃u,RelV v u/\Look X.env s.heap m x u
 cell:∀x c,X.env.cells.lookup x=some c->∃v,s.heap.IsCell c v
 free:H X.env.locals=none
 lH:∀x c,X.env.cells.lookup x=some c->H c=none
 pin:∀p∈X.pn++pins,s.heap.get? p.1=some p.2/\H p.1=none/\p.1≠X.env.locals/\p.1∉X.fs/\∀v,p.2.data≠ .cell v
 hok:ff X.prog X.w H s.heap
 len:σ.length=X.N.length
section
variable{X:Cx}{pins:List (ar×Obj)}{σ:List (Option V)}{H H':Hp}{s:aw}{h':eh}
def Cx.Ok.Yr(ok:X.Ok){b:ar}{o:Obj}(e:X.base.get? b=some o):b∉X.fs:=λhb=>by
 have:=(ok.lK.mem hb).1;rw[e] at this;cases this
theorem Inv.bs(I:Inv X pins σ H s):∀b o,X.base.get? b=some o->s.heap.get? b=some o/\H b=none:=λb o e=>
 ⟨I.base.keep b o (I.ok.bs b o e).1 (I.ok.bs b o e).2 (I.ok.Yr e) (I.ok.wm b o e),I.base.free b o (I.ok.bs b o e).1 (I.ok.bs b o e).2 (I.ok.wm b o e)⟩
def Inv.bk(I:Inv X pins σ H s):∀b o,X.base.get? b=some o->s.heap.get? b=some o:=λb o e=>(I.bs b o e).1
theorem Inv.mod(I:Inv X pins σ H s):Mod X.K X.mg X.base:=I.ok.mod
def Inv.eE(I:Inv X pins σ H s):X.K.In s.heap:=I.ok.mod.we.keeps I.bk
theorem Inv.lt(I:Inv X pins σ H s):X.env.locals<s.heap.objs.size:=let ⟨_,hn,_⟩:=I.loc;hn.lt
def Inv.sz(I:Inv X pins σ H s):X.s₀.heap.objs.size<=s.heap.objs.size:=cU I.ok.above (lV I.lt)
def Inv.Xp(I:Inv X pins σ H s){a:ar}(h:s.heap.objs.size<=a):a∉X.fs:=λhb=>by
 obtain⟨_,o,U,_⟩:=I.ok.lK.mem hb;exact absurd (fX (cT U) (cU I.sz h)) (lg _)
def Inv.qJ(I:Inv X pins σ H s):∀x c,X.env.cells.lookup x=some c->c≠X.env.locals:=λx c e z=>by
 obtain⟨v,o,U,hd⟩:=I.cell x c e;obtain⟨m,⟨o',es,ep,d,hd',_⟩,_⟩:=I.loc;rw[z,d] at U;cases U;rw[hd'] at hd;cases hd
theorem Inv.lK(I:Inv X pins σ H s):s.heap.FunFrames X.base X.outer:=by
  have all:∀(l:List Env),(∀b∈frs l,b∈X.fs)->X.s₀.heap.FunFrames X.base l->s.heap.FunFrames X.base l:=by
    intro l;induction l with
    |nil=>intro _ _;trivial
    | cons env r ih =>
      intro hs hl;obtain⟨hk,⟨L,o,hf,hn,U,hd⟩,hr⟩:=hl;have y:L∈X.fs:=hs L (by unfold frs;rw[lF,hf];exact bZ);obtain⟨sl,e⟩:=I.base.slot L o U (I.ok.qF L y) y λz=>I.ok.vZ L z y;exact⟨hk,⟨L,_,hf,hn,e,hd⟩,ih (λb hb=>hs b (by unfold frs;rw[lF,hf];exact bV _ hb)) hr⟩
  exact all X.outer (λ_ hb=>hb) I.ok.lK
theorem Inv.stack(I:Inv X pins σ H s):s.heap.FunFrames X.base X.stack:=by
 rcases I.ok.stk with e|⟨e,hf⟩
 .rw[e];exact I.lK
 .rw[e];obtain⟨m,hn,_⟩:=I.loc;refine .cons (by rw[I.ok.kind];decide) hf hn ?_ I.lK;exact Heap.get?_none_of_le (cU I.ok.pQ I.ok.above)
def Inv.Gi(I:Inv X pins σ H s):∀b∈frs X.stack,b∈X.env.locals::X.fs:=λb hb=>by
 rcases I.ok.stk with e|⟨e,hf⟩
 .rw[e] at hb;exact bV _ hb
 .rw[e] at hb;unfold frs at hb;rw[lF,hf] at hb;exact hb
def Inv.UG(I:Inv X pins σ H s):∀b∈frs X.stack,H b=none:=λb hb=>by
 rcases aM.mp (I.Gi b hb) with e|hb
 .rw[e];exact I.free
 .obtain⟨_,o,U,_⟩:=I.ok.lK.mem hb;exact I.base.free b o U (I.ok.qF b hb) λz=>I.ok.vZ b z hb
def Inv.step(I:Inv X pins σ H s)
  (a:∀b∈ch,(b∈X.ex\/X.s₀.heap.objs.size<=b)/\b≠X.env.locals/\(∀x c,X.env.cells.lookup x=some c->c≠b)/\∀p∈X.pn++pins,p.1≠b)
  (keep:∀b o,b≠X.env.locals->b∉X.fs->b∉ch->s.heap.get? b=some o->H b=none->h'.get? b=some o)
  (slot:∀b o,b≠X.env.locals->b∈X.fs->b∉ch->s.heap.get? b=some o->H b=none->∃sl,h'.get? b=some {o with slots:=sl}) (free:∀b o,b∉ch->s.heap.get? b=some o->H b=none->H' b=none)
  (there:∀b o,b∉ch->s.heap.get? b=some o->∃o',h'.get? b=some o')
  (tups:∀b xs,H b=some (.tup xs)->H' b=some (.tup xs)) (mP:∀b o u,H b=some (.cC o u)->H' b=some (.cC o u)) (n5:∀b ps,H b=some (.qH ps)->∃more,H' b=some (.qH (ps++more)))
  (ns:∀m,s.heap.Ns X.env.locals m->h'.Ns X.env.locals m) (hok:ff X.prog X.w H' h') (hg:ik g'):
  Inv X pins σ H' {s with heap:=h',gens:=g',drawn:=d',toks:=t'}:=by
 have t:∀b o,X.s₀.heap.get? b=some o->b≠X.env.locals:=λb o e=>fM (fX (cT e) I.ok.above);have h:∀b o,X.s₀.heap.get? b=some o->b∉X.ex->b∉ch:=λb o e hx hb=>by
  rcases(a b hb).1 with z|z
  .exact hx z
  .exact absurd (fX (cT e) z) (lg _)
 have f:∀x c,X.env.cells.lookup x=some c->∀v,s.heap.IsCell c v->h'.IsCell c v:=λx c e v ⟨o,U,hd⟩=>by
  have g:c∉ch:=λz=>(a c z).2.2.1 x c e rfl;by_cases hc:c∈X.fs
  .obtain⟨sl,q⟩:=slot c o (I.qJ x c e) hc g U (I.lH x c e);exact⟨_,q,hd⟩
  .exact⟨o,keep c o (I.qJ x c e) hc g U (I.lH x c e),hd⟩
 refine⟨I.ok,I.os,hg,⟨λb o e n hb hx=>?_,λb o e n hb hx=>?_,λb o e n hx=>?_,λb o e hx=>?_,λb xs e=>tups b xs (I.base.tups b xs e),λb o xs e=>mP b o xs (I.base.mP b o xs e),λb ps e=>?_⟩,?_,λx c e=>?_,?_,λx c e=>?_,λp hp=>?_,hok,I.len⟩;·exact keep b o (t b o e) hb (h b o e hx) (I.base.keep b o e n hb hx) (I.base.free b o e n hx)
 .obtain⟨sl,e1⟩:=I.base.slot b o e n hb hx;obtain⟨j,e2⟩:=slot b _ (t b o e) hb (h b o e hx) e1 (I.base.free b o e n hx);exact⟨j,e2⟩
 .obtain⟨o',e1⟩:=I.base.there b o e hx;exact free b o' (h b o e hx) e1 (I.base.free b o e n hx)
 .obtain⟨o',e1⟩:=I.base.there b o e hx;exact there b o' (h b o e hx) e1
 .obtain⟨m1,e1⟩:=I.base.n5 b ps e;obtain⟨m2,e2⟩:=n5 b _ e1;exact⟨m1++m2,by rw[e2,Array.append_assoc]⟩
 .obtain⟨m,hn,hl⟩:=I.loc;refine⟨m,ns m hn,λi x v e1 e2 e3=>?_⟩;obtain⟨u,r,l⟩:=hl i x v e1 e2 e3;refine⟨u,r,?_⟩;rcases l with l|⟨k,c,e,z⟩
  .exact .inl l
  .exact .inr ⟨k,c,e,f x c e _ z⟩
 .obtain⟨v,z⟩:=I.cell x c e;exact⟨v,f x c e v z⟩
 .obtain⟨m,⟨o,_,_,U,_⟩,_⟩:=I.loc;exact free _ o (λz=>(a _ z).2.1 rfl) U I.free
 .obtain⟨v,o,U,hd⟩:=I.cell x c e;exact free c o (λz=>(a c z).2.2.1 x c e rfl) U (I.lH x c e)
 .obtain⟨e,n,ne,J,d⟩:=I.pin p hp;have g:p.1∉ch:=λz=>(a p.1 z).2.2.2 p hp rfl;exact⟨keep p.1 p.2 ne J g e n,free p.1 p.2 g e n,ne,J,d⟩
def Inv.un(I:Inv X pins σ H s)(u:Un X.fs [] H H' s.heap h')(hok:ff X.prog X.w H' h'):Inv X pins σ H' {s with heap:=h',toks:=t'}:=by
 obtain⟨m,⟨o,es,ep,U,r⟩,_⟩:=id I.loc;obtain⟨sl,y⟩:=u.any U I.free (by simp)
 exact I.step (g':=s.gens) (d':=s.drawn) (ch:=[]) (λ_ z=>nomatch z) (λb o _ hb _ e n=>u.keep b o e n hb (by simp)) (λb o _ hb _ e n=>u.slot b o e n hb (by simp)) (λb o _ e n=>u.free b o e n (by simp)) (λb o _ e=>u.there b o e (by simp)) u.tups u.mP u.n5 (λR hm=>by
  obtain⟨o',es',f,d,r'⟩:=hm;rw[U] at d;cases d
  exact⟨_,es',f,y,r'⟩) hok I.bare
def Inv.call(I:Inv X pins σ H s)(u:Un (frs X.stack) ch H H' s.heap h')(hok:ff X.prog X.w H' h')(hg:ik g')
  (a:∀b∈ch,(b∈X.ex\/X.s₀.heap.objs.size<=b)/\b≠X.env.locals/\(∀x c,X.env.cells.lookup x=some c->c≠b)/\∀p∈X.pn++pins,p.1≠b):
  Inv X pins σ H' {s with heap:=h',gens:=g',drawn:=d',toks:=t'}:=by
 obtain⟨m,⟨o,es,ep,U,r⟩,_⟩:=id I.loc;obtain⟨sl,y⟩:=u.any U I.free λz=>(a _ z).2.1 rfl
 exact I.step (ch:=ch) a (λb o y hb hc e n=>u.keep b o e n (λz=>(aM.mp (I.Gi b z)).elim y hb) hc) (λb o _ _ hc e n=>u.any e n hc) (λb o hc e n=>u.free b o e n hc) (λb o hc e=>u.there b o e hc) u.tups u.mP u.n5 (λR hm=>by
  obtain⟨o',es',f,d,r'⟩:=hm;rw[U] at d;cases d
  exact⟨_,es',f,y,r'⟩) hok hg
def Inv.turned{it:ar}(I:Inv X pins σ H s)(k:∀b o,b≠it->s.heap.get? b=some o->h'.get? b=some o)(hn:H it=none)(y:it≠X.env.locals)
  (h1:it∈X.ex\/X.s₀.heap.objs.size<=it) (h2:∀x c,X.env.cells.lookup x=some c->c≠it) (h3:∀p∈X.pn++pins,p.1≠it):Inv X pins σ H {s with heap:=h',toks:=t'}:=by
 have a:∀b u,H b=some u->b≠it:=λb u e z=>by rw[z,hn] at e;cases e
 refine I.step (g':=s.gens) (d':=s.drawn) (ch:=[it]) (λb hb=>?_) (λb o _ _ hc e _=>k b o (λz=>hc (by simp[z])) e) (λb o _ _ hc e _=>⟨o.slots,k b o (λz=>hc (by simp[z])) e⟩) (λ_ _ _ _ n=>n)
  (λb o hc e=>⟨o,k b o (λz=>hc (by simp[z])) e⟩) (λ_ _ e=>e) (λ_ _ _ e=>e) (λb ps e=>⟨#[],by rw[e];simp⟩) (λm hm=>?_) (λb u e=>?_) I.bare
 .have e:b=it:=by simpa using hb
  subst e;exact⟨h1,y,h2,h3⟩
 .obtain⟨o,es,ep,U,r⟩:=hm;exact⟨o,es,ep,k _ o (cY y) U,r⟩
 .refine(I.hok b u e).stay (λc v hc q=>k c v ?_ q) (λ_ q=>q) λ_ _ q=>q;rcases hc with z|z
  .rw[z];exact a b u e
  .exact a c _ z
def Inv.tok(I:Inv X pins σ H s)(t:Nat):Inv X pins σ H {s with toks:=t}:=I.un (h':=s.heap) (t':=t) Un.refl I.hok
theorem Inv.kept{t':Nat}(I:Inv X pins σ H s)(k:∀b u,s.heap.get? b=some u->h'.get? b=some u):Inv X pins σ H {s with heap:=h',toks:=t'}:=I.un (Un.kept k) (I.hok.kept k)
theorem Inv.laid{a:ar}{o:HO}{t':Nat}(I:Inv X pins σ H s)(k:∀b u,s.heap.get? b=some u->h'.get? b=some u)(hp:s.heap.objs.size<=a)(new:dJ X.prog X.w (upd H a o) h' a o):
  Inv X pins σ (upd H a o) {s with heap:=h',toks:=t'}:=I.un (Un.laid k hp (I.hok.fresh hp)) (I.hok.laid k hp new)
theorem Inv.write{x e:ar}{o:HO}{t':Nat}(I:Inv X pins σ H s)(d:wN (H x))(he:e=x\/H e=some (.own x))(k:∀b u,b≠e->s.heap.get? b=some u->h'.get? b=some u)(f:∃u,h'.get? e=some u)
  (new:dJ X.prog X.w (upd H x o) h' x o):Inv X pins σ (upd H x o) {s with heap:=h',toks:=t'}:=I.un (Un.write d he k f) (I.hok.write d he k f new)
def Inv.SS{a:List (ar×Obj)}(I:Inv X pins σ H s)(h:∀p∈a,s.heap.get? p.1=some p.2/\H p.1=none/\p.1≠X.env.locals/\p.1∉X.fs/\∀v,p.2.data≠ .cell v):Inv X a σ H s:=
 ⟨I.ok,I.os,I.bare,I.base,I.loc,I.cell,I.free,I.lH,λp hp=>(fN.mp hp).elim (λz=>I.pin p (pR _ z)) (h p),I.hok,I.len⟩
def MO(hN:N.Nodup){i j:Nat}{x:Str}(a:N[i]?=some x)(b:N[j]?=some x):i=j:=by
 obtain⟨h1,e1⟩:=bH.mp a;obtain⟨h2,e2⟩:=bH.mp b;exact(List.getElem_inj hN).mp (e1.trans e2.symm)
def Pz{v:V}{Q:Unit->aw->Prop}(I:Inv X pins σ H s)(hN:X.N.Nodup)(hi:X.N[i]?=some x)(hx:Loc X.env.scope x)(r:RelV v u)
  (h:∀s',Inv X pins (σ.set i (some v)) H s'->(∃a,eu a s.heap s'.heap/\(a=X.env.locals\/X.env.cells.lookup x=some a))->Q () s') (hf:X.fn x=true\/X.env.scope.names.lookup x=some .local:=by first|exact .inl rfl|exact .inr rfl|assumption):wpAny M A (storeName X.env x u) Q E s:=by
 obtain⟨m,hn,hl⟩:=id I.loc;have F:(X.env.scope.kind== .class||(X.env.scope.kind== .module && X.env.locals !=X.env.globals))=false:=by rw[I.ok.kind];rfl
 have U:i<σ.length:=by rw[I.len];exact(bH.mp hi).1
 have qJ:=I.qJ;have g:∀{a:ar} {h':eh},(∃o,s.heap.get? a=some o/\H a=none)->eu a s.heap h'->ff X.prog X.w H h':=λ{a h'} ha hs b B e=>by
  obtain⟨_,_,f⟩:=ha;refine(I.hok b B e).stay (λc w' hc q=>(hs.2 c ?_).trans q) (λ_ q=>q) λ_ _ q=>q;rintro rfl;rcases hc with rfl|hc
  .rw[f] at e;cases e
  .rw[f] at hc;cases hc
 rcases hx with hk|hk
 .refine wpAny_storeName_local hk hn (λh' T hs=>?_) F;obtain⟨W,_,_,P,_⟩:=id hn;refine h _ ⟨I.ok,I.os,I.bare,⟨λb o e n hb hx=>?_,λb o e n hb hx=>?_,I.base.free,λb o e hx=>?_,I.base.tups,I.base.mP,I.base.n5⟩,⟨_,T,λj y S e1 e2 e3=>?_⟩,λy c e=>?_,I.free,I.lH,λp hp=>?_,g ⟨W,P,I.free⟩ hs,by simpa using I.len⟩ ⟨_,hs, .inl rfl⟩;·exact(hs.2 b (fM (fX (cT e) I.ok.above))).trans (I.base.keep b o e n hb hx)
  .obtain⟨sl,e1⟩:=I.base.slot b o e n hb hx;exact⟨sl,(hs.2 b (fM (fX (cT e) I.ok.above))).trans e1⟩
  .obtain⟨o',e1⟩:=I.base.there b o e hx;exact⟨o',(hs.2 b (fM (fX (cT e) I.ok.above))).trans e1⟩
  .by_cases O:j=i
   .subst O;rw[hi] at e1;cases e1
    rw[dB U] at e2;cases e2;exact⟨u,r, .inl ⟨hk,by simp⟩⟩
   .rw[bQ (cY O)] at e2;obtain⟨G,r',q⟩:=hl j y S e1 e2 e3;refine⟨G,r',?_⟩;rcases q with ⟨k,e⟩|⟨k,c,e,z⟩
    .refine .inl ⟨k,?_⟩;have:y≠x:=λe=>O (MO hN e1 (e▸hi));simp[this,e]
    .exact .inr ⟨k,c,e,z.sameBut hs (qJ y c e)⟩
  .obtain⟨w',z⟩:=I.cell y c e;exact⟨w',z.sameBut hs (qJ y c e)⟩
  .obtain⟨e,n,ne,J,d⟩:=I.pin p hp;exact⟨(hs.2 p.1 ne).trans e,n,ne,J,d⟩
 .have l:X.fn x=true:=by
   rcases hf with z|z
   .exact z
   .rw[z] at hk;cases hk
  obtain⟨c,hc⟩:=I.ok.has x (.inl hk);obtain⟨w',z⟩:=I.cell x c hc;refine wpAny_storeName_cell I.ok.kind hk hc z (λh' t hs=>?_);obtain⟨oc,C,R⟩:=id z;refine h {s with heap:=h'} ⟨I.ok,I.os,I.bare,⟨λb o e n hb hx=>?_,λb o e n hb hx=>?_,I.base.free,λb o e hx=>?_,I.base.tups,I.base.mP,I.base.n5⟩,⟨m,hn.sameBut hs (cY (qJ x c hc)),λj y S e1 e2 e3=>?_⟩,λy c' e=>?_,I.free,I.lH,λp hp=>?_,g ⟨oc,C,I.lH x c hc⟩ hs,by simpa using I.len⟩ ⟨c,hs, .inr hc⟩;·exact(hs.2 b (fM (fX (cT e) (I.ok.uH x c l hc)))).trans (I.base.keep b o e n hb hx)
  .obtain⟨sl,e1⟩:=I.base.slot b o e n hb hx;exact⟨sl,(hs.2 b (fM (fX (cT e) (I.ok.uH x c l hc)))).trans e1⟩
  .obtain⟨o',e1⟩:=I.base.there b o e hx;exact⟨o',(hs.2 b (fM (fX (cT e) (I.ok.uH x c l hc)))).trans e1⟩
  .by_cases O:j=i
   .subst O;rw[hi] at e1;cases e1
    rw[dB U] at e2;cases e2;exact⟨u,r, .inr ⟨.inl hk,c,hc,t⟩⟩
   .rw[bQ (cY O)] at e2;obtain⟨G,r',q⟩:=hl j y S e1 e2 e3;refine⟨G,r',?_⟩;rcases q with q|⟨k,c',e,z'⟩
    .exact .inl q
    .refine .inr ⟨k,c',e,z'.sameBut hs ?_⟩;rintro rfl;exact O (MO hN e1 (I.ok.inj _ _ _ e hc▸hi))
  .by_cases K:c'=c;·subst K;exact⟨_,t⟩
   .obtain⟨L,z2⟩:=I.cell y c' e;exact⟨L,z2.sameBut hs K⟩
  .obtain⟨e,n,ne,J,d⟩:=I.pin p hp;refine⟨(hs.2 p.1 ?_).trans e,n,ne,J,d⟩;intro q;rw[q,C] at e;have D:oc=p.2:=gz e;exact d w' (by rw[<-D];exact R)
def Rq{v:V}{Q:Unit->aw->Prop}(I:Inv X pins σ H s)(hN:X.N.Nodup)(hi:X.N[i]?=some x)(hx:Loc X.env.scope x)(r:RelV v u)
  (h:∀s',Inv X pins (σ.set i (some v)) H s'->Q () s') (hf:X.fn x=true\/X.env.scope.names.lookup x=some .local:=by first|exact .inl rfl|exact .inr rfl|assumption):wpAny M A (storeName X.env x u) Q E s:=
 Pz I hN hi hx r (λs' b _=>h s' b) hf
def Inv.WX{s':aw}(I:Inv X pins σ H s)(U:s'.os=s.os)(u:Un (frs X.stack) ch H H' s.heap s'.heap)(hok:ff X.prog X.w H' s'.heap)(hg:ik s'.gens)
  (a:∀b∈ch,(b∈X.ex\/X.s₀.heap.objs.size<=b)/\b≠X.env.locals/\(∀x c,X.env.cells.lookup x=some c->c≠b)/\∀p∈X.pn++pins,p.1≠b):Inv X pins σ H' s':=by
 obtain⟨h',g',d',t',o'⟩:=s';have e:o'=s.os:=U;subst e;exact I.call (g':=g') (t':=t') (d':=d') u hok hg a
end
abbrev XK:=ag->Option ar->Hp->Prop
noncomputable abbrev qr:=List (Option V)
abbrev VK:=V->Hp->Prop
abbrev TE:=qr->Hp->VK->Prop
abbrev TT:=qr->Hp->(Bool->Hp->Prop)->Prop
abbrev TA:=qr->Hp->(List V->Hp->Prop)->Prop
structure Ends where
 nx:qr->Hp->Prop
 rt:VK
 bk:qr->Hp->Prop:=λ_ _=>False
 ct:qr->Hp->Prop:=λ_ _=>False
abbrev TS:=Ends->qr->Hp->Prop
def EP(X:Cx)(pins:List (ar×Obj))(σ:qr)(Q:VK)(u:ag)(s':aw):Prop:=∃v H',Inv X pins σ H' s'/\RelV v u/\Q v H'
def TP(X:Cx)(pins:List (ar×Obj))(σ:qr)(Q:Bool->Hp->Prop)(b:Bool)(s':aw):Prop:=∃H',Inv X pins σ H' s'/\Q b H'
def AP(X:Cx)(pins:List (ar×Obj))(σ:qr)(Q:List V->Hp->Prop)(us:List ag)(s':aw):Prop:=∃vs H',Inv X pins σ H' s'/\Vals vs us/\Q vs H'
def SP(X:Cx)(pins:List (ar×Obj))(D:Ends)(f:Flow)(s':aw):Prop:=
 match f with
 | .next=>∃M H',Inv X pins M H' s'/\D.nx M H'
 | .brk=>∃M H',Inv X pins M H' s'/\D.bk M H'
 | .cont=>∃M H',Inv X pins M H' s'/\D.ct M H'
 | .ret u=>∃v M H',Inv X pins M H' s'/\RelV v u/\D.rt v H'
def PE(X:Cx)(e:ek)(t:TE):Prop:=
 ∀(pins:List (ar×Obj)) (s:aw) (σ:qr) (H:Hp) (Q:VK),Inv X pins σ H s->t σ H Q->wpAny (bj X.prog X.w) X.A (eval e X.env) (EP X pins σ Q) X.xe s
def PT(X:Cx)(e:ek)(t:TT):Prop:=
 ∀(pins:List (ar×Obj)) (s:aw) (σ:qr) (H:Hp) (Q:Bool->Hp->Prop),Inv X pins σ H s->t σ H Q->wpAny (bj X.prog X.w) X.A (isTrue e X.env (eval e X.env)) (TP X pins σ Q) X.xe s
def PW(X:Cx)(e:ek)(t:TT):Prop:=
 ∀(whole:Sem ag) (pins:List (ar×Obj)) (s:aw) (σ:qr) (H:Hp) (Q:Bool->Hp->Prop),Inv X pins σ H s->t σ H Q->wpAny (bj X.prog X.w) X.A (isTrue e X.env whole) (TP X pins σ Q) X.xe s
def PW.pt{X:Cx}{t:TT}(h:PW X e t):PT X e t:=h _
def PA(X:Cx)(es:List ek)(t:TA):Prop:=
 ∀(pos:Pos) (pins:List (ar×Obj)) (s:aw) (σ:qr) (H:Hp) (Q:List V->Hp->Prop),Inv X pins σ H s->t σ H Q->wpAny (bj X.prog X.w) X.A (spliced (fm pos (bp es X.env))) (AP X pins σ Q) X.xe s
def PS(X:Cx)(st:el)(t:TS):Prop:=
 ∀(pins:List (ar×Obj)) (s:aw) (σ:qr) (H:Hp) (D:Ends),Inv X pins σ H s->t D σ H->wpAny (bj X.prog X.w) X.A (exec st X.env) (SP X pins D) X.xe s
def lz(X:Cx)(st:List el)(t:TS):Prop:=
 ∀(pins:List (ar×Obj)) (s:aw) (σ:qr) (H:Hp) (D:Ends),Inv X pins σ H s->t D σ H->wpAny (bj X.prog X.w) X.A (execs st X.env) (SP X pins D) X.xe s
def aS{α:Type}{t:Sem α}{Q d:α->aw->Prop}(h:wpAny M A t Q E s)(J:∀a s,Q a s->d a s):wpAny M A t d E s:=eF h J λ_ _ x=>x
section
variable{X:Cx}
def bin{a b:ek}{ta tb:TE}(ha:PE X a ta)(hb:PE X b tb){pins:List (ar×Obj)}{s:aw}{σ:qr}{H:Hp}{R:V->V->Hp->Prop}(I:Inv X pins σ H s)(h:ta σ H λx H1=>tb σ H1 λy H2=>R x y H2)
  {α:Type} {Q:α->aw->Prop} {f:ag->ag->Sem α}
  (hf:∀v u s2 x y H2,Inv X pins σ H2 s2->RelV x v->RelV y u->R x y H2->wpAny (bj X.prog X.w) X.A (f v u) Q X.xe s2):
  wpAny (bj X.prog X.w) X.A (eval a X.env) (λv s₁=>wpAny (bj X.prog X.w) X.A (eval b X.env) (λu d=>wpAny (bj X.prog X.w) X.A (f v u) Q X.xe d) X.xe s₁) X.xe s:=by
 refine aS (ha pins s σ H _ I h) λv s1 ⟨x,H1,I1,g,J⟩=>?_;refine aS (hb pins s1 σ H1 _ I1 J) λu s2 ⟨y,H2,I2,O,M⟩=>?_;exact hf v u s2 x y H2 I2 g O M
def br(i:Nat):TE:=λσ H Q=>∃v,σ[i]?=some (some v)/\Q v H
def tC(v:V):TE:=λ_ H Q=>Q v H
def agV(hN:X.N[i]?=some x)(hv:Eo X.env.scope x)(hd:(x==("__debug__":Str))=false:=by decide)(B:(x==("__classdict__":Str))=false:=by decide):PE X (.Name x pos) (br i):=by
 intro pins s σ H Q I h;obtain⟨v,e,h⟩:=h;obtain⟨m,hn,hl⟩:=I.loc;obtain⟨u,r,l⟩:=hl i x v hN e hv;have fin:EP X pins σ Q u s:=⟨v,H,I,r,h⟩;rcases l with ⟨hk,hm⟩|⟨hk,c,hc,hcell⟩
 .exact rk (wpAny_loadName_local I.ok.kind hk hn hm fin) hd
 .rcases hk with hk|hk
  .exact rk (wpAny_loadName_cell I.ok.kind hk hc hcell fin) hd
  .exact rk (wpAny_loadName_free I.ok.kind hk hc hcell fin B) hd
def ak{i j pos}:PE X (.Constant (.int i) j pos) (tC (.int i)):=λ_ _ _ H _ I h=>wpAny_Constant_int ⟨.int i,H,I.tok _,⟨_,rfl⟩,h⟩
def pL{b j pos}:PE X (.Constant (.bool b) j pos) (tC (.bl b)):=λ_ _ _ H _ I h=>Constant_bool ⟨.bl b,H,I,rfl,h⟩
def jf{j pos}:PE X (.Constant .none j pos) (tC .aN):=λ_ _ _ H _ I h=>Constant_none ⟨.aN,H,I,rfl,h⟩
def qU{x j pos}:PE X (.Constant (.str x) j pos) (tC (.str x)):=λ_ _ _ H _ I h=>Calls.Constant_str ⟨.str x,H,I.tok _,⟨_,rfl⟩,h⟩
def Gl(X:Cx)(x:Str):Prop:=X.env.kindOf x=some .globalImplicit
def LF{σ:qr}{H:Hp}(I:Inv X pins σ H s)(hg:Gl X x)(hm:X.mg x=some u)(h:Q u s)
  (hd:(x==("__debug__":Str))=false:=by decide):wpAny (bj X.prog X.w) X.A (eval (.Name x pos) X.env) Q E s:=
 QO I.ok.kind hg (Calls.loadGlobal_global (by rw[I.ok.glob];exact I.mod.glob.keeps I.bk) hm h) hd
def u7{σ:qr}{H:Hp}(I:Inv X pins σ H s)(hg:Gl X x)(hm:X.mg x=none)(hv:gq x=some u)(h:Q u s)
  (hn:x≠"__name__":=by decide) (hd:(x==("__debug__":Str))=false:=by decide):wpAny (bj X.prog X.w) X.A (eval (.Name x pos) X.env) Q E s:=by
 obtain⟨mb,h1,h2⟩:=I.mod.blt;exact QO I.ok.kind hg (Calls.loadGlobal_builtin (by rw[I.ok.glob];exact I.mod.glob.keeps I.bk) hm (by rw[I.ok.blt];exact h1.keeps I.bk) ((h2 x hn).trans hv) h) hd
def lM{v:V}(hg:Gl X x)(hm:X.mg x=none)(hv:gq x=some u)(r:RelV v u)(hn:x≠"__name__":=by decide)(hd:(x==("__debug__":Str))=false:=by decide):PE X (.Name x pos) (tC v):=
 λ_ _ _ H _ I h=>u7 I hg hm hv ⟨v,H,I,r,h⟩ hn hd
variable{a b:ek}{ta tb:TE}{pos:Pos}
def PC(X:Cx)(op:CmpOp)(a b:ek)(t:TE):Prop:=
 ∀(pins:List (ar×Obj)) (s:aw) (σ:qr) (H:Hp) (Q:VK),Inv X pins σ H s->t σ H Q->
  wpAny (bj X.prog X.w) X.A (eval a X.env) (λv s₁=>wpAny (bj X.prog X.w) X.A (eval b X.env) (λu d=>wpAny (bj X.prog X.w) X.A (da op v u) (EP X pins σ Q) X.xe d) X.xe s₁) X.xe s
variable{tA AO:TT}{rest:List ek}
def Jz(t u:TT):TT:=λσ H Q=>t σ H λc H1=>if c=true then u σ H1 Q else Q false H1
def QN(t u:TT):TT:=λσ H Q=>t σ H λc H1=>if c=true then Q true H1 else u σ H1 Q
def Ec(t:TT):TT:=λσ H Q=>t σ H λc H1=>Q (!c) H1
def oN(ha:PT X a tA):PW X (.BoolOp .And [a] pos) tA:=by
 intro wh pins s σ H Q I h;refine isTrue_and (aS (ha pins s σ H Q I h) λc s1 e=>?_);cases c with
 |true=>exact isTrue_and_nil e
 |false=>exact e
def Ag(ha:PT X a tA):PW X (.BoolOp .Or [a] pos) tA:=by
 intro wh pins s σ H Q I h;refine isTrue_or (aS (ha pins s σ H Q I h) λc s1 e=>?_);cases c with
 |false=>exact isTrue_or_nil e
 |true=>exact e
def o6(ha:PT X a tA)(hb:PW X (.BoolOp .And (b::rest) pos) AO):PW X (.BoolOp .And (a::b::rest) pos) (Jz tA AO):=by
 intro wh pins s σ H Q I h;refine isTrue_and (aS (ha pins s σ H _ I h) λc s1 ⟨H1,I1,J⟩=>?_);cases c with
 |true=>exact hb wh pins s1 σ H1 Q I1 J
 |false=>exact⟨H1,I1,J⟩
def uu(ha:PT X a tA)(hb:PW X (.BoolOp .Or (b::rest) pos) AO):PW X (.BoolOp .Or (a::b::rest) pos) (QN tA AO):=by
 intro wh pins s σ H Q I h;refine isTrue_or (aS (ha pins s σ H _ I h) λc s1 ⟨H1,I1,J⟩=>?_);cases c with
 |true=>exact⟨H1,I1,J⟩
 |false=>exact hb wh pins s1 σ H1 Q I1 J
def rZ(ha:PT X a tA):PT X (.UnaryOp .Not a pos) (Ec tA):=by
 intro pins s σ H Q I h;exact isTrue_not (ha pins s σ H (λc H1=>Q (!c) H1) I h)
def Fq(ta tb:TE):TE:=λσ H Q=>ta σ H λx H1=>∃c,x= .bl c/\if c=true then tb σ H1 Q else Q (.bl false) H1
def Fy{op}{t:TE}(h:PE X a t):PE X (.BoolOp op [a] pos) t:=λpins s σ H Q I hw=>BoolOp_one (h pins s σ H Q I hw)
def FQ(ha:PE X a ta)(hb:PE X (.BoolOp .And (b::rest) pos) tb):PE X (.BoolOp .And (a::b::rest) pos) (Fq ta tb):=by
 intro pins s σ H Q I h;refine BoolOp_and (aS (ha pins s σ H _ I h) λv s1 ⟨x,H1,I1,g,J⟩=>?_);obtain⟨c,rfl,J⟩:=J;cases g;refine ft ?_;cases c with
 |true=>exact hb pins s1 σ H1 Q I1 J
 |false=>exact⟨.bl false,H1,I1,rfl,J⟩
def Q4(t:TT)(ta tb:TE):TE:=λσ H Q=>t σ H λc H1=>if c=true then ta σ H1 Q else tb σ H1 Q
def EC{c:ek}(hc:PT X c tA)(ha:PE X a ta)(hb:PE X b tb):PE X (.IfExp c a b pos) (Q4 tA ta tb):=by
 intro pins s σ H Q I h;refine wpAny_IfExp (aS (hc pins s σ H _ I h) λd s1 ⟨H1,I1,J⟩=>?_);cases d with
 |true=>exact ha pins s1 σ H1 Q I1 J
 |false=>exact hb pins s1 σ H1 Q I1 J
end
def bL(K:PySem.W.Frag)(H:Hp)(a:ar)(xs:List V):Prop:=
 Rd H a (.lst xs)\/
  ∃(o:Obj) (its:Array ag) (n:Nat),K.lookup a=some o/\o.cls= .type "list" /\o.dict=none/\o.data= .seq its n/\its.size<=sizeLine/\Vals xs its.toList
def i7(K:PySem.W.Frag)(H:Hp)(a:ar)(xs:List V):Prop:=
 Rd H a (.tup xs)\/
  ∃(o:Obj) (its:Array ag) (n:Nat),K.lookup a=some o/\o.cls= .type "tuple" /\o.data= .seq its n/\its.size<=sizeLine/\Vals xs its.toList
noncomputable def Yo:ag->Option V
 | .none=>some .aN
 | .bool b=>some (.bl b)
 | .int i _=>some (.int i)
 | .str x _=>some (.str x)
 | .bytes b _=>some (.kX b)
 | .float b _=>some (.nI b)
 | .ref a=>some (.ref a)
 | .type n=>some (.ty n)
 |_=>none
def RelV.abs{x:V}(r:RelV x u):Yo u=some x:=by
 cases x with
 |aN=>cases r;rfl
 |bl _=>cases r;rfl
 |int _=>obtain⟨t,rfl⟩:=r;rfl
 |str _=>obtain⟨t,rfl⟩:=r;rfl
 |kX _=>obtain⟨t,rfl⟩:=r;rfl
 |nI _=>obtain⟨t,rfl⟩:=r;rfl
 |ref _=>cases r;rfl
 |ty _=>cases r;rfl
def RelV.inj{x y:V}(r:RelV x u)(q:RelV y u):x=y:=gz (r.abs.symm.trans q.abs)
theorem Vals.inj{xs ys:List V}{us:List ag}(h:Vals xs us)(k:Vals ys us):xs=ys:=by
 induction h generalizing ys with
 |nil=>cases k;rfl
 |cons r t ih=>cases k with|cons r' t'=>rw[r.inj r',ih t']
section
variable{X:Cx}{pins:List (ar×Obj)}{σ:qr}{H:Hp}{s:aw}{a:ar}{xs ys:List V}
def bL.of{K:PySem.W.Frag}(h:H a=some (.lst xs)):bL K H a xs:= .inl (.inl h)
def i7.of{K:PySem.W.Frag}(h:H a=some (.tup xs)):i7 K H a xs:= .inl (.inl h)
theorem Inv.list(I:Inv X pins σ H s)(h:bL X.K H a xs):∃its:List ag,Vals xs its/\PlainL s.heap a its.toArray/\xs.length<=sizeLine:=by
 rcases h with h|⟨o,its,n,hk,hc,hd,hs,hz,r⟩
 .obtain⟨z,its,n,r,e⟩:=h.ok I.hok;exact⟨its,r,⟨_,n,e,rfl,rfl,rfl⟩,z⟩
 .refine⟨its.toList,r,⟨o,n,I.eE a o hk,hc,hd,by simpa using hs⟩,?_⟩;have e:=r.length;simp only[mj] at e;omega
theorem Inv.tuple(I:Inv X pins σ H s)(h:i7 X.K H a xs):∃its:List ag,Vals xs its/\IsTup s.heap a its.toArray/\xs.length<=sizeLine:=by
 rcases h with h|⟨o,its,n,hk,hc,hs,hz,r⟩
 .obtain⟨z,its,r,p⟩:=h.ok I.hok;exact⟨its,r,p,z⟩
 .refine⟨its.toList,r,⟨o,I.eE a o hk,hc,n,by simpa using hs⟩,?_⟩;have e:=r.length;simp only[mj] at e;omega
def Inv.Xs(I:Inv X pins σ H s)(h:bL X.K H a xs)(h':bL X.K H a ys):xs=ys:=by
 obtain⟨its,r,⟨o,n,e,_,_,d⟩,_⟩:=I.list h;obtain⟨its',r',⟨o',l,e',_,_,d'⟩,_⟩:=I.list h';rw[e] at e';cases e'
 rw[d] at d';injection d' with d1 _
 have:its=its':=by simpa using congrArg Array.toList d1
 subst this;exact r.inj r'
end
noncomputable abbrev Cx.mX(X:Cx)(E:ag->aw->Prop):Cx:={X with xe:=E}
noncomputable abbrev Cx.CQ(X:Cx):Cx:=X.mX λ_ _=>False
theorem Cx.Ok.mX{X:Cx}(ok:X.Ok)(E:ag->aw->Prop):(X.mX E).Ok:=
 ⟨ok.mod,ok.kind,ok.glob,ok.blt,ok.above,ok.inj,ok.has,ok.uH,ok.hd,ok.frames,ok.stk,ok.B4,ok.bs,ok.pQ,ok.wm,ok.vZ,ok.lK,ok.qF⟩
def Cx.Ok.pO{X:Cx}(ok:(X.mX E).Ok):X.Ok:=
 ⟨ok.mod,ok.kind,ok.glob,ok.blt,ok.above,ok.inj,ok.has,ok.uH,ok.hd,ok.frames,ok.stk,ok.B4,ok.bs,ok.pQ,ok.wm,ok.vZ,ok.lK,ok.qF⟩
section
variable{X:Cx}{pins:List (ar×Obj)}{σ:qr}{H:Hp}{s:aw}{E:ag->aw->Prop}
theorem Inv.mX(I:Inv X pins σ H s)(E:ag->aw->Prop):Inv (X.mX E) pins σ H s:=⟨I.ok.mX E,I.os,I.bare,I.base,I.loc,I.cell,I.free,I.lH,I.pin,I.hok,I.len⟩
theorem Inv.pO(I:Inv (X.mX E) pins σ H s):Inv X pins σ H s:=⟨I.ok.pO,I.os,I.bare,I.base,I.loc,I.cell,I.free,I.lH,I.pin,I.hok,I.len⟩
theorem SP.pO{D:Ends}{f:Flow}{s':aw}(h:SP (X.mX E) pins D f s'):SP X pins D f s':=by
 cases f with
 |next=>obtain⟨M,H',I,q⟩:=h;exact⟨M,H',I.pO,q⟩
 |brk=>obtain⟨M,H',I,q⟩:=h;exact⟨M,H',I.pO,q⟩
 |cont=>obtain⟨M,H',I,q⟩:=h;exact⟨M,H',I.pO,q⟩
 |ret u=>obtain⟨v,M,H',I,r,q⟩:=h;exact⟨v,M,H',I.pO,r,q⟩
theorem lz.CQ{st:List el}{t:TS}(h:lz X.CQ st t):lz X st t:=λpins s σ H D I hw=>
 eF (h pins s σ H D (I.mX _) hw) (λ_ _ q=>q.pO) λ_ _ z=>dy z
end
section
variable{X:Cx}{st:el}{rest:List el}{t u:TS}{e:ek}{te:TE}{pos:Pos}
def Kc:TS:=λD σ H=>D.nx σ H
def oM(t u:TS):TS:=λD σ H=>t {D with nx:=u D} σ H
def eV:lz X [] Kc:=λ_ _ σ H _ I h=>gO ⟨σ,H,I,h⟩
def ay(h1:PS X st t)(h2:lz X rest u):lz X (st::rest) (oM t u):=by
  intro pins s σ H D I h;refine m4 (aS (h1 pins s σ H {D with nx:=u D} I h) λf s1 q=>?_);cases f with
  | next =>
    obtain⟨M,H',b,q⟩:=q;exact h2 pins s1 M H' D b q
  |ret v=>exact q
  |brk=>exact q
  |cont=>exact q
def aE(h1:PS X st t):lz X [st] t:=by
 intro pins s σ H D I h;refine m4 (aS (h1 pins s σ H D I h) λf s1 q=>?_);cases f with
 |next=>exact gO q
 |ret v=>exact q
 |brk=>exact q
 |cont=>exact q
def T1:TS:=λD σ H=>D.bk σ H
def ahB:TS:=λD σ H=>D.ct σ H
def Inv.quiet{σ:qr}{H:Hp}(I:Inv X pins σ H s):interactive X.env=false:=by simp[interactive,I.ok.kind]
def nu(te:TE):TS:=λD σ H=>te σ H λ_ H1=>D.nx σ H1
def kI(he:PE X e te)(hs:oy e none pos.line X.env=pure false:=by rfl):PS X (.Expr e pos) (nu te):=by
 intro pins s σ H D I h;exact wpAny_Expr_any (aS (he pins s σ H _ I h) λv s1 ⟨x,H1,I1,g,J⟩=>⟨σ,H1,I1,J⟩) I.quiet hs
def pT(te:TE):TS:=λD σ H=>te σ H D.rt
def bE(he:PE X e te):PS X (.Return (some e) pos) (pT te):=by
 intro pins s σ H D I h;exact wpAny_Return_some (aS (he pins s σ H _ I h) λv s1 ⟨x,H1,I1,g,J⟩=>⟨x,σ,H1,I1,g,J⟩)
def DK(c:TT)(t u:TS):TS:=λD σ H=>c σ H λb H1=>if b=true then t D σ H1 else u D σ H1
def dZ{c:ek}{a b:List el}{tc:TT}(hc:PT X c tc)(ha:lz X a t)(hb:lz X b u):PS X (.If c a b pos) (DK tc t u):=by
 intro pins s σ H D I h;refine wpAny_If (aS (hc pins s σ H _ I h) λd s1 ⟨H1,I1,J⟩=>?_);cases d with
 |true=>exact ha pins s1 σ H1 D I1 J
 |false=>exact hb pins s1 σ H1 D I1 J
end
abbrev TG:=V->qr->Hp->(qr->Hp->Prop)->Prop
abbrev kE:=List V->qr->Hp->(qr->Hp->Prop)->Prop
def PG(X:Cx)(a:ek)(t:TG):Prop:=
 ∀(pins:List (ar×Obj)) (s:aw) (σ:qr) (H:Hp) (v:V) (u:ag) (Q:qr->Hp->Prop),Inv X pins σ H s->RelV v u->t v σ H Q->
  wpAny (bj X.prog X.w) X.A (rn a X.env u) (λ_ s'=>∃M H',Inv X pins M H' s'/\Q M H') X.xe s
def vI(X:Cx)(ts:List ek)(t:kE):Prop:=
 ∀(pins:List (ar×Obj)) (s:aw) (σ:qr) (H:Hp) (vs:List V) (us:List ag) (Q:qr->Hp->Prop),Inv X pins σ H s->Vals vs us->t vs σ H Q->
  wpAny (bj X.prog X.w) X.A (assignInOrder ((fv ts X.env).map (·.2)) us) (λ_ s'=>∃M H',Inv X pins M H' s'/\Q M H') X.xe s
abbrev tL:=V->V->V->Hp->(Hp->Prop)->Prop
def Aq(X:Cx)(t:tL):Prop:=
 ∀(pins:List (ar×Obj)) (s:aw) (σ:qr) (H:Hp) (o i v:V) (b a u:ag) (Q:Hp->Prop),Inv X pins σ H s->RelV o b->RelV i a->RelV v u->t o i v H Q->
  wpAny (bj X.prog X.w) X.A (setItem b a u) (λ_ s'=>∃H',Inv X pins σ H' s'/\Q H') X.xe s
abbrev zT:=V->V->Hp->VK->Prop
def O9(X:Cx)(op:v3)(t:zT):Prop:=
 ∀(pins:List (ar×Obj)) (s:aw) (σ:qr) (H:Hp) (x y:V) (v u:ag) (Q:VK),Inv X pins σ H s->RelV x v->RelV y u->t x y H Q->
  wpAny (bj X.prog X.w) X.A (inplaceOp op v u) (EP X pins σ Q) X.xe s
section
variable{X:Cx}{pos:Pos}
def gh(i:Nat):TG:=λv σ H Q=>Q (σ.set i (some v)) H
def aY(hN:X.N.Nodup)(hi:X.N[i]?=some x)(hx:Loc X.env.scope x)(hf:X.fn x=true\/X.env.scope.names.lookup x=some .local:=by first|exact .inl rfl|exact .inr rfl|assumption):PG X (.Name x pos) (gh i):=by
 intro pins s σ H v u Q I r h;exact lj (Rq I hN hi hx r (λs' b=>⟨_,H,b,h⟩) hf)
def xY:kE:=λvs σ H Q=>vs=[]/\Q σ H
def oq(t:TG)(u:kE):kE:=λvs σ H Q=>∃v r,vs=v::r/\t v σ H λM H'=>u r M H' Q
def kO:vI X [] xY:=by
 intro pins s σ H vs us Q I r h;obtain⟨e,h⟩:=h;subst e;cases r;exact assignInOrder_nil ⟨σ,H,I,h⟩
def dW{e:ek}{es:List ek}{t:TG}{u:kE}(h1:PG X e t)(h2:vI X es u)
    (hs:(fv (e::es) X.env).map (·.2)=rn e X.env::(fv es X.env).map (·.2):=by rfl):vI X (e::es) (oq t u):=by
  intro pins s σ H vs us Q I r h;obtain⟨v,vr,e1,h⟩:=h;subst e1;cases r with
  | cons r c =>
    rw[hs];refine assignInOrder_cons (aS (h1 pins s σ H _ _ _ I r h) λ_ s1 ⟨a,H1,I1,J⟩=>?_);exact h2 pins s1 a H1 _ _ Q I1 c J
def rT(K:PySem.W.Frag)(n:Nat)(t:kE):TG:=λv σ H Q=>∃a xs,v= .ref a/\i7 K H a xs/\xs.length=n/\t xs σ H Q
def PZ{es:List ek}{k:Nat}{t:kE}(hc:X.calm=true)(h:vI X es t)
  (hn:(fv es X.env).length=n:=by rfl) (p:(fv es X.env).findIdx? (·.1)=none:=by rfl):PG X (.Tuple es k pos) (rT X.K n t):=by
 intro pins s σ H v u Q I r hw;obtain⟨a,xs,e1,hq,hl,hw⟩:=hw;subst e1;cases r;obtain⟨its,rv,ht,hz⟩:=I.tuple hq;refine assign_Tuple_tuple (I.ok.hd hc) ht (by simp[hn,<-hl,rv.length]) p λh' hx=>?_;have I1:Inv X pins σ H {s with heap:=h'}:=I.kept (t':=s.toks) λb o e=>hx b o (fM (cT e)) e;exact h pins _ σ H xs _ Q I1 (by simpa using rv) hw
def lZ(to c:TE)(t:tL):TG:=λv σ H Q=>to σ H λo H1=>c σ H1 λi H2=>t o i v H2 λH3=>Q σ H3
def iT{o i:ek}{to c:TE}{t:tL}(U:PE X o to)(hi:PE X i c)(hs:Aq X t)
  (ha : ∀ v, assign (.Subscript o i pos) X.env v = (do
   let b<-holding [v] (eval o X.env)
   let a<-holding [v,b] (eval i X.env)
   standAt pos
   holding [v,b,a] (setItem b a v)
   release [v,b,a] []):=by intro _;rfl):PG X (.Subscript o i pos) (lZ to c t):=by
 intro pins s σ H v u Q I r h;rw[ha];refine ae (dA (aS (U pins s σ H _ I h) λb s1 ⟨x,H1,I1,g,J⟩=>?_));refine ae (dA (aS (hi pins s1 σ H1 _ I1 J) λa s2 ⟨y,H2,I2,O,M⟩=>?_));refine ae (jx (ae (dA (aS (hs pins s2 σ H2 x y v b a u _ I2 g O r M) λ_ Z ⟨H3,I3,P⟩=>?_))));exact wpAny_release ⟨σ,H3,I3,P⟩
def gu(te:TE)(g:TG):TS:=λD σ H=>te σ H λx H1=>g x σ H1 D.nx
def gF{te:TE}{g:TG}(he:PE X e te)(hg:PG X tg g)(hs:swapsWithSole [tg] e pos.line X.env=pure false:=by rfl)(hw:swappedStores [tg] e X.env=pure none:=by rfl)
  (h1:(fv [tg] X.env).map (·.2)=[rn tg X.env]:=by rfl):PS X (.Assign [tg] e pos) (gu te g):=by
 intro pins s σ H D I h;refine wpAny_Assign_stores (aS (he pins s σ H _ I h) λv s1 ⟨x,H1,I1,r1,J⟩=>?_) hs hw;rw[h1];exact aS (hg pins s1 σ H1 x v _ I1 r1 J) λ_ s2 q=>q
def bh{i:Nat}{x:Str}{e:ek}{te:TE}{pos':Pos}(hN:X.N.Nodup)(hi:X.N[i]?=some x)(hx:Loc X.env.scope x)(he:PE X e te)(hs:oy e (some (.Name x pos')) pos.line X.env=pure false:=by rfl)(hf:X.fn x=true\/X.env.scope.names.lookup x=some .local:=by first|exact .inl rfl|exact .inr rfl|assumption):
  PS X (.Assign [.Name x pos'] e pos) (gu te (gh i)):=by
 intro pins s σ H D I h;refine wpAny_Assign_Name (aS (he pins s σ H _ I h) λv s1 ⟨y,H1,I1,g,J⟩=>?_) hs;exact Rq I1 hN hi hx g (λs2 I2=>⟨_,H1,I2,J⟩) hf
def Q7(to c te:TE)(d:V->V->Hp->VK->Prop)(j:zT)(f:tL):TS:=λD σ H=>to σ H λo H1=>c σ H1 λi H2=>d o i H2 λx H3=>te σ H3 λy H4=>j x y H4 λz H5=>f o i z H5 λH6=>D.nx σ H6
def OS(X:Cx)(t:V->V->Hp->VK->Prop):Prop:=
 ∀(pins:List (ar×Obj)) (s:aw) (σ:qr) (H:Hp) (o i:V) (b a:ag) (Q:VK),Inv X pins σ H s->RelV o b->RelV i a->t o i H Q->
  wpAny (bj X.prog X.w) X.A (u3 b a) (EP X pins σ Q) X.xe s
def HY{o i:ek}{to c te:TE}{d:V->V->Hp->VK->Prop}{j:zT}{f:tL}{op:v3}{tpos:Pos}(U:PE X o to)(hi:PE X i c)(hg:OS X d)(he:PE X e te)(hp:O9 X op j)(hs:Aq X f)
  (ha:∀b a new,augStore i b a new=(do holding [new,b,a] (setItem b a new);release [new,b,a] [];pure .next):=by intros;rfl):PS X (.AugAssign (.Subscript o i tpos) op e pos) (Q7 to c te d j f):=by
 intro pins s σ H D I h;refine wpAny_AugAssign_SubscriptAny (aS (U pins s σ H _ I h) λb s1 ⟨x1,H1,I1,g,J⟩=>?_) ha;refine aS (hi pins s1 σ H1 _ I1 J) λa s2 ⟨Y,H2,I2,O,M⟩=>?_;refine aS (hg pins s2 σ H2 x1 Y b a _ I2 g O M) λold Z ⟨u,H3,I3,m,P⟩=>?_;refine aS (he pins Z σ H3 _ I3 P) λv s4 ⟨L,H4,k,l,y⟩=>?_;refine aS (hp pins s4 σ H4 u L old v _ k m l y) λnew s5 ⟨S,H5,I5,r5,n⟩=>?_;exact aS (hs pins s5 σ H5 x1 Y S b a new _ I5 g O r5 n) λ_ s6 ⟨H6,I6,q6⟩=>⟨σ,H6,I6,q6⟩
def ND(f:Int->Int->Int):zT:=λx y H Q=>∃i j,x= .int i/\y= .int j/\Q (.int (f i j)) H
def VT:O9 X .Sub (ND λi j=>i-j):=by
 intro pins s σ H x y v u Q I r1 r2 h;obtain⟨i,j,e1,e2,q⟩:=h;subst e1;subst e2;obtain⟨t,rfl⟩:=r1;obtain⟨t',rfl⟩:=r2;exact isub_int ⟨.int _,H,I.tok _,⟨_,rfl⟩,q⟩
end
section
variable{X:Cx}{pos:Pos}
def Fo(c:TT)(tb:TS):TS:=λD σ H=>∃W:Nat->qr->Hp->Prop,(∃m,W m σ H)/\∀m σ H,W m σ H->
 c σ H λb H1=>if b=true then∃N:qr->Hp->Prop,(∀M H',N M H'->∃R,R<m/\W R M H')/\tb {D with nx:=N,ct:=N,bk:=D.nx} σ H1 else D.nx σ H1
def BC{c:ek}{a:List el}{tc:TT}{tb:TS}(hp:PassesOwn (bj X.prog X.w) X.A X.env X.xe)(hc:PT X c tc)(hb:lz X a tb):PS X (.While c a [] pos) (Fo tc tb):=by
  intro pins s σ H D I h;obtain⟨W,⟨m0,V⟩,B⟩:=h;refine wpAny_While (codeAny_whileLoop (λn s'=>∃σ' H',Inv X pins σ' H' s'/\W n σ' H') ?_ m0 ⟨σ,H,I,V⟩);rintro n s1 ⟨σ1,H1,I1,w1⟩;refine ec hp (aS (hc pins s1 σ1 H1 _ I1 (B n σ1 H1 w1)) λb s2 ⟨H2,I2,M⟩=>?_);cases b with
  | true =>
    obtain⟨N,hN,M⟩:=M;rw[if_pos rfl];refine ec hp (aS (hb pins s2 σ1 H2 _ I2 M) λf Z P=>?_);cases f with
    | next =>
      obtain⟨d,H3,I3,K⟩:=P;obtain⟨R,hm,g⟩:=hN d H3 K;exact⟨R,hm,d,H3,I3,g⟩
    | cont =>
      obtain⟨d,H3,I3,K⟩:=P;obtain⟨R,hm,g⟩:=hN d H3 K;exact⟨R,hm,d,H3,I3,g⟩
    |brk=>exact P
    |ret v=>exact P
  | false =>
    rw[if_neg eB];exact gO ⟨σ1,H2,I2,M⟩
end
structure It where
 go:Nat->Hp->Prop
 nO:Nat->Hp->V->Hp->Prop
 stop:Nat->Hp->Prop
def nP(X:Cx)(pins:List (ar×Obj))(H:Hp)(b:ar):Prop:=
 H b=none/\b≠X.env.locals/\b∉X.fs/\(b∈X.ex\/X.s₀.heap.objs.size<=b)/\(∀x c,X.env.cells.lookup x=some c->c≠b)/\∀p∈X.pn++pins,p.1≠b
def Inv.Ab{X:Cx}{σ:qr}{H H':Hp}{b:ar}(I:Inv X pins σ H s)(hb:s.heap.objs.size<=b)(hn:H' b=none):nP X pins H' b:=by
 refine⟨hn,sV (fX I.lt hb),I.Xp hb, .inr (cU I.sz hb),λx c e z=>?_,λp hp z=>?_⟩
 .obtain⟨v,q⟩:=I.cell x c e;exact absurd (fX q.lt (by rw[z];exact hb)) (lg _)
 .exact absurd (fX (cT (I.pin p hp).1) (by rw[z];exact hb)) (lg _)
structure Turn(P:bo)(w:cx)(K:PySem.W.Frag)(tg:ek)(J:It)(fp:List ar)(it:ar)(tn:Nat->eh->Prop):Prop where
 mem:it∈fp
 obj:∀i h,tn i h->∀b∈fp,∃o,h.get? b=some o/\∀v,o.data≠ .cell v
 keep:∀i h h',tn i h->(∀b∈fp,∀o,h.get? b=some o->h'.get? b=some o)->tn i h'
 item:∀(X:Cx),X.prog=P->X.w=w->X.K=K->X.calm=true->∀(i:Nat) (pins:List (ar×Obj)) (s:aw) (σ:qr) (H:Hp) (E:ag->aw->Prop),Inv X pins σ H s->(∀b∈fp,nP X pins H b)->tn i s.heap->J.go i H->
  wpAny (bj P w) X.A (i0 (.ref it)) (λr s1=>∃u,r=some u/\
   wpAny (bj P w) X.A (gT tg (.ref it) u) (λ_ s2=>∃x H',Inv X pins σ H' s2/\RelV x u/\J.nO i H x H'/\tn (i+1) s2.heap/\∀b∈fp,H' b=none) E s1) E s
 done:∀(X:Cx),X.prog=P->X.w=w->X.K=K->X.calm=true->∀(i:Nat) (pins:List (ar×Obj)) (s:aw) (σ:qr) (H:Hp) (E:ag->aw->Prop),Inv X pins σ H s->(∀b∈fp,nP X pins H b)->tn i s.heap->J.stop i H->
  wpAny (bj P w) X.A (i0 (.ref it)) (λr s1=>r=none/\Inv X pins σ H s1) E s
 self:∀(A:c4) (i:Nat) (s:aw) (Q:ag->aw->Prop) (E:ag->aw->Prop),tn i s.heap->Q (.ref it) s->wpAny (bj P w) A (v5 (.ref it)) Q E s
abbrev TI:=qr->Hp->(It->Hp->Prop)->Prop
def OL(X:Cx)(pins:List (ar×Obj))(σ:qr)(tg:ek)(R:It->Hp->Prop)(itv:ag)(s2:aw):Prop:=
 ∃(it:ar) (fp:List ar) (tn:Nat->eh->Prop) (J:It) (H':Hp),itv= .ref it/\Inv X pins σ H' s2/\Turn X.prog X.w X.K tg J fp it tn/\tn 0 s2.heap/\(∀b∈fp,nP X pins H' b)/\R J H'
def PI(X:Cx)(tg l:ek)(G:TI):Prop:=
 ∀(pins:List (ar×Obj)) (s:aw) (σ:qr) (H:Hp) (R:It->Hp->Prop),Inv X pins σ H s->G σ H R->
  wpAny (bj X.prog X.w) X.A (eval l X.env) (λv s1=>wpAny (bj X.prog X.w) X.A (v5 v) (OL X pins σ tg R) X.xe s1) X.xe s
def JX{it:ar}{n:String}{vs:Array ag}{Q:Unit->aw->Prop}(U:s.heap.get? it=some o)(hc:o.cls= .type n)(hd:o.data= .fields vs)
    (hn:["enumerate","zip","dict_itemiterator","dict_reverseitemiterator","odict_iterator","itertools.zip_longest","itertools.pairwise"].contains n=false) (J:Q () s):wpAny M A (gT tg (.ref it) u) Q E s:=by
  unfold gT
  cases tg<;>first
    |exact a3 J
    |(cases u<;>first
        |exact a3 J
        | (refine wpAny_bind (wpAny_load U ?_)
           rw[hc,hd];show wpAny M A (if(["enumerate","zip","dict_itemiterator","dict_reverseitemiterator","odict_iterator","itertools.zip_longest","itertools.pairwise"].contains n && vs[0]?==some (cf _))=true then _ else _) Q E s;rw[if_neg (by intro h;rw[hn,Bool.false_and] at h;cases h)];exact a3 J))
noncomputable def rj(K:PySem.W.Frag)(a:ar):It:=
 ⟨λi H=>∃xs x,bL K H a xs/\xs[i]?=some x,λi H x H'=>H'=H/\∀xs,bL K H a xs->xs[i]?=some x,λi H=>∃xs,bL K H a xs/\xs.length<=i⟩
noncomputable def lC(lo:Int)(n:Nat):It:=⟨λi _=>i<n,λi H x H'=>H'=H/\x= .int (lo+i),λi _=>n<=i⟩
theorem afJ{P:bo}{K:PySem.W.Frag}(a it:ar):Turn P w K tg (rj K a) [it] it (λi h=>h.IsListIter it a i) where
 mem:=by simp
 obj:=λi h st b hb=>by
  have e:b=it:=by simpa using hb
  subst e;obtain⟨o,e,c,d⟩:=st;exact⟨o,e,λv z=>by rw[d] at z;cases z⟩
 keep:=λi h h' st k=>st.at λo e=>k it (by simp) o e
 item:=by
  intro X hP hw hK hc i pins s σ H E I hf st hg;subst hP hw hK;obtain⟨xs,x,hq,hx⟩:=hg;obtain⟨its,rv,p,hz⟩:=I.list hq;obtain⟨u,Y,D⟩:=rv.get hx;obtain⟨j,B,M,m,q,g⟩:=hf it (by simp);refine wpAny_pyNext_list_item st p.isList (x:=u) (by simpa using Y) λh' l sb=>?_;have I1:Inv X pins σ H {s with heap:=h'}:=I.turned (t':=s.toks) (λb o hb e=>(sb.2 b hb).trans e) j B m q g;obtain⟨o,e,c,d⟩:=id l;exact⟨u,rfl,JX (s:={s with heap:=h'}) e c d ⋯ ⟨x,H,I1,D,⟨rfl,λys hy=>by rw[I.Xs hy hq];exact hx⟩,l,λb hb=>(hf b hb).1⟩⟩
 done:=by
  intro X hP hw hK hc i pins s σ H E I hf st hg;subst hP hw hK;obtain⟨xs,hq,hx⟩:=hg;obtain⟨its,rv,p,hz⟩:=I.list hq;obtain⟨j,B,M,m,q,g⟩:=hf it (by simp);have hl:=rv.length;exact wpAny_pyNext_list_end (I.ok.hd hc) st p.isList (by simp;omega) λh' J=>⟨rfl,I.turned (t':=s.toks) (λb o hb e=>J b o hb e) j B m q g⟩
 self:=λ_ _ _ _ _ st h=>wpAny_pyIter_listiter st h
theorem GK{P:bo}{K:PySem.W.Frag}(it:ar)(lo:Int)(n:Nat):Turn P w K tg (lC lo n) [it] it (λi h=>IsRangeIter h it (lo+(i:Nat)*1) ((n:Int)-(i:Nat)) 1) where
 mem:=by simp
 obj:=λi h st b hb=>by
  have e:b=it:=by simpa using hb
  subst e
  exact⟨_,st,λv z=>by
   have z':Data.fields _=Data.cell v:=z;cases z'⟩
 keep:=λi h h' st k=>k it (by simp) _ st
 item:=by
  intro X hP hw hK hc i pins s σ H E I hf st hg;subst hP hw hK;obtain⟨j,B,M,m,q,g⟩:=hf it (by simp);have W:=Walks.range (prog:=X.prog) (w:=X.w) (I.ok.hd hc) it lo 1 n;refine W.item i s _ _ hg st λv h' tk hv l a=>?_;obtain⟨t,rfl⟩:=hv;have I1:Inv X pins σ H {s with heap:=h',toks:=tk}:=I.turned (λb o hb e=>a b o (by simpa using hb) e) j B m q g;refine⟨_,rfl,JX (s:={s with heap:=h',toks:=tk}) (n:="range_iterator") l rfl rfl ⋯ ⟨.int (lo+i),H,I1,⟨t,?_⟩,⟨rfl,rfl⟩,l,λb hb=>(hf b hb).1⟩⟩;rw[BI]
 done:=by
  intro X hP hw hK hc i pins s σ H E I hf st hg;subst hP hw hK;obtain⟨j,B,M,m,q,g⟩:=hf it (by simp);exact wpAny_pyNext_range_end (I.ok.hd hc) st (by have:n<=i:=hg;omega) λh' J=>⟨rfl,I.turned (t':=s.toks) (λb o hb e=>J b o hb e) j B m q g⟩
 self:=λ_ _ _ _ _ st h=>wpAny_pyIter_rangeiter st h
section
variable{X:Cx}{tg:ek}
def qq(K:PySem.W.Frag)(tl:TE):TI:=λσ H R=>tl σ H λx H1=>∃a,x= .ref a/\(∃xs,bL K H1 a xs)/\R (rj K a) H1
def W4{l:ek}{tl:TE}(hl:PE X l tl):PI X tg l (qq X.K tl):=by
 intro pins s σ H R I h;refine aS (hl pins s σ H _ I h) λv s1 ⟨x,H1,I1,g,J⟩=>?_;obtain⟨a,e,⟨xs,hq⟩,q⟩:=J;subst e;cases g;obtain⟨its,rv,p,hz⟩:=I1.list hq;refine hH p.isList ?_;refine⟨s1.heap.objs.size,[s1.heap.objs.size],_,_,H1,rfl,I1.kept (t':=s1.toks) λb o e=>dz _ e,afJ a _,⟨_,iH _ rfl,rfl,rfl⟩,λb hb=>?_,q⟩;have e:b=s1.heap.objs.size:=by simpa using hb
 subst e;exact I1.Ab (aW _) (I1.hok.fresh (aW _))
theorem PD{σ:qr}{H:Hp}{R:It->Hp->Prop}{lo hi:Int}{t u v:Tok}{tk:Nat}(I:Inv X pins σ H s)(h1: -(2^62)<=lo)(h2:lo<2^62)(h3: -(2^62)<=hi)(h4:hi<2^62)
  (q:R (lC lo (hi-lo).toNat) H):wpAny (bj X.prog X.w) X.A (v5 (.ref s.heap.objs.size)) (OL X pins σ tg R) E {s with heap:=s.heap.push {cls:= .type "range",data:= .fields #[.int lo t, .int hi u, .int 1 v]},toks:=tk}:=by
 refine wpAny_pyIter_range (IsRange.new ..) (small_one h1 h2 h3 h4) ?_;have I1:Inv X pins σ H {s with heap:=s.heap.push {cls:= .type "range",data:= .fields #[.int lo t, .int hi u, .int 1 v]},toks:=tk}:=I.kept λb o e=>dz _ e
 refine⟨(s.heap.push {cls:= .type "range",data:= .fields #[.int lo t, .int hi u, .int 1 v]}).objs.size,[(s.heap.push {cls:= .type "range",data:= .fields #[.int lo t, .int hi u, .int 1 v]}).objs.size],_,_,H,rfl,
  I1.kept (t':=tk) λb o e=>dz _ e,GK _ lo (hi-lo).toNat,?_,λb hb=>?_,q⟩
 .have e1:lo+((0:Nat):Int)*1=lo:=by simp
  have e2:(((hi-lo).toNat:Nat):Int)-((0:Nat):Int)=sk lo hi 1:=by rw[rangeSize_one];split<;>omega
  show IsRangeIter _ _ (lo+((0:Nat):Int)*1) ((((hi-lo).toNat:Nat):Int)-((0:Nat):Int)) 1;rw[e1,e2];exact iH _ rfl
 .have e:b=(s.heap.push {cls:= .type "range",data:= .fields #[.int lo t, .int hi u, .int 1 v]}).objs.size:=by simpa using hb
  subst e;exact I1.Ab (aW _) (I1.hok.fresh (aW _))
def sy(ta:TA):TI:=λσ H R=>ta σ H λvs H1=>∃j:Int,vs=[.int j]/\ -(2^62)<=j/\j<2^62/\R (lC 0 j.toNat) H1
def JZ(ta:TA):TI:=λσ H R=>ta σ H λvs H1=>∃i j:Int,vs=[.int i, .int j]/\(-(2^62)<=i/\i<2^62/\ -(2^62)<=j/\j<2^62)/\R (lC i (j-i).toNat) H1
theorem j6{a:ek}{ta:TA}{p:Pos}(hg:Gl X "range")(hm:X.mg "range"=none)(ha:PA X [a] ta)(hs:bp [a] X.env=[(false,eval a X.env)]:=by rfl):PI X tg (.Call (.Name "range" p) [a] [] pos) (sy ta):=by
  intro pins s σ H R I h;refine Call_ (u7 I hg hm iV (Ic (aS (ha pos pins s σ H _ I h) λus s1 ⟨vs,H1,I1,g,J⟩=>?_) hs rfl));obtain⟨j,e,J,M,q⟩:=J;subst e;cases g with
  | cons r c =>
    cases c;obtain⟨t,rfl⟩:=r;exact call_range_1 (PD I1 ∅ ∅ J M (by simpa using q))
def GP{a b:ek}{ta:TA}{p:Pos}(hg:Gl X "range")(hm:X.mg "range"=none)(ha:PA X [a,b] ta)(hs:bp [a,b] X.env=[(false,eval a X.env),(false,eval b X.env)]:=by rfl)(hs2:bp [b] X.env=[(false,eval b X.env)]:=by rfl):
    PI X tg (.Call (.Name "range" p) [a,b] [] pos) (JZ ta):=by
  intro pins s σ H R I h;refine Call_ (u7 I hg hm iV (Ic (aS (ha pos pins s σ H _ I h) λus s1 ⟨vs,H1,I1,g,J⟩=>?_) (by rw[hs,hs2]) (by rw[hs2];rfl)));obtain⟨i,j,e,⟨J,M,P,y⟩,q⟩:=J;subst e;cases g with
  | cons r c =>
    cases c with
    | cons r' c =>
      cases c;obtain⟨t,rfl⟩:=r;obtain⟨t',rfl⟩:=r';exact call_range_2 (PD I1 J M P y q)
def pA(G:TI)(g:TG)(tb:TS):TS:=λD σ H=>G σ H λJ H1=>∃W:Nat->Nat->qr->Hp->Prop,(∃m,W 0 m σ H1)/\∀i m σ H,W i m σ H->
 (J.stop i H/\D.nx σ H)\/(J.go i H/\∃N:qr->Hp->Prop,(∀M H',N M H'->∃R,R<m/\W (i+1) R M H')/\∀x H',J.nO i H x H'->g x σ H' λk H2=>tb {D with nx:=N,ct:=N,bk:=D.nx} k H2)
noncomputable def yd(fp:List ar)(h:eh):List (ar×Obj):=fp.filterMap λb=>(h.get? b).map λo=>(b,o)
def D8{b:ar}(hb:b∈fp)(e:h.get? b=some o):(b,o)∈yd fp h:=qz.mpr ⟨b,hb,by rw[e];rfl⟩
def adI{p:ar×Obj}(hp:p∈yd fp h):p.1∈fp/\h.get? p.1=some p.2:=by
  obtain⟨b,hb,e⟩:=qz.mp hp;cases q:h.get? b with
  |none=>rw[q] at e;cases e
  | some o =>
    rw[q] at e;have e':(b,o)=p:=gz e;subst e';exact⟨hb,q⟩
def Inv.pinned{σ:qr}{H:Hp}(I:Inv X pins σ H s)(hf:∀b∈fp,nP X pins H b)(U:∀b∈fp,∃o,s.heap.get? b=some o/\∀v,o.data≠ .cell v):Inv X (pins++yd fp s.heap) σ H s:=
 I.SS λp hp=>(fN.mp hp).elim (λz=>I.pin p (kQ _ z)) λz=>by
  obtain⟨hb,e⟩:=adI z;obtain⟨j,B,M,_⟩:=hf p.1 hb;obtain⟨o,e',d⟩:=U p.1 hb;rw[e] at e';cases e'
  exact⟨e,j,B,M,d⟩
def Inv.CD{pl:List (ar×Obj)}{σ:qr}{H:Hp}(I:Inv X (pins++pl) σ H s):Inv X pins σ H s:=I.SS λp hp=>I.pin p (kQ _ (pR _ hp))
def iS{l:ek}{a:List el}{G:TI}{g:TG}{tb:TS}(hp:PassesOwn (bj X.prog X.w) X.A X.env X.xe)(hc:X.calm=true)(hi:PI X tg l G)(hg:PG X tg g)(hb:lz X a tb)
  (hs:∀x,fw l X.env x=pure x:=by intro _;rfl):PS X (.For tg l a [] pos) (pA G g tb):=by
 intro pins s σ H D I h;refine wpAny_For (aS (hi pins s σ H _ I h) λv s1 h1=>aS h1 λitv s2 h2=>?_) hs;obtain⟨it,fp,tn,J,H2,e,I2,T,st2,M,W,⟨m0,V⟩,B⟩:=h2;subst e;have pG:∀{H':Hp},(∀b∈fp,H' b=none)->∀b∈fp,nP X pins H' b:=λhn b hb=>⟨hn b hb,(M b hb).2⟩;refine codeAny_forLoop_any (λn s'=>∃i σ' H',Inv X pins σ' H' s'/\tn i s'.heap/\(∀b∈fp,H' b=none)/\W i n σ' H') ?_ m0 ⟨0,σ,H2,I2,st2,λb hb=>(M b hb).1,V⟩;rintro n s3 ⟨i,σ3,H3,I3,st3,fr3,w3⟩;rcases B i n σ3 H3 w3 with ⟨stop,qn⟩|⟨go,N,hN,step⟩
 .refine ec hp (aS (T.done X rfl rfl rfl hc i pins s3 σ3 H3 X.xe I3 (pG fr3) st3 stop) λr s4 ⟨hr,k⟩=>?_);subst hr;exact gO ⟨σ3,H3,k,qn⟩
 .refine ec hp (aS (T.item X rfl rfl rfl hc i pins s3 σ3 H3 X.xe I3 (pG fr3) st3 go) λr s4 ⟨u,hr,h4⟩=>?_);subst hr;refine ec hp (aS h4 λ_ s5 ⟨x,H5,I5,r5,y5,o9,Jx⟩=>?_);have Fi:=I5.pinned (pG Jx) (T.obj _ _ o9);refine ec hp (aS (hg _ s5 σ3 H5 x u _ Fi r5 (step x H5 y5)) λ_ s6 ⟨xF,H6,I6,q6⟩=>?_);refine ec hp (aS (hb _ s6 xF H6 _ I6 q6) λf s7 q7=>?_);have again:∀{c:qr} {H7:Hp},Inv X (pins++yd fp s5.heap) c H7 s7->N c H7->∃m,m<n/\∃i σ' H',Inv X pins σ' H' s7/\tn i s7.heap/\(∀b∈fp,H' b=none)/\W i m σ' H':=λ{c H7} L j=>by
   obtain⟨R,hm,q⟩:=hN c H7 j;refine⟨R,hm,i+1,c,H7,L.CD,T.keep _ _ _ o9 λb hb o e=>(L.pin (b,o) (kQ _ (kQ _ (D8 hb e)))).1,λb hb=>?_,q⟩;obtain⟨o,e,d⟩:=T.obj _ _ o9 b hb;exact(L.pin (b,o) (kQ _ (kQ _ (D8 hb e)))).2.1
  cases f with
  |next=>obtain⟨c,H7,L,j⟩:=q7;exact again L j
  |cont=>obtain⟨c,H7,L,j⟩:=q7;exact again L j
  |brk=>obtain⟨c,H7,L,q7⟩:=q7;exact⟨c,H7,L.CD,q7⟩
  |ret v=>obtain⟨S,c,H7,L,p,q7⟩:=q7;exact⟨S,c,H7,L.CD,p,q7⟩
end
theorem G9{K:PySem.W.Frag}{xs:List V}{g:TG}{tb:TS}{D:Ends}{σ:qr}{H:Hp}(Pv:Nat->qr->Hp->Prop)(h0:Pv 0 σ H)(hl:∀i σ H,i<=xs.length->Pv i σ H->bL K H a xs)
  (hs:∀i x σ H,xs[i]?=some x->Pv i σ H->g x σ H λk H2=>tb {D with nx:=Pv (i+1),ct:=Pv (i+1),bk:=D.nx} k H2) (hd:∀σ H,Pv xs.length σ H->D.nx σ H):
  ∃W:Nat->Nat->qr->Hp->Prop,(∃m,W 0 m σ H)/\∀i m σ H,W i m σ H->
   ((rj K a).stop i H/\D.nx σ H)\/((rj K a).go i H/\∃N:qr->Hp->Prop,(∀M H',N M H'->∃R,R<m/\W (i+1) R M H')/\∀x H',(rj K a).nO i H x H'->g x σ H' λk H2=>tb {D with nx:=N,ct:=N,bk:=D.nx} k H2):=by
 refine⟨λi m σ H=>m=xs.length-i/\i<=xs.length/\Pv i σ H,⟨xs.length,by simp,iP _,h0⟩,?_⟩;rintro i m σ H ⟨rfl,hi,p⟩;have q:=hl i σ H hi p;by_cases hlt:i<xs.length
 .refine .inr ⟨⟨xs,xs[i],q,by simp[hlt]⟩,Pv (i+1),λM H' j=>⟨xs.length-(i+1),∅,rfl,hlt,j⟩,λx H' y=>?_⟩;obtain⟨e,y⟩:=y;subst e;exact hs i x σ _ (y xs q) p
 .have e:i=xs.length:=∅
  subst e;exact .inl ⟨⟨xs,q,aW _⟩,hd σ H p⟩
theorem M1{lo:Int}{g:TG}{tb:TS}{D:Ends}{σ:qr}{H:Hp}(Pv:Nat->qr->Hp->Prop)(h0:Pv 0 σ H)
  (hs:∀i σ H,i<n->Pv i σ H->g (.int (lo+i)) σ H λk H2=>tb {D with nx:=Pv (i+1),ct:=Pv (i+1),bk:=D.nx} k H2) (hd:∀σ H,Pv n σ H->D.nx σ H):
  ∃W:Nat->Nat->qr->Hp->Prop,(∃m,W 0 m σ H)/\∀i m σ H,W i m σ H->
   ((lC lo n).stop i H/\D.nx σ H)\/((lC lo n).go i H/\∃N:qr->Hp->Prop,(∀M H',N M H'->∃R,R<m/\W (i+1) R M H')/\∀x H',(lC lo n).nO i H x H'->g x σ H' λk H2=>tb {D with nx:=N,ct:=N,bk:=D.nx} k H2):=by
 refine⟨λi m σ H=>m=n-i/\i<=n/\Pv i σ H,⟨n,by simp,iP _,h0⟩,?_⟩;rintro i m σ H ⟨rfl,hi,p⟩;by_cases hlt:i<n
 .refine .inr ⟨hlt,Pv (i+1),λM H' j=>⟨n-(i+1),∅,rfl,hlt,j⟩,λx H' y=>?_⟩;obtain⟨e,y⟩:=y;subst e y;exact hs i σ _ hlt p
 .have e:i=n:=∅
  subst e;exact .inl ⟨aW _,hd σ H p⟩
def ag1{c:TT}{tb:TS}{D:Ends}{σ:qr}{H:Hp}(Pv:qr->Hp->Prop)(a:qr->Hp->Nat)(h0:Pv σ H)
  (hs:∀σ H,Pv σ H->c σ H λb H1=>if b=true then tb {D with nx:=λM H'=>Pv M H'/\a M H'<a σ H,ct:=λM H'=>Pv M H'/\a M H'<a σ H,bk:=D.nx} σ H1 else D.nx σ H1)
  (mono:∀σ H Q d,(∀b H1,Q b H1->d b H1)->c σ H Q->c σ H d):Fo c tb D σ H:=by
 refine⟨λm σ H=>m=a σ H/\Pv σ H,⟨_,rfl,h0⟩,?_⟩;rintro m σ H ⟨rfl,p⟩;refine mono σ H _ _ (λb H1 q=>?_) (hs σ H p);cases b with
 |true=>exact⟨_,λM H' ⟨j,l⟩=>⟨_,l,rfl,j⟩,q⟩
 |false=>exact q
abbrev R2:=V->V->Hp->VK->Prop
def fu(X:Cx)(f:ag->ag->Sem ag)(r:R2):Prop:=
 ∀(pins:List (ar×Obj)) (s:aw) (σ:qr) (H:Hp) (x y:V) (v u:ag) (Q:VK),Inv X pins σ H s->RelV x v->RelV y u->r x y H Q->
  wpAny (bj X.prog X.w) X.A (f v u) (EP X pins σ Q) X.xe s
def IF(X:Cx)(f:ag->Sem ag)(r:V->Hp->VK->Prop):Prop:=
 ∀(pins:List (ar×Obj)) (s:aw) (σ:qr) (H:Hp) (x:V) (v:ag) (Q:VK),Inv X pins σ H s->RelV x v->r x H Q->
  wpAny (bj X.prog X.w) X.A (f v) (EP X pins σ Q) X.xe s
def iK(X:Cx)(f:ag)(r:List V->Hp->VK->Prop):Prop:=
 ∀(pins:List (ar×Obj)) (s:aw) (σ:qr) (H:Hp) (xs:List V) (us:List ag) (Q:VK),Inv X pins σ H s->Vals xs us->r xs H Q->
  wpAny (bj X.prog X.w) X.A (call f us) (EP X pins σ Q) X.xe s
def yn(X:Cx)(r:V->Hp->(Bool->Hp->Prop)->Prop):Prop:=
 ∀(pins:List (ar×Obj)) (s:aw) (σ:qr) (H:Hp) (x:V) (v:ag) (Q:Bool->Hp->Prop),Inv X pins σ H s->RelV x v->r x H Q->
  wpAny (bj X.prog X.w) X.A (truthy v) (TP X pins σ Q) X.xe s
def er(r:R2)(ta tb:TE):TE:=λσ H Q=>ta σ H λx H1=>tb σ H1 λy H2=>r x y H2 Q
def Fg(r:V->Hp->VK->Prop)(ta:TE):TE:=λσ H Q=>ta σ H λx H1=>r x H1 Q
def rI(C:Int->Int->Prop)(g:Int->Int->V):R2:=λx y H Q=>∃i j,x= .int i/\y= .int j/\C i j/\Q (g i j) H
def jk(g:Int->Int->V):R2:=λx y H Q=>∃i j,x= .int i/\y= .int j/\Q (g i j) H
def rU(g:Int->V):V->Hp->VK->Prop:=λx H Q=>∃i,x= .int i/\Q (g i) H
section
variable{X:Cx}{a b c:ek}{ta tb tc:TE}{pos:Pos}
def E4(ha:PE X a ta)(hb:PE X b tb){pins:List (ar×Obj)}{s:aw}{σ:qr}{H:Hp}{R:V->V->Hp->Prop}(I:Inv X pins σ H s)
  (h:ta σ H λx H1=>tb σ H1 λy H2=>R x y H2) {Q:ag->aw->Prop} {f:ag->ag->Sem ag}
  (hf:∀v u s2 x y H2,Inv X pins σ H2 s2->RelV x v->RelV y u->R x y H2->wpAny (bj X.prog X.w) X.A (f v u) Q X.xe s2):
  wpAny (bj X.prog X.w) X.A (eval a X.env) (λv s₁=>wpAny (bj X.prog X.w) X.A (eval b X.env) (λu d=>wpAny (bj X.prog X.w) X.A (f v u) Q X.xe d) X.xe s₁) X.xe s:=by
 refine aS (ha pins s σ H _ I h) λv s1 ⟨x,H1,I1,g,J⟩=>?_;refine aS (hb pins s1 σ H1 _ I1 J) λu s2 ⟨y,H2,I2,O,M⟩=>?_;exact hf v u s2 x y H2 I2 g O M
def aR{op:v3}{r:R2}(U:fu X (g6 op) r)(ha:PE X a ta)(hb:PE X b tb):PE X (.BinOp a op b pos) (er r ta tb):=by
 intro pins s σ H Q I h;exact wpAny_BinOp (E4 ha hb I h λv u s2 x y H2 I2 j d q=>U pins s2 σ H2 x y v u Q I2 j d q)
def wg{op:UnaryOp}{r:V->Hp->VK->Prop}(U:IF X (unaryOp op) r)(ha:PE X a ta):PE X (.UnaryOp op a pos) (Fg r ta):=by
 intro pins s σ H Q I h;exact UnaryOp_ (aS (ha pins s σ H _ I h) λv s1 ⟨x,H1,I1,g,J⟩=>U pins s1 σ H1 x v Q I1 g J)
def B6{f:ag->ag->Sem ag}{C:Int->Int->Prop}{g:Int->Int->Int}
  (rule:∀(i j:Int) (t u:Tok) (s:aw) (Q:ag->aw->Prop) (E:ag->aw->Prop),C i j->Q (.int (g i j) s.toks) {s with toks:=s.toks+1}->wpAny (bj X.prog X.w) X.A (f (.int i t) (.int j u)) Q E s):
  fu X f (rI C λi j=> .int (g i j)):=by
 intro pins s σ H x y v u Q I rx ry h;obtain⟨i,j,rfl,rfl,hc,q⟩:=h;obtain⟨t,rfl⟩:=rx;obtain⟨t',rfl⟩:=ry;exact rule i j t t' s _ _ hc ⟨.int (g i j),H,I.tok _,⟨_,rfl⟩,q⟩
def SR{f:ag->ag->Sem ag}{g:Int->Int->Int}
  (rule:∀(i j:Int) (t u:Tok) (s:aw) (Q:ag->aw->Prop) (E:ag->aw->Prop),Q (.int (g i j) s.toks) {s with toks:=s.toks+1}->wpAny (bj X.prog X.w) X.A (f (.int i t) (.int j u)) Q E s):
  fu X f (jk λi j=> .int (g i j)):=by
 intro pins s σ H x y v u Q I rx ry h;obtain⟨i,j,rfl,rfl,q⟩:=h;obtain⟨t,rfl⟩:=rx;obtain⟨t',rfl⟩:=ry;exact rule i j t t' s _ _ ⟨.int (g i j),H,I.tok _,⟨_,rfl⟩,q⟩
def BU{f:ag->ag->Sem ag}{g:Int->Int->Bool}
  (rule:∀(i j:Int) (t u:Tok) (s:aw) (Q:ag->aw->Prop) (E:ag->aw->Prop),Q (.bool (g i j)) s->wpAny (bj X.prog X.w) X.A (f (.int i t) (.int j u)) Q E s):
  fu X f (jk λi j=> .bl (g i j)):=by
 intro pins s σ H x y v u Q I rx ry h;obtain⟨i,j,rfl,rfl,q⟩:=h;obtain⟨t,rfl⟩:=rx;obtain⟨t',rfl⟩:=ry;exact rule i j t t' s _ _ ⟨.bl (g i j),H,I,rfl,q⟩
def Ek(i j:Int):Prop:=0<=j/\j<=1000000/\i.natAbs<2^64
def Bx(i j:Int):Prop:=(-(2^64)<i/\i<2^64)\/(-(2^64)<j/\j<2^64)
def Bx.ok{i j:Int}(h:Bx i j):IntMulOk i j:=by
 rcases h with ⟨h1,h2⟩|⟨h1,h2⟩
 .exact .of_left (sm h1 h2)
 .exact .of_right (sm h1 h2)
def iA:fu X (g6 .Add) (jk λi j=> .int (i+j)):=SR λ_ _ _ _ _ _ _ q=>add_int q
def m8:fu X (g6 .Sub) (jk λi j=> .int (i-j)):=SR λ_ _ _ _ _ _ _ q=>sub_int q
theorem jU:fu X (g6 .Mod) (rI (λ_ j=>0<j) λi j=> .int (i%j)):=B6 λi j _ _ _ _ _ hc q=>by
 have h1:(0:Int)<j:=hc;exact mod_int' ∅ (by rw[Int.fmod_eq_emod_of_nonneg i ∅];exact q)
def Eb:fu X (g6 .Pow) (rI Ek λi j=> .int (i^j.toNat)):=B6 λ_ _ _ _ _ _ _ hc q=>pow_int_small hc.1 hc.2.1 hc.2.2 q
def Yg{f:ag->Sem ag}{g:Int->Int}
  (rule:∀(i:Int) (t:Tok) (s:aw) (Q:ag->aw->Prop) (E:ag->aw->Prop),Q (.int (g i) s.toks) {s with toks:=s.toks+1}->wpAny (bj X.prog X.w) X.A (f (.int i t)) Q E s):
  IF X f (rU λi=> .int (g i)):=by
 intro pins s σ H x v Q I rx h;obtain⟨i,rfl,q⟩:=h;obtain⟨t,rfl⟩:=rx;exact rule i t s _ _ ⟨.int (g i),H,I.tok _,⟨_,rfl⟩,q⟩
def xM:IF X (unaryOp .USub) (rU λi=> .int (-i)):=Yg λ_ _ _ _ _ q=>neg_int q
end
noncomputable def G4:V->V->Bool
 | .aN, .aN=>true| .aN, .int _=>true| .int _, .aN=>true| .aN, .bl _=>true| .bl _, .aN=>true| .aN, .str _=>true| .str _, .aN=>true
 | .int _, .int _=>true| .bl _, .bl _=>true| .str _, .str _=>true| .kX _, .kX _=>true
 | .int _, .str _=>true| .str _, .int _=>true| .bl _, .str _=>true| .str _, .bl _=>true
 |_,_=>false
def Gg:R2:=λx y H Q=>G4 x y=true/\Q (.bl (decide (x=y))) H
def G6:R2:=λx y H Q=>G4 x y=true/\Q (.bl (!decide (x=y))) H
def Ms{i j:Int}:decide (V.int i=V.int j)=(i==j):=by
 rw[t9];simp
def OF{i j:Bool}:decide (V.bl i=V.bl j)=(i==j):=by
 rw[t9];simp
def K8{i j:Str}:decide (V.str i=V.str j)=(i==j):=by
 rw[t9];simp
def NK{i j:Array UInt8}:decide (V.kX i=V.kX j)=(i.toList==j.toList):=by
 rw[t9];cases i;cases j;simp
section
variable{X:Cx}{a b c:ek}{ta tb tc:TE}{pos:Pos}
def eT{σ:qr}{H:Hp}{Q:VK}{k t:Bool}(I:Inv X pins σ H s)(q:Q (.bl k) H)(e:k=t):EP X pins σ Q (.bool t) s:=by
 subst e;exact⟨.bl k,H,I,rfl,q⟩
def je:fu X (da .Eq) Gg:=by
  intro pins s σ H x y v u Q I rx d h;obtain⟨hs,q⟩:=h;cases x with
  | aN =>
    cases rx;cases y with
    |aN=>cases d;exact PySem.EqNone.eq_none_none (eT I q (by simp))
    |bl j=>cases d;exact PySem.EqNone.eq_none_bool (eT I q (by simp))
    |int j=>obtain⟨t',rfl⟩:=d;exact PySem.EqNone.eq_none_int (eT I q (by simp))
    |str j=>obtain⟨t',rfl⟩:=d;exact PySem.EqNone.eq_none_str (eT I q (by simp))
    |_=>exact absurd (show false=true from hs) eB
  | bl i =>
    cases rx;cases y with
    |aN=>cases d;exact PySem.EqNone.eq_bool_none (eT I q (by simp))
    |bl j=>cases d;exact eq_bool (eT I q OF)
    |str j=>obtain⟨t',rfl⟩:=d;exact PySem.EqMixed.eq_bool_str (eT I q (by simp))
    |_=>exact absurd (show false=true from hs) eB
  | int i =>
    obtain⟨t,rfl⟩:=rx;cases y with
    |aN=>cases d;exact PySem.EqNone.eq_int_none (eT I q (by simp))
    |int j=>obtain⟨t',rfl⟩:=d;exact eq_int (eT I q Ms)
    |str j=>obtain⟨t',rfl⟩:=d;exact PySem.EqMixed.eq_int_str (eT I q (by simp))
    |_=>exact absurd (show false=true from hs) eB
  | str i =>
    obtain⟨t,rfl⟩:=rx;cases y with
    |aN=>cases d;exact PySem.EqNone.eq_str_none (eT I q (by simp))
    |bl j=>cases d;exact PySem.EqMixed.eq_str_bool (eT I q (by simp))
    |int j=>obtain⟨t',rfl⟩:=d;exact PySem.EqMixed.eq_str_int (eT I q (by simp))
    |str j=>obtain⟨t',rfl⟩:=d;exact eq_str (eT I q K8)
    |_=>exact absurd (show false=true from hs) eB
  | kX i =>
    obtain⟨t,rfl⟩:=rx;cases y with
    |kX j=>obtain⟨t',rfl⟩:=d;exact PySem.W.eq_bytes (eT I q NK)
    |_=>exact absurd (show false=true from hs) eB
  |_=>cases y<;>exact absurd (show false=true from hs) eB
def oG:fu X (da .NotEq) G6:=by
  intro pins s σ H x y v u Q I rx d h;obtain⟨hs,q⟩:=h;cases x with
  | aN =>
    cases rx;cases y with
    |aN=>cases d;exact PySem.EqNone.ne_none_none (eT I q (by simp))
    |bl j=>cases d;exact PySem.EqNone.ne_none_bool (eT I q (by simp))
    |int j=>obtain⟨t',rfl⟩:=d;exact PySem.EqNone.ne_none_int (eT I q (by simp))
    |str j=>obtain⟨t',rfl⟩:=d;exact PySem.EqNone.ne_none_str (eT I q (by simp))
    |_=>exact absurd (show false=true from hs) eB
  | bl i =>
    cases rx;cases y with
    |aN=>cases d;exact PySem.EqNone.ne_bool_none (eT I q (by simp))
    |bl j=>cases d;exact ne_bool (eT I q (congrArg not OF))
    |str j=>obtain⟨t',rfl⟩:=d;exact PySem.EqMixed.ne_bool_str (eT I q (by simp))
    |_=>exact absurd (show false=true from hs) eB
  | int i =>
    obtain⟨t,rfl⟩:=rx;cases y with
    |aN=>cases d;exact PySem.EqNone.ne_int_none (eT I q (by simp))
    |int j=>obtain⟨t',rfl⟩:=d;exact ne_int (eT I q (congrArg not Ms))
    |str j=>obtain⟨t',rfl⟩:=d;exact PySem.EqMixed.ne_int_str (eT I q (by simp))
    |_=>exact absurd (show false=true from hs) eB
  | str i =>
    obtain⟨t,rfl⟩:=rx;cases y with
    |aN=>cases d;exact PySem.EqNone.ne_str_none (eT I q (by simp))
    |bl j=>cases d;exact PySem.EqMixed.ne_str_bool (eT I q (by simp))
    |int j=>obtain⟨t',rfl⟩:=d;exact PySem.EqMixed.ne_str_int (eT I q (by simp))
    |str j=>obtain⟨t',rfl⟩:=d;exact ne_str (eT I q (congrArg not K8))
    |_=>exact absurd (show false=true from hs) eB
  | kX i =>
    obtain⟨t,rfl⟩:=rx;cases y with
    |kX j=>obtain⟨t',rfl⟩:=d;exact PySem.W.ne_bytes (eT I q (congrArg not NK))
    |_=>exact absurd (show false=true from hs) eB
  |_=>cases y<;>exact absurd (show false=true from hs) eB
def vA:fu X (da .Lt) (jk λi j=> .bl (decide (i<j))):=BU λ_ _ _ _ _ _ _ q=>lt_int q
def C2:fu X (da .LtE) (jk λi j=> .bl (decide (i<=j))):=BU λ_ _ _ _ _ _ _ q=>le_int q
def K5:fu X (da .Gt) (jk λi j=> .bl (decide (j<i))):=BU λ_ _ _ _ _ _ _ q=>gt_int q
def Gb:fu X (da .GtE) (jk λi j=> .bl (decide (j<=i))):=BU λ_ _ _ _ _ _ _ q=>ge_int q
def Xm:fu X (da .Is) (λx y H Q=>y= .aN/\Q (.bl (decide (x= .aN))) H):=by
 intro pins s σ H x y v u Q I j ry h;obtain⟨rfl,q⟩:=h;cases ry;refine is_none_gen (eT I q ?_)
 cases x<;>first
  |(cases j;rfl)
  |(obtain⟨t,rfl⟩:=j;rfl)
def Yz:fu X (da .IsNot) (λx y H Q=>y= .aN/\Q (.bl (!decide (x= .aN))) H):=by
 intro pins s σ H x y v u Q I j ry h;obtain⟨rfl,q⟩:=h;cases ry;refine isnot_none_gen (eT I q ?_)
 cases x<;>first
  |(cases j;rfl)
  |(obtain⟨t,rfl⟩:=j;rfl)
def bM(b:ek){op:CmpOp}(h:op≠ .In:=by decide)(h2:op≠ .NotIn:=by decide):behindInMarks op b=false:=by
 have e1:(op==CmpOp.In)=false:=by cases op<;>first|rfl|exact absurd rfl h
 have e2:(op==CmpOp.NotIn)=false:=by cases op<;>first|rfl|exact absurd rfl h2
 cases b<;>simp[behindInMarks,e1,e2]
def ur{op:CmpOp}{r:R2}(U:fu X (da op) r)(ha:PE X a ta)(hb:PE X b tb)(hm:behindInMarks op b=false):PE X (.Compare a [op] [b] pos) (er r ta tb):=by
 intro pins s σ H Q I h;exact wpAny_Compare1 (E4 ha hb I h λv u s2 x y H2 I2 j d q=>U pins s2 σ H2 x y v u Q I2 j d q) hm
def IV(t:TE):TT:=λσ H Q=>t σ H λx H'=>∃k,x= .bl k/\Q k H'
def bN{op:CmpOp}{r:R2}(U:fu X (da op) r)(ha:PE X a ta)(hb:PE X b tb)(hm:behindInMarks op b=false):PT X (.Compare a [op] [b] pos) (IV (er r ta tb)):=by
 intro pins s σ H Q I h
 refine wpAny_isTrue_Compare1 (aS (ha pins s σ H _ I h) λv s1 ⟨x,H1,I1,g,J⟩=>aS (hb pins s1 σ H1 _ I1 J) λu s2 ⟨y,H2,I2,O,M⟩=>
  aS (U pins s2 σ H2 x y v u _ I2 g O M) λc Z ⟨z,H3,I3,m,k,e,P⟩=>?_) hm
 subst e;cases m;exact ft ⟨H3,I3,P⟩
def Jv(K:PySem.W.Frag)(x:V)(H:Hp)(k:Bool):Prop:=
 match x with
 | .aN=>k=false
 | .bl b=>k=b
 | .int i=>k=(i !=0)
 | .str y=>y.length<=sizeLine/\k=((y.length:Int) !=0)
 | .kX y=>y.size<=sizeLine/\k=((y.size:Int) !=0)
 | .ref p=>(∃xs,bL K H p xs/\k=!xs.isEmpty)\/(∃xs,i7 K H p xs/\k=!xs.isEmpty)\/∃kvs,H p=some (.dK kvs)/\k=!kvs.isEmpty
 |_=>False
def acm{κ:Type}{kvs:List (κ×V)}{vs:List (κ×ag)}(r:KV kvs vs):(!vs.isEmpty)=!kvs.isEmpty:=by
 cases r<;>rfl
def Na{xs:List V}(r:Vals xs its):(!its.toArray.isEmpty)=!xs.isEmpty:=by
 cases r<;>simp
def uc:(sizeLine:Nat)<2^63:=by rw[i5];decide
theorem QP:yn X (λx H Q=>∃k,Jv X.K x H k/\Q k H):=by
  intro pins s σ H x v Q I rx h;obtain⟨k,e,q⟩:=h;have hl:=uc;have hs:sizeLine=16777216:=i5;cases x with
  | aN =>
    cases rx;have e':k=false:=e;subst e';exact truthy_none ⟨H,I,q⟩
  | bl b =>
    cases rx;have e':k=b:=e;subst e';exact ft ⟨H,I,q⟩
  | int i =>
    obtain⟨t,rfl⟩:=rx;have e':k=(i !=0):=e;subst e';exact PySem.P.truthy_int ⟨H,I,q⟩
  | str y =>
    obtain⟨t,rfl⟩:=rx;obtain⟨hy,e'⟩:y.length<=sizeLine/\k=((y.length:Int) !=0):=e;subst e';exact PySem.P.truthy_str ∅ ⟨H,I.tok _,q⟩
  | kX y =>
    obtain⟨t,rfl⟩:=rx;obtain⟨hy,e'⟩:y.size<=sizeLine/\k=((y.size:Int) !=0):=e;subst e';exact PySem.W.truthy_bytes ∅ ⟨H,I.tok _,q⟩
  | ref p =>
    cases rx;have e':(∃xs,bL X.K H p xs/\k=!xs.isEmpty)\/(∃xs,i7 X.K H p xs/\k=!xs.isEmpty)\/∃kvs,H p=some (.dK kvs)/\k=!kvs.isEmpty:=e;rcases e' with ⟨xs,hx,e'⟩|⟨xs,hx,e'⟩|⟨kvs,hx,e'⟩
    · subst e'
      obtain⟨its,r,pl,hz⟩:=I.list hx;have hlen:=r.length;exact wpAny_truthy_list pl.isList (by simp only[fk];omega) ⟨H,I.tok _,by rw[Na r];exact q⟩
    · subst e'
      obtain⟨its,r,pl,hz⟩:=I.tuple hx;have hlen:=r.length;exact truthy_tuple pl (by simp only[fk];omega) ⟨H,I.tok _,by rw[Na r];exact q⟩
    · subst e'
      obtain⟨hz,N,vs,r,m⟩:kvs.length<=sizeLine/\(p==eD)=false/\∃vs,KV kvs vs/\s.heap.DictOf (iy X.prog X.w) p vs:=I.hok p _ hx;have hlen:kvs.length=vs.length:=Paired.length r;exact wpAny_truthy_dict N m ∅ ⟨H,I.tok _,by rw[acm r];exact q⟩
  |_=>exact(show False from e).elim
def xC(ha:PE X a ta)(he:∀whole,isTrue a X.env whole=(do let v<-whole;standAt a.pos;holding [v] (truthy v))):
  PT X a (λσ H Q=>ta σ H λx H'=>∃k,Jv X.K x H' k/\Q k H'):=by
 intro pins s σ H Q I h;exact isTrue_plain (aS (ha pins s σ H _ I h) λv s1 ⟨x,H1,I1,g,J⟩=>QP pins s1 σ H1 x v Q I1 g J) (he _)
def vals1{x:V}(r:Vals [x] us):∃u,us=[u]/\RelV x u:=by
 cases r with
 |cons g O=>cases O;exact⟨_,rfl,g⟩
def vals2{x y:V}(r:Vals [x,y] us):∃u w',us=[u,w']/\RelV x u/\RelV y w':=by
  cases r with
  | cons g O =>
    cases O with
    |cons m l=>cases l;exact⟨_,_,rfl,g,m⟩
def QB:iK X (.builtin "abs") (λxs H Q=>∃i,xs=[.int i]/\Q (.int (if i<0 then-i else i)) H):=by
 intro pins s σ H xs us Q I r h;obtain⟨i,rfl,q⟩:=h;obtain⟨u,rfl,t,rfl⟩:=vals1 r;exact call_abs_int λu tk=>⟨.int (if i<0 then-i else i),H,I.tok _,⟨_,rfl⟩,q⟩
def Rk(hc:X.calm=true):iK X (.builtin "min") (λxs H Q=>∃i j,xs=[.int i, .int j]/\Q (.int (if j<i then j else i)) H):=by
 intro pins s σ H xs us Q I r h;obtain⟨i,j,rfl,q⟩:=h;obtain⟨u,w',rfl,⟨t,rfl⟩,⟨t',rfl⟩⟩:=vals2 r;refine min_two_ints (I.ok.hd hc) λh' tk k=>⟨_,H,I.kept k,?_,q⟩;by_cases O:j<i;·rw[if_pos O,if_pos O];exact⟨_,rfl⟩
 .rw[if_neg O,if_neg O];exact⟨_,rfl⟩
def Hx:iK X (.type "int") (λxs H Q=>(∃i,xs=[.int i]/\Q (.int i) H)\/∃k,xs=[.bl k]/\Q (.int (if k then 1 else 0)) H):=by
 intro pins s σ H xs us Q I r h;rcases h with ⟨i,rfl,q⟩|⟨k,rfl,q⟩
 .obtain⟨u,rfl,t,rfl⟩:=vals1 r;exact call_int_int ⟨.int i,H,I,⟨_,rfl⟩,q⟩
 .obtain⟨u,rfl,g⟩:=vals1 r;cases g;exact call_int_bool ⟨.int (if k then 1 else 0),H,I.tok _,⟨_,rfl⟩,q⟩
end
structure rz(h:eh)(x dx C:ar)(mA:Str->Option ag):Prop where
 obj:h.get? x=some (PySem.W.instObj C dx)
 ns:h.Ns1 dx mA
 ne:dx≠x
def YX(n:h.Ns1 dx mA):∃od,h.get? dx=some od/\∀name,PySem.W.lookIn name od=some (mA name):=by
 obtain⟨o,es,ep,U,hd,hk,_,hm⟩:=n;refine⟨o,U,λname=>?_⟩;have e:=hm name;unfold nsFind findBy at e;rw[<-Array.find?_toList] at e;unfold PySem.W.lookIn;rw[hd];dsimp only;split
 .rename_i y q
  rw[q] at e;exact congrArg some e
 .rename_i q
  rw[q] at e;have a:es.toList.any (·.refKey)=false:=by
   rw[lr];intro y hy;obtain⟨z,t,b⟩:=hk y (Array.mem_toList_iff.mp hy);simp[wO,b]
  have a':¬es.toList.any (·.refKey)=true:=by rw[a];exact eB
  rw[if_neg a'];exact congrArg some e
def rz.look{x:ar}(I:rz h x dx C mA):∃od,PySem.W.InstAt h x (PySem.W.instObj C dx) C (some od)/\∀name,PySem.W.lookIn name od=some (mA name):=
 let ⟨od,U,hl⟩:=YX I.ns
 ⟨od,⟨I.obj,rfl,rfl,U⟩,hl⟩
section
variable{prog:bo}{w:cx}{A:c4}{E:ag->aw->Prop}{s:aw}{K:PySem.W.Frag}{x dx C f:ar}{mA:Str->Option ag}{name:Str}{v:ag}
def get_map{a:Bool}(X:K.In s.heap)(I:rz s.heap x dx C mA)(hg:PySem.W.plainGet K C name=true)(L:PySem.W.hasDictIn K C=true)
  (ha:PySem.W.findIn K (.ref C) name=some none) (hv:mA name=some v) (b:PySem.W.handedIn v=true) (h:Q v {s with toks:=s.toks+1}):
  wpAny (bj prog w) A (getAttr (.ref x) name a) Q E s:=by
 obtain⟨od,J,hl⟩:=I.look;exact PySem.W.get_value X J (Io hg).1 (PySem.W.findObj_own L ha rfl (by rw[hl,hv])) b h
def Pl{Q:ag×List ag->aw->Prop}(X:K.In s.heap)(I:rz s.heap x dx C mA)(hg:PySem.W.plainGet K C name=true)
  (hf:PySem.W.findIn K (.ref C) name=some (some (.ref f))) (ht:PySem.W.isFn K (.ref f)=true) (hv:mA name=none) (h:Q (.ref f,[.ref x]) s):
  wpAny (bj prog w) A (hJ (.ref x) name pl) Q E s:=by
 obtain⟨od,J,hl⟩:=I.look;exact PySem.W.method_fn X J (Io hg).1 (Io hg).2 hf (beq_iff_eq.mp ht) (by show(PySem.W.lookIn name od).map (·.isSome)=some false;rw[hl,hv];rfl) h
theorem Zy{ns:List Str}{Q:Unit->aw->Prop}(X:K.In s.heap)(I:rz s.heap x dx C mA)
  (hs:PySem.W.findIn K (.ref C) "__setattr__"=some (some (.builtin "object.__setattr__"))) (hp:PySem.W.plainOver K C=true) (ht:PySem.W.takerIn K C name=some none) (L:PySem.W.hasDictIn K C=true)
  (hw:PySem.Within mA ns) (hsz:ns.length<=sizeLine)
  (h:∀h',rz h' x dx C (λy=>if y=name then some v else mA y)->eu dx s.heap h'->Q () {s with heap:=h',toks:=s.toks+2}):
  wpAny (bj prog w) A (setAttr (.ref x) name v) Q E s:=by
 obtain⟨od,J,hl⟩:=I.look;refine PySem.W.set_plain X J hs (PySem.W.osa_open (s:={s with toks:=s.toks+1}) (r:=none) X J hp ht λb=>?_);obtain⟨j,hc,hd'⟩:=PySem.W.any_some L;have hx:s.heap.get? x=some ⟨.ref C,some dx, .plain,#[]⟩:=I.obj;refine ae (a3 (ae (ae (wpAny_loadPart hx (ae (PySem.W.Looks.here (s:={s with toks:=s.toks+1}) (PySem.W.looks_clsIn X hc) ?_))))));rw[hd'];refine a3 (a:=some dx) (ae (a3 (ae ?_)));refine wpAny_nsSet1 (s:={s with toks:=s.toks+1}) I.ns λh' t hs2=>?_;obtain⟨oD,f,d,c,g,e⟩:=t.count (PySem.Within.cons name v hw);refine ae (wpAny_lookBehind c (by rw[g];exact pastItsLine_dict (cU e (by rw[dM];omega))) ?_);exact a3 (h _ ⟨(hs2.2 _ (cY I.ne)).trans I.obj,t,I.ne⟩ hs2)
def aeB{R:Result->aw->Prop}{vs:List ag}{a:List (Str×ag)}(X:K.In s.heap)(hm:PySem.W.makesIn K C=true)
  (hi:PySem.W.findIn K (.ref C) "__init__"=some (some (.ref f))) (hf:PySem.W.typeIn K (.ref f)=some (.type "function"))
  (h : codeAny (model prog w) (A.under (.builtin "type.__call__" ⟨.ref C :: vs, a⟩)) (.call (.ref f) ⟨.ref (s.heap.objs.size + 1) :: vs, a⟩) (PySem.W.InitBack (s.heap.objs.size + 1) R)
   {s with heap:=(s.heap.push PySem.W.emptyDict).push (PySem.W.instObj C s.heap.objs.size)}):
  codeAny (bj prog w) A (.call (.ref C) ⟨vs,a⟩) R s:=by
 obtain⟨L,g,d,t,os⟩:=s;exact PySem.W.make_core (PySem.W.makes_of X hm) (PySem.W.looks_findIn X hi) (λself=>PySem.W.bind_fn X self hf) (.inl rfl) h
end
noncomputable def gQ(f:Str)(v:V):List (Str×V)->List (Str×V)
 |[]=>[(f,v)]
 |(g,x)::r=>if g=f then(g,v)::r else(g,x)::gQ f v r
theorem M8(f g:Str)(v:V):∀fs:List (Str×V),(gQ f v fs).lookup g=if g=f then some v else fs.lookup g
  | [] => by
    show fx g [(f,v)]=_;by_cases h:g=f
    · have hb:(g==f)=true:=beq_iff_eq.mpr h
      simp only[fx,hb,if_pos h]
    · have hb:(g==f)=false:=beq_eq_false_iff_ne.mpr h
      simp only[fx,hb,if_neg h]
  | (k, x) :: r => by
    have ih:=M8 f g v r;rw[show gQ f v ((k,x)::r)=(if k=f then(k,v)::r else(k,x)::gQ f v r) from rfl];by_cases hk:k=f
    · rw[if_pos hk]
      by_cases h:g=k
      · have hb:(g==k)=true:=beq_iff_eq.mpr h
        simp only[fx,hb,if_pos (h.trans hk)]
      · have hb:(g==k)=false:=beq_eq_false_iff_ne.mpr h
        simp only[fx,hb,if_neg (λe:g=f=>h (e.trans hk.symm))]
    · rw[if_neg hk]
      by_cases h:g=k
      · have hb:(g==k)=true:=beq_iff_eq.mpr h
        simp only[fx,hb,if_neg (λe:g=f=>hk (h.symm.trans e))]
      · have hb:(g==k)=false:=beq_eq_false_iff_ne.mpr h
        simp only[fx,hb];exact ih
theorem EX(f:Str)(v:V):∀fs:List (Str×V),f∈(gQ f v fs).map (·.1)/\∀g,g∈fs.map (·.1)->g∈(gQ f v fs).map (·.1)
  |[]=>⟨by simp[gQ],λg h=>by simp at h⟩
  | (k, x) :: r => by
    obtain⟨R,j⟩:=EX f v r;rw[show gQ f v ((k,x)::r)=(if k=f then(k,v)::r else(k,x)::gQ f v r) from rfl];by_cases hk:k=f
    · rw[if_pos hk]
      subst hk;exact⟨by simp,λg h=>by simpa using h⟩
    · rw[if_neg hk]
      refine⟨?_,λg h=>?_⟩
      · rw[bR]
        exact bV _ R
      · rw[bR] at h⊢
        rcases aM.mp h with e|e
        · exact aM.mpr (.inl e)
        · exact bV _ (j g e)
theorem Ss(f:Str)(v:V):∀fs:List (Str×V),(gQ f v fs).length<=fs.length+1
  |[]=>by simp[gQ]
  | (k, x) :: r => by
    have ih:=Ss f v r;rw[show gQ f v ((k,x)::r)=(if k=f then(k,v)::r else(k,x)::gQ f v r) from rfl];by_cases hk:k=f;· rw[if_pos hk,dM,dM];omega
    · rw[if_neg hk,dM,dM];omega
def i8.some_of{v:V}{o:Option ag}(r:i8 (some v) o):∃u,o=some u/\RelV v u:=by
 cases o with
 |none=>exact(show False from r).elim
 |some u=>exact⟨u,rfl,r⟩
def i8.none_of{o:Option ag}(r:i8 none o):o=none:=by
 cases o with
 |none=>rfl
 |some u=>exact(show False from r).elim
def IE{v:V}(r:RelV v u):PySem.W.handedIn u=true:=by
 cases v with
 |aN=>cases (show u=fo from r);rfl
 |bl b=>cases (show u=ix b from r);rfl
 |int i=>obtain⟨t,e⟩:=(show∃t,u=gd i t from r);cases e;rfl
 |str x=>obtain⟨t,e⟩:=(show∃t,u=hG x t from r);cases e;rfl
 |kX b=>obtain⟨t,e⟩:=(show∃t,u=uZ b t from r);cases e;rfl
 |nI b=>obtain⟨t,e⟩:=(show∃t,u=ot b t from r);cases e;rfl
 |ref a=>cases (show u=cc a from r);rfl
 |ty n=>cases (show u=ea n from r);rfl
section
variable{P:bo}{w:cx}{H H':Hp}{h h':eh}{a C dx:ar}{fs fs':List (Str×V)}
def AB(hok:ff P w H h)(e:H a=some (.ins C dx fs)):∃mA,rz h a dx C mA/\(∀f,i8 (fs.lookup f) (mA f))/\PySem.Within mA (fs.map (·.1))/\fs.length<=1000/\H dx=some (.own a):=by
 obtain⟨d,z,ne,B,mA,n,r,q⟩:=(show dJ P w H h a (.ins C dx fs) from hok a _ e);exact⟨mA,⟨B,n,ne⟩,r,q,z,d⟩
end
structure cD(K:PySem.W.Frag)(C:ar):Prop where
 pg:PySem.W.plainGet K C oC=true
 hd:PySem.W.hasDictIn K C=true
 po:PySem.W.plainOver K C=true
 sa:PySem.W.findIn K (.ref C) "__setattr__"=some (some (.builtin "object.__setattr__"))
def cD.get{K:PySem.W.Frag}(c:cD K C)(f:Str):PySem.W.plainGet K C f=true:=c.pg
def bf(K:PySem.W.Frag)(C:ar)(f:Str):Prop:=PySem.W.findIn K (.ref C) f=some none
def bf.Ym{K:PySem.W.Frag}{f:Str}(n:bf K C f):PySem.W.takerIn K C f=some none:=by
 unfold PySem.W.takerIn;rw[show PySem.W.findIn K (.ref C) f=some none from n]
 rfl
structure Meth(K:PySem.W.Frag)(C:ar)(m:Str)(f:ar):Prop where
 at_:PySem.W.findIn K (.ref C) m=some (some (.ref f))
 fn:PySem.W.isFn K (.ref f)=true
 kp:PySem.W.keepIn K (.ref f)=true
section
variable{X:Cx}{pins:List (ar×Obj)}{σ:qr}{H:Hp}{s:aw}{a C dx:ar}{fs:List (Str×V)}{f:Str}{v:V}{A:c4}{E:ag->aw->Prop}
def agD(I:Inv X pins σ H s)(e:H a=some (.ins C dx fs))(c:cD X.K C)(n:bf X.K C f)(l:fs.lookup f=some v)
  (h:∀u s',Inv X pins σ H s'->RelV v u->Q u s'):wpAny (bj X.prog X.w) A (getAttr (.ref a) f b) Q E s:=by
 obtain⟨mA,O,r,_,_,_⟩:=AB I.hok e;obtain⟨u,Y,D⟩:=i8.some_of (v:=v) (o:=mA f) (by rw[<-l];exact r f);exact get_map I.eE O (c.get f) c.hd n Y (IE D) (h u _ (I.tok _) D)
def Kf{m:Str}{g:ar}{Q:ag×List ag->aw->Prop}(I:Inv X pins σ H s)(e:H a=some (.ins C dx fs))(c:cD X.K C)(k:Meth X.K C m g)(l:fs.lookup m=none)
  (h:Q (.ref g,[.ref a]) s):wpAny (bj X.prog X.w) A (hJ (.ref a) m pl) Q E s:=by
 obtain⟨mA,O,r,_,_,_⟩:=AB I.hok e;have hn:mA m=none:=i8.none_of (by rw[<-l];exact r m);exact Pl I.eE O (c.get m) k.at_ k.fn hn h
theorem Kt{y:V}{Q:Unit->aw->Prop}(I:Inv X pins σ H s)(e:H a=some (.ins C dx fs))(c:cD X.K C)(n:bf X.K C f)(hl:fs.length<1000)(d:RelV y u)
  (h:∀s',Inv X pins σ (upd H a (.ins C dx (gQ f y fs))) s'->Q () s'):wpAny (bj X.prog X.w) A (setAttr (.ref a) f u) Q E s:=by
 obtain⟨mA,O,r,G,_,U⟩:=AB I.hok e;have hz:(fs.map (·.1)).length<=sizeLine:=by rw[aj,i5];omega
 refine Zy I.eE O c.sa c.po n.Ym c.hd G hz λh' i sb=>h _ ?_;have hd:∃o,h'.get? dx=some o:=let ⟨o,_,_,e',_⟩:=i.ns;⟨o,e'⟩;refine I.write (x:=a) (e:=dx) (by rw[e];exact de) (.inr U) (λb q hb z=>(sb.2 b hb).trans z) hd ?_;refine⟨by rw[aG O.ne];exact U,?_,O.ne,i.obj,_,i.ns,λg=>?_,λg hg=>?_⟩;·have:=Ss f y fs;omega
 .show i8 ((gQ f y fs).lookup g) (if g=f then some u else mA g);rw[M8];by_cases q:g=f;·rw[if_pos q,if_pos q];exact d
  .rw[if_neg q,if_neg q];exact r g
 .by_cases q:g=f;·rw[q];exact(EX f y fs).1
  .refine(EX f y fs).2 g (G g λz=>hg ?_);show(if g=f then some u else mA g)=none;rw[if_neg q];exact z
def Inv.made(I:Inv X pins σ H s):Inv X pins σ (upd (upd H s.heap.objs.size (.own (s.heap.objs.size+1))) (s.heap.objs.size+1) (.ins C s.heap.objs.size []))
  {s with heap:=(s.heap.push PySem.W.emptyDict).push (PySem.W.instObj C s.heap.objs.size)}:=by
 have e1:(s.heap.push PySem.W.emptyDict).get? s.heap.objs.size=some PySem.W.emptyDict:=iH s.heap rfl;have e2:((s.heap.push PySem.W.emptyDict).push (PySem.W.instObj C s.heap.objs.size)).get? (s.heap.objs.size+1)=some (PySem.W.instObj C s.heap.objs.size):=by
  have:=iH (s.heap.push PySem.W.emptyDict) (o:=PySem.W.instObj C s.heap.objs.size) rfl;rwa[mY] at this
 have e3:(s.heap.push PySem.W.emptyDict).Ns s.heap.objs.size (λ_=>none):=⟨PySem.W.emptyDict,#[],_,e1,rfl,(λe he=>absurd he (by simp)),λ_=>rfl⟩;have I1:=I.laid (a:=s.heap.objs.size) (o:= .own (s.heap.objs.size+1)) (h':=s.heap.push PySem.W.emptyDict) (t':=s.toks) (λb u q=>dz _ q) (aW _) ⟨_,e1⟩;refine I1.laid (a:=s.heap.objs.size+1) (o:= .ins C s.heap.objs.size []) (t':=s.toks) (λb u q=>dz _ q) (vS (mY _ _)) ?_;have ne:s.heap.objs.size≠s.heap.objs.size+1:=fM (oQ _);refine⟨by rw[aG ne,aV],iP _,ne,e2,λ_=>none,(Heap.Ns1.of_empty e3).at λo q=>dz _ q,λ_=>de,λy hy=>absurd rfl hy⟩
def YW{prog:bo}{f:Str}{s:aw}(hb:hV e f env (eval e env)=eval e env)
  (h:wpAny (bj prog w) A (eval e env) (λo s₁=>wpAny (bj prog w) A (getAttr o f true) Q E s₁) E s):wpAny (bj prog w) A (eval (.Attribute e f pos) env) Q E s:=
 Attribute_any_ h (by rw[arm_eval_Attribute,hb])
end
def ja(K:PySem.W.Frag)(ta:TE)(f:Str):TE:=λσ H Q=>ta σ H λx H1=>∃a C dx fs v,x= .ref a/\H1 a=some (.ins C dx fs)/\cD K C/\bf K C f/\fs.lookup f=some v/\Q v H1
def rW(K:PySem.W.Frag)(ta tv:TE)(f:Str):TS:=λD σ H=>tv σ H λy H1=>ta σ H1 λx H2=>∃a C dx fs,x= .ref a/\H2 a=some (.ins C dx fs)/\cD K C/\bf K C f/\fs.length<1000/\
 D.nx σ (upd H2 a (.ins C dx (gQ f y fs)))
section
variable{X:Cx}{o e value:ek}{f:Str}{pos pos' tpos:Pos}{ta tv:TE}
def dS(he:PE X e ta)(hb:hV e f X.env (eval e X.env)=eval e X.env):PE X (.Attribute e f pos) (ja X.K ta f):=by
 intro pins s σ H Q I h;refine YW hb (aS (he pins s σ H _ I h) λu s1 ⟨x,H1,I1,j,a,C,dx,fs,v,ex,L,c,n,l,q⟩=>?_);subst ex;obtain rfl:u=cc a:=j;exact agD I1 L c n l λG s2 I2 D=>⟨v,H1,I2,D,q⟩
def jw(ha:PE X o ta)(hv:PE X value tv)(hs:oy value (some (.Attribute o f pos')) pos.line X.env=pure false):PS X (.Assign [.Attribute o f pos'] value pos) (rW X.K ta tv f):=by
 intro pins s σ H D I h;refine plainObj_wpAny_Assign_Attribute (aS (hv pins s σ H _ I h) λu s1 ⟨y,H1,I1,d,q⟩=>aS (ha pins s1 σ H1 _ I1 q) λb s2 ⟨x,H2,I2,j,a,C,dx,fs,ex,L,c,n,l,M⟩=>?_) hs;subst ex;obtain rfl:b=cc a:=j;exact Kt I2 L c n l d λZ I3=>⟨σ,_,I3,M⟩
def aiO{m:Str}{apos:Pos}{args:List ek}{σ:qr}{H:Hp}{te:TE}(he:PE X e te)(I:Inv X pins σ H s)
  (h : te σ H λx H1 => ∃ a C dx fs g, x = .ref a /\ H1 a = some (.ins C dx fs) /\ cD X.K C /\ Meth X.K C m g /\ fs.lookup m = none /\
   ∀s1,Inv X pins σ H1 s1->wpAny (bj X.prog X.w) X.A (j1 pos (.ref g) [.ref a] (fm pos (bp args X.env)) (iz pos (fA [] X.env))) Q X.xe s1)
  (ht : eval (.Call (.Attribute e m apos) args [] pos) X.env = (do
   let ov<-eval e X.env
   standAt apos.atName
   let (f,first)<-holding [ov] (hJ ov m pl)
   j1 pos f first (fm pos (bp args X.env)) (iz pos (fA [] X.env)))):
  wpAny (bj X.prog X.w) X.A (eval (.Call (.Attribute e m apos) args [] pos) X.env) Q X.xe s:=by
 refine GC (pl:=pl) (aS (he pins s σ H _ I h) λu s1 ⟨x,H1,I1,j,a,C,dx,fs,g,ex,L,c,k,l,q⟩=>?_) ht;subst ex;obtain rfl:u=cc a:=j;exact Kf I1 L c k l (q s1 I1)
end
section
variable{X:Cx}{pins:List (ar×Obj)}{σ:qr}{H:Hp}{s:aw}{A:c4}{E:ag->aw->Prop}{Q:ag->aw->Prop}{c:ag}{b:Bool}
inductive kF(K:PySem.W.Frag)(H:Hp):V->ag->Prop where
 |aN:kF K H .aN (.type "NoneType")
 |bl (x:Bool):kF K H (.bl x) (.type "bool")
 |int (i:Int):kF K H (.int i) (.type "int")
 |str (x:Str):kF K H (.str x) (.type "str")
 |nI (x:UInt64):kF K H (.nI x) (.type "float")
 |lst {a:ar} {xs:List V} (e:H a=some (.lst xs)):kF K H (.ref a) (.type "list")
 |cC {a:ar} {o:Obj} {xs:List V} (e:H a=some (.cC o (.lst xs))):kF K H (.ref a) (.type "list")
 |tup {a:ar} {xs:List V} (e:H a=some (.tup xs)):kF K H (.ref a) (.type "tuple")
 |dK {a:ar} {kvs:List (Key×V)} (e:H a=some (.dK kvs)):kF K H (.ref a) (.type "dict")
 |dT {a:ar} {kvs:List (List Key×V)} (e:H a=some (.dT kvs)):kF K H (.ref a) (.type "dict")
 |TU {a:ar} {o:Obj} {kvs:List (Key×V)} (e:H a=some (.cC o (.dK kvs))):kF K H (.ref a) (.type "dict")
 | ins {a C dx : Addr} {fs : List (Str × V)} (e : H a = some (.ins C dx fs)) (cl : cD K C) (ha : PySem.W.findIn K (.ref C) "__class__" = some (some (.builtin "object.__class__")))
   (hn:PySem.W.specialIn K (.builtin "object.__class__") "__get__"=some (some (.builtin "getset_descriptor.__get__"))) (htk:PySem.W.takesIn K (.builtin "object.__class__")=some true)
   (hm:PySem.W.mroIn K C (.type "object")=some true):kF K H (.ref a) (.ref C)
def WE{x:V}{t:ag}(I:Inv X pins σ H s)(j:RelV x u)(ty:kF X.K H x t)(e:PySem.W.kitOne X.K t c=some b)(h:∀tk,Q (.bool b) {s with toks:=tk}):
    wpAny (bj X.prog X.w) A (call (.builtin "isinstance") [u,c]) Q E s:=by
  cases ty with
  |aN=>cases (show u=fo from j);exact lQ PySem.W.kitx_none I.eE de e (λz=>nomatch z) h
  |bl y=>cases (show u=ix y from j);exact lQ PySem.W.kitx_bool I.eE de e (λz=>nomatch z) h
  |int i=>obtain⟨t,q⟩:=(show∃t,u=gd i t from j);cases q;exact lQ PySem.W.kitx_int I.eE de e (λz=>nomatch z) h
  |str y=>obtain⟨t,q⟩:=(show∃t,u=hG y t from j);cases q;exact lQ PySem.W.kitx_str I.eE de e (λz=>nomatch z) h
  |nI y=>obtain⟨t,q⟩:=(show∃t,u=ot y t from j);cases q;exact lQ PySem.W.kitx_float I.eE de e (λz=>nomatch z) h
  | @lst a xs L =>
    cases (show u=cc a from j);obtain⟨_,_,n,_,h1⟩:=(show dJ X.prog X.w H s.heap a (.lst xs) from I.hok a _ L);exact lQ JB I.eE ⟨_,h1,rfl⟩ e (λz=>nomatch z) h
  | @cC a B xs L =>
    cases (show u=cc a from j);obtain⟨_,_,_,n,_,h1⟩:=(show dJ X.prog X.w H s.heap a (.cC B (.lst xs)) from I.hok a _ L);exact lQ JB I.eE ⟨_,h1,rfl⟩ e (λz=>nomatch z) h
  | @tup a xs L =>
    cases (show u=cc a from j);obtain⟨_,_,_,p⟩:=(show dJ X.prog X.w H s.heap a (.tup xs) from I.hok a _ L);obtain⟨o,h1,h2,_⟩:=p;exact lQ PySem.W.kitx_tuple I.eE ⟨o,h1,h2⟩ e (λz=>nomatch z) h
  | @dK a kvs L =>
    cases (show u=cc a from j);obtain⟨_,_,vs,_,p⟩:=(show dJ X.prog X.w H s.heap a (.dK kvs) from I.hok a _ L);obtain⟨o,es,ep,h1,h2,_⟩:=p;exact lQ Dt I.eE ⟨o,h1,h2.1⟩ e (λz=>nomatch z) h
  | @dT a kvs L =>
    cases (show u=cc a from j);obtain⟨_,_,xs,_,o,es,ep,h1,h2,_⟩:=(show dJ X.prog X.w H s.heap a (.dT kvs) from I.hok a _ L);exact lQ Dt I.eE ⟨o,h1,h2.1⟩ e (λz=>nomatch z) h
  | @TU a B kvs L =>
    cases (show u=cc a from j);obtain⟨_,_,_,vs,_,o,es,ep,h1,h2,_⟩:=I.hok a _ L;exact lQ Dt I.eE ⟨o,h1,h2.1⟩ e (λz=>nomatch z) h
  | @ins a C dx fs L cl ha hn htk hm =>
    cases (show u=cc a from j);obtain⟨mA,O,_⟩:=AB I.hok L;obtain⟨od,J,_⟩:=O.look;exact lQ (PySem.W.kitx_own (cl.get _) cl.hd ha hn htk hm) I.eE J e (λz=>nomatch z) h
end
structure fG(k:Nat)(A:c4):Prop where
 hd:A.handled=none
 dp:A.depth+3*k+5<p3
 un:A.units+16*k+200<tj
theorem fG.mono{k:Nat}(r:fG k A)(h:j<=k):fG j A:=⟨r.hd,by have:=r.dp;omega,by have:=r.un;omega⟩
theorem fG.deeper{k:Nat}{A:c4}(r:fG (k+1) A)(env:Env):fG k (A.deeper env):=
 ⟨r.hd,by have:=r.dp;show A.depth+1+3*k+5<_;omega,by have:=r.un;show A.units+3+16*k+200<_;omega⟩
def aeI{a:List (Str×ag)}:(A.under (.builtin "type.__call__" ⟨.ref C::us,a⟩)).depth=A.depth+1:=by
 first|rfl|simp[my,Code.weight,Code.isCreation,Code.isGuard,Code.isCaller,u4,mz,guardIds]
def HR{a:List (Str×ag)}:(A.under (.builtin "type.__call__" ⟨.ref C::us,a⟩)).units=A.units+1:=by
 first|rfl|simp[my,Code.cUnits,u4,mz]
theorem fG.make{k:Nat}(r:fG (k+1) A)(C:ar)(us:List ag)(a:List (Str×ag)):fG k (A.under (.builtin "type.__call__" ⟨.ref C::us,a⟩)):=
 ⟨r.hd,by have:=r.dp;rw[aeI];omega,by have:=r.un;rw[HR];omega⟩
theorem fG.depth{k:Nat}{A:c4}(r:fG k A):A.depth<p3:=by have:=r.dp;omega
theorem fG.units{k:Nat}{A:c4}(r:fG k A):A.units+64<tj:=by have:=r.un;omega
def bK:TA:=λ_ H Q=>Q [] H
def aU(ta:TE)(tr:TA):TA:=λσ H Q=>ta σ H λx H1=>tr σ H1 λxs H2=>Q (x::xs) H2
section
variable{X:Cx}{e:ek}{es:List ek}{te:TE}{t:TA}{pos:Pos}
def ai:PA X [] bK:=λ_ _ _ _ H Q I h=>Calls.spliced_nil ⟨[],H,I, .nil,h⟩
def aa(ha:PE X e te)(hr:PA X es t)(hs:bp (e::es) X.env=(false,eval e X.env)::bp es X.env:=by rfl):PA X (e::es) (aU te t):=by
 intro pos pins s σ H Q I h;rw[hs];show wpAny _ _ (spliced ((false,eval e X.env)::fm pos (bp es X.env))) _ _ s;refine Calls.spliced_cons (aS (ha pins s σ H _ I h) λu s1 ⟨x,H1,I1,g,J⟩=>?_);exact aS (hr pos pins s1 σ H1 _ I1 J) λus s2 ⟨xs,H2,I2,O,M⟩=>⟨x::xs,H2,I2, .cons g O,M⟩
def qA(t:TA):TE:=λσ H Q=>t σ H λxs H1=>xs.length<=sizeLine/\∀p,H1 p=none->Q (.ref p) (upd H1 p (.tup xs))
def oX(t:TA):TE:=λσ H Q=>t σ H λxs H1=>xs.length<=sizeLine/\∀p,H1 p=none->Q (.ref p) (upd H1 p (.lst xs))
def fy{x1}(h:PA X es t):PE X (.Tuple es x1 pos) (qA t):=by
 intro pins s σ H Q I hq;refine wpAny_Tuple_spliced (aS (h pos pins s σ H _ I hq) λus s1 ⟨xs,H1,I1,r,z,q⟩=>⟨by rw[<-r.length];exact z,?_⟩);have hf:H1 s1.heap.objs.size=none:=I1.hok.fresh (aW _);refine⟨.ref s1.heap.objs.size,upd H1 s1.heap.objs.size (.tup xs),I1.laid (t':=s1.toks) (λb u e=>dz _ e) (aW _) ?_,rfl,q _ hf⟩;exact⟨z,us,r,⟨_,iH _ rfl,rfl,_,rfl⟩⟩
def iX(h:PA X es t):PE X (.List es pos) (oX t):=by
 intro pins s σ H Q I hq;refine wpAny_List_spliced (aS (h pos pins s σ H _ I hq) λus s1 ⟨xs,H1,I1,r,z,q⟩=>⟨by rw[<-r.length];exact z,?_⟩);have hf:H1 s1.heap.objs.size=none:=I1.hok.fresh (aW _);refine⟨.ref s1.heap.objs.size,upd H1 s1.heap.objs.size (.lst xs),I1.laid (t':=s1.toks) (λb u e=>dz _ e) (aW _) ?_,rfl,q _ hf⟩;exact⟨z,us,0,r,iH _ rfl⟩
end
abbrev Sp:=List V->Hp->VK->XK->Prop
abbrev nh:=List Env->Hp->aw->XK->ag->aw->Prop
structure qZ(P:bo)(w:cx)(K:PySem.W.Frag)(mg:Str->Option ag)(base:eh)(A:c4)(outer:List Env)(s:aw)(H:Hp):Prop where
 frames:A.frames=some outer
 mod:Mod K mg base
 bs:∀b o,base.get? b=some o->s.heap.get? b=some o/\H b=none
 pQ:base.objs.size<=s.heap.objs.size
 lK:s.heap.FunFrames base outer
 qF:∀b∈frs outer,H b=none
 hok:ff P w H s.heap
 bare:ik s.gens
def CE(outer:List Env)(P:bo)(w:cx)(H:Hp)(s:aw)(Q:VK)(u:ag)(s':aw):Prop:=
 ∃v H',s'.os=s.os/\ik s'.gens/\Un (frs outer) [] H H' s.heap s'.heap/\ff P w H' s'.heap/\RelV v u/\Q v H'
def CR(CX:nh)(outer:List Env)(P:bo)(w:cx)(H:Hp)(s:aw)(Q:VK)(E:XK)(r:Result)(s':aw):Prop:=
 match r with
 | .ok (.ret u)=>CE outer P w H s Q u s'
 | .ok _=>False
 | .error e=>CX outer H s E e s'
structure bA(P:bo)(w:cx)(K:PySem.W.Frag)(mg:Str->Option ag)(base:eh)(CX:nh)(k:Nat)(f:ar)(fd:eI)(ps:List Str)(sp:Sp):Prop where
 len:∀vs H Q E,sp vs H Q E->vs.length=ps.length
 run:∀(A:c4) (outer:List Env) (s:aw) (H:Hp) (args:Args) (us:List ag) (vs:List V) (Q:VK) (E:XK),fG k A->qZ P w K mg base A outer s H->oI s fd args (ps.zip us)->Vals vs us->sp vs H Q E->
  codeAny (bj P w) A (.call (.ref f) args) (CR CX outer P w H s Q E) s
def qZ.make{P:bo}{K:PySem.W.Frag}{H:Hp}(e:qZ P w K mg base A outer s H)(C:ar)(us:List ag)(a:List (Str×ag)):
  qZ P w K mg base (A.under (.builtin "type.__call__" ⟨.ref C::us,a⟩)) outer s H:=⟨by first|exact e.frames|(simpa[my,Code.envs,mz,pushEnvs] using e.frames),e.mod,e.bs,e.pQ,e.lK,e.qF,e.hok,e.bare⟩
section
variable{X:Cx}{pins:List (ar×Obj)}{σ:qr}{H:Hp}{s s':aw}
def Inv.Ux(I:Inv X pins σ H s):qZ X.prog X.w X.K X.mg X.base X.A X.stack s H:=
 ⟨I.ok.frames,I.ok.mod,I.bs,cU I.ok.pQ I.sz,I.stack,I.UG,I.hok,I.bare⟩
def Inv.after{Q:VK}(I:Inv X pins σ H s)(h:CE X.stack X.prog X.w H s Q u s'):EP X pins σ Q u s':=by
 obtain⟨v,H',os,bare,un,hok,r,q⟩:=h;obtain⟨L,g,d,t,a⟩:=s';obtain rfl:a=s.os:=os;exact⟨v,H',I.call (h':=L) (g':=g) (d':=d) (t':=t) (ch:=[]) un hok bare (λb z=>absurd z (by simp)),r,q⟩
end
def jh(sp:Sp)(iE:List V)(E:XK)(t:TA):TE:=λσ H Q=>t σ H λvs H1=>sp (vs++iE) H1 Q E
def om(C:ar)(m:Str)(sp:Sp)(iE:List V)(E:XK)(ta:TE)(t:TA):TE:=λσ H Q=>ta σ H λx H1=>∃a dx fs,x= .ref a/\H1 a=some (.ins C dx fs)/\fs.lookup m=none/\
 t σ H1 λvs H2=>sp (x::(vs++iE)) H2 Q E
def IA(C:ar)(sp:Sp)(iE:List V)(E:XK)(t:TA):TE:=λσ H Q=>t σ H λvs H1=>∀x dx,H1 x=none->H1 dx=none->dx≠x->
 sp (.ref x::(vs++iE)) (upd (upd H1 dx (.own x)) x (.ins C dx [])) (λv H2=>v= .aN/\Q (.ref x) H2) E
def Binds(K:PySem.W.Frag)(fd:eI)(ps:List Str)(ds:List ag):Prop:=
 ∀(s:aw) (us:List ag),K.In s.heap->(us++ds).length=ps.length->oI s fd ⟨us,[]⟩ (ps.zip (us++ds))
def Binds.all{K:PySem.W.Frag}{ps:List Str}(h:∀us:List ag,us.length=ps.length->bindArgs fd ⟨us,[]⟩=pure (ps.zip us)):Binds K fd ps []:=λs us _ hl=>by
 rw[ic] at hl⊢;exact .of_eq (h us hl)
def Passes(CX:nh)(X:Cx)(E:XK):Prop:=∀(pins:List (ar×Obj)) (σ:qr) (H:Hp) (s:aw) (e:ag) (s':aw),Inv X pins σ H s->CX X.stack H s E e s'->X.xe e s'
section
variable{X:Cx}{CX:nh}{k:Nat}{f C:ar}{fd:eI}{ps:List Str}{sp:Sp}{iE:List V}{ds:List ag}{E:XK}{x m:Str}{p pos apos:Pos}{e o:ek}{es:List ek}{ta:TE}{t:TA}
def Jr{σ:qr}{H:Hp}{Q:VK}{vs:List V}(F:bA X.prog X.w X.K X.mg X.base CX k f fd ps sp)(hr:fG k X.A)(hb:Binds X.K fd ps ds)(hd:Vals iE ds)(hx:Passes CX X E)
    (I:Inv X pins σ H s) (r:Vals vs us) (h:sp (vs++iE) H Q E):wpAny (bj X.prog X.w) X.A (call (.ref f) us) (EP X pins σ Q) X.xe s:=by
  have O:Vals (vs++iE) (us++ds):=r.append hd;have hl:(us++ds).length=ps.length:=by rw[<-O.length];exact F.len _ _ _ _ h
  refine ru (gw (F.run X.A X.stack s H ⟨us,[]⟩ (us++ds) (vs++iE) Q E hr I.Ux (hb s us I.eE hl) O h) λr s' hq=>?_);cases r with
  |error e=>exact hx pins σ H s e s' I hq
  | ok fl =>
    cases fl with
    |ret u=>exact I.after hq
    |next=>exact dy hq
    |brk=>exact dy hq
    |cont=>exact dy hq
def ZP(F:bA X.prog X.w X.K X.mg X.base CX k f fd ps sp)(hr:fG k X.A)(hg:Gl X x)(hm:X.mg x=some (.ref f))(hk:PySem.W.keepIn X.K (.ref f)=true)(hb:Binds X.K fd ps ds)(hd:Vals iE ds)(hx:Passes CX X E)
  (ha:PA X (e::es) t) (a:(x==("__debug__":Str))=false:=by decide) (he:bp (e::es) X.env=(false,eval e X.env)::bp es X.env:=by rfl) (hpl:(fm pos (bp es X.env)).any (·.1)=false:=by rfl):
  PE X (.Call (.Name x p) (e::es) [] pos) (jh sp iE E t):=by
 intro pins s σ H Q I h;refine e7 (LF I hg hm ?_ a);refine IG (h₀:=X.base) I.ok.mod.we hk (aS (ha pos pins s σ H _ I h) λus s1 ⟨vs,H1,I1,r,q⟩=>⟨I1.eE,?_⟩) he hpl;exact Jr F hr hb hd hx I1 r q
def ahS(he:PE X o ta)(c:cD X.K C)(hm:Meth X.K C m f)(F:bA X.prog X.w X.K X.mg X.base CX k f fd ps sp)(hr:fG k X.A)(hb:Binds X.K fd ps ds)(hd:Vals iE ds)(hx:Passes CX X E)(ha:PA X (e::es) t)
  (p:bp (e::es) X.env=(false,eval e X.env)::bp es X.env:=by rfl) (hpl:(fm pos (bp es X.env)).any (·.1)=false:=by rfl)
  (ht : eval (.Call (.Attribute o m apos) (e :: es) [] pos) X.env = (do
   let ov<-eval o X.env
   standAt apos.atName
   let (f,first)<-holding [ov] (hJ ov m pl)
   j1 pos f first (fm pos (bp (e::es) X.env)) (iz pos (fA [] X.env))):=by rfl):
  PE X (.Call (.Attribute o m apos) (e::es) [] pos) (om C m sp iE E ta t):=by
 intro pins s σ H Q I h;refine GC (pl:=pl) (aS (he pins s σ H _ I h) λu s1 ⟨x,H1,I1,j,a,dx,fs,ex,L,l,q⟩=>?_) ht;subst ex;obtain rfl:u=cc a:=j;refine Kf I1 L c hm l ?_;refine IG (first:=[.ref a]) (h₀:=X.base) I.ok.mod.we hm.kp (aS (ha pos pins s1 σ H1 _ I1 q) λus s2 ⟨vs,H2,I2,r,M⟩=>⟨I2.eE,?_⟩) p hpl;exact Jr (us:= .ref a::us) (vs:= .ref a::vs) F hr hb hd hx I2 (.cons rfl r) M
def XM(he:PE X o ta)(c:cD X.K C)(hm:Meth X.K C m f)(F:bA X.prog X.w X.K X.mg X.base CX k f fd ps sp)(hr:fG k X.A)(hb:Binds X.K fd ps ds)(hd:Vals iE ds)(hx:Passes CX X E)
  (ht : eval (.Call (.Attribute o m apos) [] [] pos) X.env = (do
   let ov<-eval o X.env
   standAt apos.atName
   let (f,first)<-holding [ov] (hJ ov m pl)
   j1 pos f first (fm pos (bp [] X.env)) (iz pos (fA [] X.env))):=by rfl):
  PE X (.Call (.Attribute o m apos) [] [] pos) (om C m sp iE E ta bK):=by
 intro pins s σ H Q I h;refine GC (pl:=pl) (aS (he pins s σ H _ I h) λu s1 ⟨x,H1,I1,j,a,dx,fs,ex,L,l,q⟩=>?_) ht;subst ex;obtain rfl:u=cc a:=j;refine Kf I1 L c hm l ?_;exact PySem.W.callWith_K0 (first:=[.ref a]) I1.eE hm.kp (Jr (us:=[.ref a]) (vs:=[.ref a]) F hr hb hd hx I1 (.cons rfl .nil) q)
structure Mk(K:PySem.W.Frag)(C f:ar):Prop where
 makes:PySem.W.makesIn K C=true
 init:PySem.W.findIn K (.ref C) "__init__"=some (some (.ref f))
 fn:PySem.W.isFn K (.ref f)=true
 kp:PySem.W.keepIn K (.ref C)=true
def Ht{σ:qr}{H:Hp}{Q:VK}{vs:List V}(M:Mk X.K C f)(F:bA X.prog X.w X.K X.mg X.base CX k f fd ps sp)(hr:fG (k+1) X.A)(hb:Binds X.K fd ps ds)(hd:Vals iE ds)
    (hx:Passes CX X E) (I:Inv X pins σ H s) (r:Vals vs us)
    (h:∀x dx,H x=none->H dx=none->dx≠x->sp (.ref x::(vs++iE)) (upd (upd H dx (.own x)) x (.ins C dx [])) (λv H2=>v= .aN/\Q (.ref x) H2) E):
    wpAny (bj X.prog X.w) X.A (call (.ref C) us) (EP X pins σ Q) X.xe s:=by
  have hq:=h (s.heap.objs.size+1) s.heap.objs.size (I.hok.fresh (xD _)) (I.hok.fresh (aW _)) (fM (oQ _));have I2:=Inv.made (C:=C) I;have O:Vals (V.ref (s.heap.objs.size+1)::(vs++iE)) (cc (s.heap.objs.size+1)::(us++ds)):= .cons rfl (r.append hd);have hl:(cc (s.heap.objs.size+1)::us++ds).length=ps.length:=by
    have e:=O.length;rw[F.len _ _ _ _ hq] at e;exact e.symm
  refine ru (aeB (f:=f) I.eE M.makes M.init (beq_iff_eq.mp M.fn) (gw (F.run _ X.stack _ _ ⟨cc (s.heap.objs.size+1)::us,[]⟩ (cc (s.heap.objs.size+1)::(us++ds)) _ _ E (hr.make C us [])
    (I2.Ux.make C us []) (hb _ (cc (s.heap.objs.size+1)::us) I2.eE hl) O hq) λr s' b=>?_))
  cases r with
  |error e=>exact hx pins σ _ _ e s' I2 b
  | ok fl =>
    cases fl with
    | ret u =>
      obtain⟨v,H',I3,rv,ev,P⟩:=I2.after b;subst ev;exact⟨rv,⟨V.ref (s.heap.objs.size+1),H',I3,rfl,P⟩⟩
    |next=>exact dy b
    |brk=>exact dy b
    |cont=>exact dy b
def Kl(M:Mk X.K C f)(F:bA X.prog X.w X.K X.mg X.base CX k f fd ps sp)(hr:fG (k+1) X.A)(hg:Gl X x)(hm:X.mg x=some (.ref C))(hb:Binds X.K fd ps ds)(hd:Vals iE ds)(hx:Passes CX X E)
  (ha:PA X (e::es) t) (a:(x==("__debug__":Str))=false:=by decide) (he:bp (e::es) X.env=(false,eval e X.env)::bp es X.env:=by rfl) (hpl:(fm pos (bp es X.env)).any (·.1)=false:=by rfl):
  PE X (.Call (.Name x p) (e::es) [] pos) (IA C sp iE E t):=by
 intro pins s σ H Q I h;refine e7 (LF I hg hm ?_ a);refine IG (h₀:=X.base) I.ok.mod.we M.kp (aS (ha pos pins s σ H _ I h) λus s1 ⟨vs,H1,I1,r,q⟩=>⟨I1.eE,?_⟩) he hpl;exact Ht M F hr hb hd hx I1 r q
end
structure bS(N P:List Str)(sc:hU):Prop where
 kind:sc.kind= .function
 co:sc.isCoroutine=false
 gen:sc.isGenerator=false
 nd:N.Nodup
 pre:N.take P.length=P
 par:∀x∈P,sc.names.lookup x=some .local\/sc.names.lookup x=some .cell
 Ts:∀y∈sc.names,y.2≠ .free
theorem QE{kindOf:Str->Option eJ}{x:Str}:∀{binds:List (Str×ag)} {m:Str->Option ag},(∀v,(x,v)∉binds)->u5 kindOf binds m x=m x
  |[],_,_=>rfl
  | (n, v) :: r, m, h => by
    unfold u5;rw[QE λw hw=>h w (bV _ hw)];split
    · have:x≠n:=by rintro rfl;exact h v bZ
      simp[this]
    · rfl
theorem QM{kindOf:Str->Option eJ}{x:Str}:∀{binds:List (Str×ag)} {m:Str->Option ag},(∀v,(x,v)∉binds)->u6 kindOf binds m x=m x
  |[],_,_=>rfl
  | (n, v) :: r, m, h => by
    unfold u6;rw[QM λw hw=>h w (bV _ hw)];split;· rfl
    · have:x≠n:=by rintro rfl;exact h v bZ
      simp[this]
theorem Sj{kindOf:Str->Option eJ}{x:Str}{v:ag}:∀{P:List Str} {vs:List ag} {i:Nat} {m:Str->Option ag},P.Nodup->P[i]?=some x->vs[i]?=some v->kindOf x=some .local->
    u5 kindOf (P.zip vs) m x=some v
  |[],_,_,_,_,h,_,_=>by simp at h
  |_::_,[],_,_,_,_,h,_=>by simp at h
  | p :: P, w :: vs, 0, m, nd, h1, h2, hk => by
    simp at h1 h2;subst h1;subst h2;show u5 kindOf ((p,w)::P.zip vs) m p=_;unfold u5;rw[QE λv hv=>(gf.mp nd).1 (ET hv).1,if_pos hk];simp
  | p :: P, w :: vs, i + 1, m, nd, h1, h2, hk => by
    show u5 kindOf ((p,w)::P.zip vs) m x=_;unfold u5;exact Sj (i:=i) (gf.mp nd).2 (by simpa using h1) (by simpa using h2) hk
theorem Ur{kindOf:Str->Option eJ}{x:Str}{v:ag}:∀{P:List Str} {vs:List ag} {i:Nat} {m:Str->Option ag},P.Nodup->P[i]?=some x->vs[i]?=some v->kindOf x≠some .local->
    u6 kindOf (P.zip vs) m x=some v
  |[],_,_,_,_,h,_,_=>by simp at h
  |_::_,[],_,_,_,_,h,_=>by simp at h
  | p :: P, w :: vs, 0, m, nd, h1, h2, hk => by
    simp at h1 h2;subst h1;subst h2;show u6 kindOf ((p,w)::P.zip vs) m p=_;unfold u6;rw[QM λv hv=>(gf.mp nd).1 (ET hv).1,if_neg hk];simp
  | p :: P, w :: vs, i + 1, m, nd, h1, h2, hk => by
    show u6 kindOf ((p,w)::P.zip vs) m x=_;unfold u6;exact Ur (i:=i) (gf.mp nd).2 (by simpa using h1) (by simpa using h2) hk
noncomputable def start(N:List Str)(vs:List V):qr:=vs.map some++au (N.length-vs.length) none
noncomputable def rL(CX:nh)(P:bo)(w:cx)(K:PySem.W.Frag)(mg:Str->Option ag)(base:eh)(N:List Str)(qual:Str)(scope:hU)(f:ar)(j:ag)(A:c4)(outer:List Env)(s:aw)(H:Hp)(E:XK):Cx where
 prog:=P
 w:=w
 K:=K
 mg:=mg
 base:=base
 A:=A.deeper (mB qual scope s.heap.objs.size f j)
 N:=N
 s₀:=s
 H₀:=H
 env:=mB qual scope s.heap.objs.size f j
 outer:=outer
 stack:=mB qual scope s.heap.objs.size f j::outer
 ex:=[]
 calm:=true
 fn:=λ_=>true
 pn:=[]
 xe:=λe s'=>wpAny (bj P w) (A.deeper (mB qual scope s.heap.objs.size f j)) (leaving (mB qual scope s.heap.objs.size f j) e) (λ_ a=>CX outer H s E e a) (λe' a=>CX outer H s E e' a) s'
def Qf{sc:hU}(h:sc.names.lookup x=some .cell):∃c,(tm n sc.names []).lookup x=some c:=by
 have q:=Lb sc.names n [] (.inl h);exact qC.mp q
theorem Th{CX:nh}{P:bo}{K:PySem.W.Frag}{ps:List Str}{f:ar}{j:ag}{s1:aw}{H:Hp}{E:XK}{vs:List V}
  (S:bS N ps scope) (hd:A.handled=none) (O:qZ P w K mg base A outer s H) (hl:vs.length=ps.length) (r:Vals vs us)
  (x:InCallC s s.heap.objs.size (u5 (mB qual scope s.heap.objs.size f j).kindOf (ps.zip us) λ_=>none) (tm (s.heap.objs.size+1) scope.names []) (u6 (mB qual scope s.heap.objs.size f j).kindOf (ps.zip us) λ_=>none) s1):
  Inv (rL CX P w K mg base N qual scope f j A outer s H E) [] (start N vs) H s1:=by
 have hpl:ps.length<=N.length:=by have:=congrArg eQ S.pre;rw[oZ] at this;omega
 obtain⟨h1,tk,rfl,hk⟩:=x.done;have g:∀b:ar,b∉(rL CX P w K mg base N qual scope f j A outer s H E).ex:=λb z=>absurd (show b∈([]:List ar) from z) (by simp)
 refine⟨⟨O.mod,S.kind,rfl,rfl,aW _,λy z c h1 h2=>?_,λy hy=>?_,λy c _ h=>?_,λ_=>hd,Around.frames_deeper O.frames, .inr ⟨rfl,rfl⟩,λb z=>absurd z (g b),O.bs,O.pQ,λb _ _=>g b,λb z=>absurd z (g b),O.lK,O.qF⟩,
  rfl,O.bare,Un.kept hk,⟨_,x.toInCall.ns,λi y v h1 h2 h3=>?_⟩,λy c h=>⟨_,x.cell y c h⟩,O.hok.fresh (aW _),λy c h=>?_,λp hp=>absurd (show p∈([]:List (ar×Obj)) from hp) (by simp),O.hok.kept hk,?_⟩
 .exact name_of_addr x.apart (qv h1) (qv h2)
 .have hy:scope.names.lookup y=some .cell\/scope.names.lookup y=some .free:=hy;rcases hy with hy|hy
  .exact Qf hy
  .exact absurd rfl (S.Ts _ (qv hy))
 .exact lV (x.above y c (qv h))
 .have hi:i<vs.length:=by
   unfold start at h2;by_cases hi:i<vs.length;·exact hi
   .rw[fJ (by simpa using hi)] at h2;rw[eY] at h2;split at h2<;>cases h2
  have ha:vs[i]?=some v:=by
   unfold start at h2;rw[fO (by simpa using hi),bu] at h2;cases e:vs[i]? with
   |none=>rw[e] at h2;cases h2
   |some a=>rw[e] at h2;cases h2;rfl
  obtain⟨u,Y,rv⟩:=r.get ha;have hp:ps[i]?=some y:=by
   rw[<-S.pre,List.getElem?_take_of_lt ∅];exact h1
  have d:ps.Nodup:=by rw[<-S.pre];exact S.nd.sublist (lu _ _)
  refine⟨u,rv,?_⟩;rcases S.par y (cS hp) with k|k
  .exact .inl ⟨k,Sj d hp Y k⟩
  .obtain⟨c,e⟩:=Qf (n:=s.heap.objs.size+1) k;refine .inr ⟨.inl k,c,e,?_⟩;have q:=x.cell y c e;rw[Ur d hp Y (by show scope.names.lookup y≠_;rw[k];decide)] at q;exact q
 .exact O.hok.fresh (lV (x.above y c (qv h)))
 .unfold start;show _=N.length;rw[cP,aj,sL];omega
def SF{CX:nh}{P:bo}{K:PySem.W.Frag}{k:Nat}{f:ar}{name:Str}{d:Arguments}{a:List el}{i kV doc pm cdv ct:ag}{an od:Option ar} {ps:List Str} {sp:Sp} (lk:K.lookup f=some ⟨oc,od, .func (PySem.W.fnOf name qual d a scope i kV doc pm an cdv ct),osl⟩) (B:PySem.W.codeIn K cdv qual=true) (S:bS N ps scope)
    (len:∀vs H Q E,sp vs H Q E->vs.length=ps.length)
    (c:∀(A:c4) (outer:List Env) (s:aw) (H:Hp) (vs:List V) (Q:VK) (E:XK),fG k (A.deeper (mB qual scope s.heap.objs.size f cdv))->sp vs H Q E->
      ∃t,lz (rL CX P w K mg base N qual scope f cdv A outer s H E) a t/\t {nx:=λ_ H'=>Q .aN H',rt:=Q} (start N vs) H):
    bA P w K mg base CX (k+1) f (PySem.W.fnOf name qual d a scope i kV doc pm an cdv ct) ps sp:=by
  refine⟨len,λA outer s H args us vs Q E hr O hb r C=>?_⟩;have hl:=len _ _ _ _ C;have KX:K.In s.heap:=O.mod.we.keeps λb o e=>(O.bs b o e).1;have h:s.heap.NoLimit:=O.mod.nolimit.keeps λb o e=>(O.bs b o e).1;have g:∀y∈ps.zip us,scope.names.lookup y.1=some .local\/(scope.names.lookup y.1=some .cell/\((tm (s.heap.objs.size+1) scope.names []).lookup y.1).isSome=true):=λ⟨n,v⟩ hy=>by
    rcases S.par n (ET hy).1 with q|q
    · exact .inl q
    · exact .inr ⟨q,Lb _ _ _ (.inl q)⟩
  refine codeAny_call_function hr.depth (KX _ _ lk) rfl S.co S.gen rfl (PySem.W.codeRec_of KX B) (hb _ _ _ _ ?_);refine wpAny_newFunctionEnv_cells S.kind g λenv he s1 x=>?_;subst he;refine⟨h.keeps x.toInCall.keep,codeAny_func ?_⟩;obtain⟨t,ht,hq⟩:=c A outer s H vs Q E (hr.deeper _) C;have I:Inv (rL CX P w K mg base N qual scope f cdv A outer s H E) [] (start N vs) H s1:=Th S hr.hd O hl r x;refine eF (ht [] s1 (start N vs) H _ I hq) (λfl s' hs=>?_) λe s' hs=>hs
  have fin:∀{M:qr} {H':Hp} {v:V} {u:ag},Inv (rL CX P w K mg base N qual scope f cdv A outer s H E) [] M H' s'->RelV v u->Q v H'->CE outer P w H s Q u s':=
    λ{M H' v u} J rv q=>⟨v,H',J.os,J.bare,J.base,J.hok,rv,q⟩
  cases fl with
  | ret u =>
    obtain⟨v,M,H',J,rv,q⟩:=hs;exact fin J rv q
  | next =>
    obtain⟨M,H',J,q⟩:=hs;exact fin (v:=V.aN) (u:=fo) J rfl q
  | brk =>
    obtain⟨_,_,_,q⟩:=hs;exact dy q
  | cont =>
    obtain⟨_,_,_,q⟩:=hs;exact dy q
section
variable{X:Cx}{x:Str}{p pos:Pos}{e:ek}{es:List ek}{t:TA}{id T:String}{r:List V->Hp->VK->Prop}
def gk(r:List V->Hp->VK->Prop)(t:TA):TE:=λσ H Q=>t σ H λvs H1=>r vs H1 Q
def cO(hc:iK X (.builtin id) r)(hg:Gl X x)(hm:X.mg x=none)(hv:gq x=some (.builtin id))(ha:PA X (e::es) t)(hn:x≠"__name__":=by decide)(a:(x==("__debug__":Str))=false:=by decide)
  (he:bp (e::es) X.env=(false,eval e X.env)::bp es X.env:=by rfl) (hpl:(fm pos (bp es X.env)).any (·.1)=false:=by rfl):PE X (.Call (.Name x p) (e::es) [] pos) (gk r t):=by
 intro pins s σ H Q I h;refine e7 (u7 I hg hm hv ?_ hn a);exact mI (aS (ha pos pins s σ H _ I h) λus s1 ⟨vs,H1,I1,g,J⟩=>hc pins s1 σ H1 vs us Q I1 g J) he hpl
def kT(hc:iK X (.type T) r)(hg:Gl X x)(hm:X.mg x=none)(hv:gq x=some (.type T))(ha:PA X (e::es) t)(hn:x≠"__name__":=by decide)(a:(x==("__debug__":Str))=false:=by decide)
  (he:bp (e::es) X.env=(false,eval e X.env)::bp es X.env:=by rfl) (hpl:(fm pos (bp es X.env)).any (·.1)=false:=by rfl):PE X (.Call (.Name x p) (e::es) [] pos) (gk r t):=by
 intro pins s σ H Q I h;refine e7 (u7 I hg hm hv ?_ hn a);exact Ic (aS (ha pos pins s σ H _ I h) λus s1 ⟨vs,H1,I1,g,J⟩=>hc pins s1 σ H1 vs us Q I1 g J) he hpl
end
end L2
variable{H H1 H':L2.Hp}{σ:L2.qr}{xs vs:List L2.V}{X:L2.Cx}{ps kvs:List (L2.Key×L2.V)}{q:L2.qr->L2.Hp->Prop}{r:L2.V->List L2.V->L2.Hp->L2.VK->Prop}{te tl ta:L2.TE}{tc:L2.TT}{sp:L2.Sp}{t:L2.TA}{gt:L2.TG}
namespace HT
open PySem PyProof.Rows
section
open PySem.SeqAt
open PySem.AutoSeq1 (wpAny_loadPart')
open PySem.MeetsSeq PySem.MeetsSeq2 PySem.MeetsSeq3
end
section
variable{prog:bo}{w:cx}{A:c4}{E:ag->aw->Prop}{s:aw}
noncomputable def gU(n d:Nat):Option Int->Nat
 |none=>d
 |some v=>if v<0 then(v+(n:Int)).toNat else min v.toNat n
end
end HT
namespace L2
abbrev TO:=qr->Hp->(Option Int->Hp->Prop)->Prop
def PO(X:Cx)(e:Option ek)(t:TO):Prop:=
 ∀(pins:List (ar×Obj)) (s:aw) (σ:qr) (H:Hp) (Q:Option Int->Hp->Prop),Inv X pins σ H s->t σ H Q->
  wpAny (bj X.prog X.w) X.A (evalPart e X.env) (λu s'=>∃o H',Inv X pins σ H' s'/\IsPart u o/\Q o H') X.xe s
def GN:TO:=λ_ H Q=>Q none H
def ER(t:TE):TO:=λσ H Q=>t σ H λx H1=>∃i,x= .int i/\Q (some i) H1
section
variable{X:Cx}{e:ek}{te:TE}{lo hi:Option ek}{tl th:TO}{pos p2:Pos}
def uX:PO X none GN:=by
 intro pins s σ H Q I h;rw[so];exact a3 ⟨none,H,I, .none,h⟩
def uY(h:PE X e te):PO X (some e) (ER te):=by
 intro pins s σ H Q I hw;rw[evalPart_some];refine aS (h pins s σ H _ I hw) λu s1 ⟨x,H1,I1,g,J⟩=>?_;obtain⟨i,rfl,q⟩:=J;obtain⟨t,rfl⟩:=g;exact⟨some i,H1,I1, .int i t,q⟩
def Rl(X:Cx)(r:V->Option Int->Option Int->Hp->VK->Prop):Prop:=
 ∀(pins:List (ar×Obj)) (s:aw) (σ:qr) (H:Hp) (x:V) (v c a:ag) (lo hi:Option Int) (sl:ar) (Q:VK),Inv X pins σ H s->RelV x v->s.heap.IsSliceOf sl c a .none->IsPart c lo->IsPart a hi->r x lo hi H Q->
  ∃T id,typeLookup (.type T) "__getitem__"=pure (some (.builtin id))/\s.TypeIs v T/\wpAny (bj X.prog X.w) X.A (u3 v (.ref sl)) (EP X pins σ Q) X.xe s
def xU(r:V->Option Int->Option Int->Hp->VK->Prop)(te:TE)(tl th:TO):TE:=λσ H Q=>te σ H λx H1=>tl σ H1 λl H2=>th σ H2 λu H3=>r x l u H3 Q
def uE{r:V->Option Int->Option Int->Hp->VK->Prop}(hr:Rl X r)(he:PE X e te)(hl:PO X lo tl)(Y:PO X hi th):PE X (.Subscript e (.Slice lo hi none p2) pos) (xU r te tl th):=by
 intro pins s σ H Q I h;refine Subscript_ (aS (he pins s σ H _ I h) λv s1 ⟨x,H1,I1,g,J⟩=>?_);refine wpAny_Slice (aS (hl pins s1 σ H1 _ I1 J) λc s2 ⟨l,H2,I2,pl,M⟩=>aS (Y pins s2 σ H2 _ I2 M) λa Z ⟨u,H3,I3,d,P⟩=>?_);rw[so];refine a3 ?_;have k:Inv X pins σ H3 {Z with heap:=Z.heap.push {cls:= .type "slice",data:= .fields #[c,a, .none]}}:=I3.kept (t':=Z.toks) λb B q=>dz _ q;obtain⟨T,id,hT,ht,hg⟩:=hr pins {Z with heap:=Z.heap.push {cls:= .type "slice",data:= .fields #[c,a, .none]}} σ H3 x v c a l u Z.heap.objs.size Q k g (wa ..) pl d P;show wpAny (bj X.prog X.w) X.A (j2 e (.Slice lo hi none p2) v (.ref Z.heap.objs.size)) (EP X pins σ Q) X.xe {Z with heap:=Z.heap.push {cls:= .type "slice",data:= .fields #[c,a, .none]}};exact tail_any (ops:=[.ref Z.heap.objs.size,v]) ht hT hg (by with_unfolding_all rfl)
noncomputable def nT(xs:List V)(lo hi:Option Int):List V:=(xs.drop (HT.gU xs.length 0 lo)).take (HT.gU xs.length xs.length hi-HT.gU xs.length 0 lo)
theorem x3(xs:List V)(lo hi:Option Int):(nT xs lo hi).length<=xs.length:=by
 unfold nT;rw[oZ,ng];omega
def Wt(K:PySem.W.Frag):V->Option Int->Option Int->Hp->VK->Prop:=λx lo hi H Q=>∃a xs,x= .ref a/\i7 K H a xs/\
 ¬(HT.gU xs.length 0 lo=0/\HT.gU xs.length xs.length hi=xs.length)/\∀p,H p=none->Q (.ref p) (upd H p (.tup (nT xs lo hi)))
def Bi(K:PySem.W.Frag):R2:=λx y H Q=>∃a b xs ys,x= .ref a/\y= .ref b/\i7 K H a xs/\i7 K H b ys/\xs≠[]/\xs.length+ys.length<=sizeLine/\
 (ys=[]->Q (.ref a) H)/\(ys≠[]->∀p,H p=none->Q (.ref p) (upd H p (.tup (xs++ys))))
end
noncomputable def ji(n:Nat)(i:Int):Option Nat:=if 0<=i then(if i<n then some i.toNat else none) else if-(n:Int)<=i then some (i+n).toNat else none
noncomputable def cI(xs:List α)(i:Int):Option α:=(ji xs.length i).bind λj=>xs[j]?
theorem LJ{i:Int}(h:ji n i=some j):seqIndex? i n=some j/\j<n/\ -(n:Int)<=i/\i<n:=by
 unfold ji at h;by_cases h0:0<=i
 .rw[if_pos h0] at h;by_cases h1:i<n
  .rw[if_pos h1] at h;have e:i.toNat=j:=gz h;exact⟨by rw[oJ h0 h1,e],∅,∅,h1⟩
  .rw[if_neg h1] at h;cases h
 .rw[if_neg h0] at h;by_cases h1: -(n:Int)<=i
  .rw[if_pos h1] at h;have e:(i+n).toNat=j:=gz h;exact⟨by rw[seqIndex_neg ∅ h1,e],∅,h1,∅⟩
  .rw[if_neg h1] at h;cases h
def Fe{α:Type}{xs:List α}{i:Int}{v:α}(h:cI xs i=some v):∃j,seqIndex? i xs.length=some j/\xs[j]?=some v/\j<xs.length/\ -(xs.length:Int)<=i/\i<xs.length:=by
  unfold cI at h;cases e:ji xs.length i with
  |none=>rw[e] at h;cases h
  | some j =>
    rw[e] at h;obtain⟨h1,h2,h3,h4⟩:=LJ e;exact⟨j,h1,h,h2,h3,h4⟩
theorem TK{α:Type}{xs:List α}{v:α}(h:xs[j]?=some v):cI xs (j:Int)=some v:=by
 have O:j<xs.length:=(bH.mp h).1;have e:ji xs.length (j:Int)=some j:=by
  unfold ji;rw[if_pos ∅,if_pos ∅];simp
 unfold cI;rw[e];exact h
def yB(b:ek):Prop:=∀o i,oL b false o i=operate [o,i] (u3 o i)
def nD(X:Cx)(r:R2):Prop:=
 ∀(value a:ek) (pins:List (ar×Obj)) (s:aw) (σ:qr) (H:Hp) (x y:V) (v u:ag) (Q:VK),Inv X pins σ H s->RelV x v->RelV y u->r x y H Q->
  oL a false v u=operate [v,u] (u3 v u)->wpAny (bj X.prog X.w) X.A (j2 value a v u) (EP X pins σ Q) X.xe s
def IB(X:Cx)(id:String)(r:V->List V->Hp->VK->Prop):Prop:=
 ∀(pins:List (ar×Obj)) (s:aw) (σ:qr) (H:Hp) (x:V) (xs:List V) (v:ag) (us:List ag) (Q:VK),Inv X pins σ H s->RelV x v->Vals xs us->r x xs H Q->
  wpAny (bj X.prog X.w) X.A (call (.builtin id) (v::us)) (EP X pins σ Q) X.xe s
section
variable{X:Cx}{a b:ek}{ta tb:TE}{pos:Pos}
def nD.or{r r':R2}(h:nD X r)(h':nD X r'):nD X (λx y H Q=>r x y H Q\/r' x y H Q):=by
 intro value slice pins s σ H x y v u Q I rx ry q hs;rcases q with q|q
 .exact h value slice pins s σ H x y v u Q I rx ry q hs
 .exact h' value slice pins s σ H x y v u Q I rx ry q hs
def aJ{r:R2}(hr:nD X r)(ha:PE X a ta)(hb:PE X b tb)(hs:yB b):PE X (.Subscript a b pos) (er r ta tb):=by
 intro pins s σ H Q I h;exact Subscript_ (E4 ha hb I h λv u s2 x y H2 I2 j d q=>hr a b pins s2 σ H2 x y v u Q I2 j d q (hs _ _))
def c6(K:PySem.W.Frag):R2:=λx y H Q=>∃p xs i v,x= .ref p/\y= .int i/\bL K H p xs/\cI xs i=some v/\Q v H
def dR(K:PySem.W.Frag):R2:=λx y H Q=>∃p xs i v,x= .ref p/\y= .int i/\i7 K H p xs/\cI xs i=some v/\Q v H
def Tc:R2:=λx y H Q=>∃z i c,x= .str z/\y= .int i/\z.length<=sizeLine/\cI z.cps.toList i=some c/\Q (.str ⟨#[c]⟩) H
theorem bY:nD X (c6 X.K):=by
 intro value slice pins s σ H x y v u Q I rx ry h hs;obtain⟨p,xs,i,z,rfl,rfl,hq,he,q⟩:=h;cases rx;obtain⟨t,rfl⟩:=ry;obtain⟨its,r,pl,hz⟩:=I.list hq;obtain⟨j,h1,h2,h3,h4,h5⟩:=Fe he;obtain⟨w,ew,b⟩:=r.get h2;have hl:=r.length;have hn:=uc;have fin:EP X pins σ Q w s:=⟨z,H,I,b,q⟩;by_cases h0:0<=i
 .have O:i.toNat=j:=by
   rw[oJ h0 h5] at h1;exact gz h1
  exact item_listR pl.isList h0 ∅ (by rw[O];simpa using ew) fin hs
 .have O:(i+(its.toArray.size:Int)).toNat=j:=by
   rw[seqIndex_neg ∅ h4] at h1;rw[fk,<-hl];exact gz h1
  exact ib (x:=w) pl.isList.typeIs lx.lookup
   (wpAny_getItem_list_neg (Q:=λr s'=>r=w/\EP X pins σ Q r s') pl.isList ∅ (by rw[fk]<;>omega) ∅ (by rw[O];simpa using ew) ⟨rfl,fin⟩) hs
theorem eg:nD X (dR X.K):=by
 intro value slice pins s σ H x y v u Q I rx ry h hs;obtain⟨p,xs,i,z,rfl,rfl,hq,he,q⟩:=h;cases rx;obtain⟨t,rfl⟩:=ry;obtain⟨its,r,pl,hz⟩:=I.tuple hq;obtain⟨j,h1,h2,h3,h4,h5⟩:=Fe he;obtain⟨w,ew,b⟩:=r.get h2;have hl:=r.length;have hn:=uc;have fin:EP X pins σ Q w s:=⟨z,H,I,b,q⟩
 exact ib (x:=w) pl.typeIs slot_tuple_getitem.lookup
  (getItem_tuple (j:=j) (Q:=λr s'=>r=w/\EP X pins σ Q r s') pl ∅ ∅ (by rw[fk,<-hl];exact h1) (by simpa using ew) ⟨rfl,fin⟩) hs
theorem IW:nD X Tc:=by
 intro value slice pins s σ H x y v u Q I rx ry h hs;obtain⟨z,i,c,rfl,rfl,hz,he,q⟩:=h;obtain⟨t,rfl⟩:=rx;obtain⟨t',rfl⟩:=ry;obtain⟨j,h1,h2,h3,h4,h5⟩:=Fe he;have hl:z.cps.toList.length=z.length:=by simp[Str.length]
 rw[hl] at h1 h4 h5;have hn:=uc
 exact tail_any (typeIs_str s z t) slot_str_getitem.lookup (getItem_str (c:=c) (by
  have e1:decide (i< -(2^63:Int))=false:=decide_eq_false ∅;have e2:decide (i≥2^63)=false:=decide_eq_false ∅;rw[e1,e2,qh]) (by rw[h1];simpa using h2) ⟨.str ⟨#[c]⟩,H,I.tok _,⟨_,rfl⟩,q⟩) hs
def yI(K:PySem.W.Frag):R2:=λx y H Q=>c6 K x y H Q\/dR K x y H Q\/Tc x y H Q
def RH:nD X (yI X.K):=bY.or (eg.or IW)
def y2(its:List ag)(n j:Nat)(u:ag):eX (·.setIfInBounds j u) {cls:= .type "list",data:= .seq its.toArray n}={cls:= .type "list",data:= .seq (its.set j u).toArray n}:=by
 simp[eX]
theorem Inv.lst{pins:List (ar×Obj)}{σ:qr}{H:Hp}{s:aw}{p:ar}{xs:List V}(I:Inv X pins σ H s)(h:H p=some (.lst xs)):
  ∃(its:List ag) (n:Nat),Vals xs its/\s.heap.get? p=some {cls:= .type "list",data:= .seq its.toArray n}/\xs.length<=sizeLine:=by
 obtain⟨z,its,n,r,e⟩:=I.hok p _ h;exact⟨its,n,r,e,z⟩
def Inv.Zw{p:ar}{ys:List V}{its':List ag}{l:Nat}{f:Obj->Obj}(I:Inv X pins σ H s)(h:H p=some (.lst xs))
  (U:s.heap.get? p=some {cls:= .type "list",data:= .seq its.toArray n}) (hf:f {cls:= .type "list",data:= .seq its.toArray n}={cls:= .type "list",data:= .seq its'.toArray l}) (r:Vals ys its') (hz:ys.length<=sizeLine) (t:Nat):
  Inv X pins σ (upd H p (.lst ys)) {s with heap:=s.heap.update p f,toks:=t}:=by
 have e:(s.heap.update p f).get? p=some {cls:= .type "list",data:= .seq its'.toArray l}:=by
  rw[DY f U (by rw[hf]<;>rfl),hf]
 refine I.write (x:=p) (e:=p) (by rw[h];trivial) (.inl rfl) (λb u hb q=>(ny _ _ (cY hb)).trans q) ⟨_,e⟩ ?_;exact⟨hz,its',l,r,e⟩
def wB:V->V->V->Hp->(Hp->Prop)->Prop:=λo i v H Q=>∃p xs k j,o= .ref p/\i= .int k/\H p=some (.lst xs)/\ji xs.length k=some j/\Q (upd H p (.lst (xs.set j v)))
theorem set_list:Aq X wB:=by
 intro pins s σ H o i v ov iv u Q I ro ri rv h;obtain⟨p,xs,k,j,rfl,rfl,hp,O,q⟩:=h;cases ro;obtain⟨t,rfl⟩:=ri;obtain⟨its,n,r,U,hz⟩:=I.lst hp;obtain⟨h1,h2,h3,h4⟩:=LJ O;have hl:=r.length;have hn:=uc
 have b:Inv X pins σ (upd H p (.lst (xs.set j v))) {s with heap:=s.heap.update p (eX (·.setIfInBounds j u))}:=
  I.Zw hp U (y2 its n j u) (r.set rv j) (by rw[gR];exact hz) s.toks
 by_cases h0:0<=k
 .have hk:k.toNat=j:=by
   rw[oJ h0 h4] at h1;exact gz h1
  exact PySem.W.ki_setAt U h0 ∅ (by rw[fk,<-hl];exact h4) (by rw[hk];exact⟨_,b,q⟩)
 .have hk:(k+(its.toArray.size:Int)).toNat=j:=by
   rw[seqIndex_neg ∅ h3] at h1;rw[fk,<-hl];exact gz h1
  exact PySem.W.ki_setBack U ∅ (by rw[fk,<-hl];exact h3) ∅ (by rw[hk];exact⟨_,b,q⟩)
theorem YM(lo hi:Option Int)(n:Nat):(fD lo hi none n).1=((HT.gU n 0 lo:Nat):Int)/\(fD lo hi none n).2.1=((HT.gU n n hi:Nat):Int)/\(fD lo hi none n).2.2=1:=by
  refine⟨?_,?_,rfl⟩
  · cases lo with
    |none=>simp[fD,HT.gU]
    | some i =>
      simp only[fD,HT.gU,nr,show(1:Int)>0 by decide,if_true];by_cases h:i<0;· simp only[h,if_true]<;>omega
      · simp only[h,if_false]<;>omega
  · cases hi with
    |none=>simp[fD,HT.gU]
    | some i =>
      simp only[fD,HT.gU,nr,show(1:Int)>0 by decide,if_true];by_cases h:i<0;· simp only[h,if_true]<;>omega
      · simp only[h,if_false]<;>omega
def Vs(its:List ag)(lo hi:Option Int):slicePick its.toArray lo hi none=((its.drop (HT.gU its.length 0 lo)).take (HT.gU its.length its.length hi-HT.gU its.length 0 lo)).toArray:=by
 obtain⟨h1,h2,h3⟩:=YM lo hi its.toArray.size;unfold slicePick;rw[h1,h2,h3];simp only[sliceRange_one,pick_run,fk]<;>rfl
def pV(K:PySem.W.Frag):V->Option Int->Option Int->Hp->VK->Prop:=λx lo hi H Q=>∃a xs,x= .ref a/\bL K H a xs/\∀p,H p=none->Q (.ref p) (upd H p (.lst (nT xs lo hi)))
theorem wH:Rl X (pV X.K):=by
 intro pins s σ H x v vl vu lo hi sl Q I rx hs pl pu h;obtain⟨a,xs,rfl,hx,q⟩:=h;cases rx;obtain⟨its,r,ht,hz⟩:=I.list hx;have hlen:=r.length;refine⟨"list",_,lx.lookup,ht.isList.typeIs,?_⟩;refine wpAny_getItem_list_slice ht.isList hs pl pu .none (by simp) ?_ (by rw[fk]<;>omega);rw[Vs,<-hlen];refine⟨.ref s.heap.objs.size,_,I.laid (t':=s.toks) (o:= .lst (nT xs lo hi)) (λb B q=>dz _ q) (aW _) ?_,rfl,q _ (I.hok.fresh (aW _))⟩;exact⟨cU (x3 xs lo hi) hz,_,0,(r.drop (HT.gU xs.length 0 lo)).take (HT.gU xs.length xs.length hi-HT.gU xs.length 0 lo),iH _ rfl⟩
noncomputable def KZ:V->Bool
 | .aN=>true
 | .bl _=>true
 | .int _=>true
 | .str _=>true
 |_=>false
noncomputable def eqV:V->V->Bool
 | .aN, .aN=>true
 | .bl a, .bl b=>a==b
 | .bl a, .int b=>(if a then 1 else 0)==b
 | .int a, .bl b=>a==(if b then 1 else 0)
 | .int a, .int b=>a==b
 | .str a, .str b=>a==b
 |_,_=>false
noncomputable def rP(x:V)(xs:List V):Bool:=xs.any λy=>eqV y x
def N2(K:PySem.W.Frag)(a:Bool):R2:=λx y H Q=>∃p xs,y= .ref p/\(bL K H p xs\/i7 K H p xs)/\KZ x=true/\xs.all KZ=true/\Q (.bl (if a then !rP x xs else rP x xs)) H
theorem Ll:iK X (.builtin "len") (λxs H Q=>∃p ys,xs=[.ref p]/\(bL X.K H p ys\/i7 X.K H p ys)/\Q (.int ys.length) H):=by
 intro pins s σ H xs us Q I r h;obtain⟨p,ys,rfl,hq,q⟩:=h;obtain⟨u,rfl,j⟩:=vals1 r;cases j;have hn:=uc;rcases hq with hq|hq
 .obtain⟨its,r',pl,hz⟩:=I.list hq;have hlen:=r'.length;exact Calls.call_len_list pl.isList (by simp only[fk]<;>omega) ⟨.int ys.length,H,I.tok _,⟨s.toks+1,by rw[fk,hlen]⟩,q⟩
 .obtain⟨its,r',pl,hz⟩:=I.tuple hq;have hlen:=r'.length;exact len_tuple pl (by simp only[fk]<;>omega) ⟨.int ys.length,H,I.tok _,⟨s.toks+1,by rw[fk,hlen]⟩,q⟩
theorem Ee:iK X (.type "list") (λxs H Q=>∃p ys,xs=[.ref p]/\(bL X.K H p ys\/i7 X.K H p ys)/\∀l,H l=none->Q (.ref l) (upd H l (.lst ys))):=by
 intro pins s σ H xs us Q I r h;obtain⟨p,ys,rfl,hq,q⟩:=h;obtain⟨u,rfl,j⟩:=vals1 r;cases j
 have fin:∀(its:List ag),Vals ys its->ys.length<=sizeLine->∀(h':eh) (c':Nat),(∀b o',s.heap.get? b=some o'->h'.get? b=some o')->
   h'.get? s.heap.objs.size=some {cls:= .type "list",dict:=none,data:= .seq its.toArray c',slots:= #[]}->EP X pins σ Q (.ref s.heap.objs.size) {s with heap:=h'}:=λits r' hz h' c' kp e=>
  ⟨.ref s.heap.objs.size,_,I.laid (t':=s.toks) kp (aW _) (show dJ X.prog X.w _ h' _ (.lst ys) from⟨hz,its,c',r',e⟩),rfl,q _ (I.hok.fresh (aW _))⟩
 rcases hq with hq|hq
 .obtain⟨its,r',pl,hz⟩:=I.list hq;have hlen:=r'.length;obtain⟨o,U,hc,n,hd⟩:=pl.isList;exact sv p (.inl rfl) U hc hd (λh' c' kp e=>fin its r' hz h' c' kp e) (by simp only[fk]<;>omega)
 .obtain⟨its,r',pl,hz⟩:=I.tuple hq;have hlen:=r'.length;obtain⟨o,U,hc,n,hd⟩:=pl;exact sv p (.inr rfl) U hc hd (λh' c' kp e=>fin its r' hz h' c' kp e) (by simp only[fk]<;>omega)
def uf(K:PySem.W.Frag)(T:String)(x:V)(H:Hp):Prop:=match x with
 | .str _=>T="str"
 | .int _=>T="int"
 | .ref p => (T = "list" /\ ∃ xs, bL K H p xs) \/ (T = "tuple" /\ ∃ o, K.lookup p = some o /\ o.cls = .type "tuple" /\ o.dict = none) \/
   (T="dict" /\((∃kvs,H p=some (.dK kvs))\/(∃kvs,H p=some (.dT kvs))\/∃o kvs,H p=some (.cC o (.dK kvs))))\/(T="set" /\∃S n,H p=some (.set S n))
 |_=>False
def Zc{x:V}{v:ag}(I:Inv X pins σ H s)(r:RelV x v)(ty:uf X.K T x H):
    s.TypeIs v T/\∀a,v= .ref a->∃ob,s.heap.get? a=some ob/\ob.dict=none:=by
  cases x with
  | str z =>
    obtain⟨t,rfl⟩:=r;cases (show T="str" from ty);exact⟨typeIs_str s z t,λ_ e=>nomatch e⟩
  | int i =>
    obtain⟨t,rfl⟩:=r;cases (show T="int" from ty);exact⟨rA s i t,λ_ e=>nomatch e⟩
  | ref p =>
    cases r;rcases ty with ⟨rfl,xs,hq⟩|⟨rfl,o,hk,hc,hd⟩|⟨rfl,hk⟩|⟨rfl,S,n,hk⟩
    · obtain⟨its,_,pl,_⟩:=I.list hq
      refine⟨pl.isList.typeIs,λa e=>?_⟩;cases e;obtain⟨o,n,e,c,hd,_⟩:=pl;exact⟨o,e,hd⟩
    · refine⟨⟨o,I.eE p o hk,hc⟩,λa e=>?_⟩
      cases e;exact⟨o,I.eE _ o hk,hd⟩
    · have z:∃o,s.heap.get? p=some o/\o.ExactDict:=by
        rcases hk with ⟨kvs,hk⟩|⟨kvs,hk⟩|⟨ob,kvs,hk⟩
        · obtain⟨_,_,_,_,o,_,_,e,ex,_⟩:=I.hok p _ hk
          exact⟨o,e,ex⟩
        · obtain⟨_,_,_,_,o,_,_,e,ex,_⟩:=I.hok p _ hk
          exact⟨o,e,ex⟩
        · obtain⟨_,_,_,_,_,o,_,_,e,ex,_⟩:=I.hok p _ hk
          exact⟨o,e,ex⟩
      obtain⟨o,e,ex⟩:=z;refine⟨⟨o,e,ex.1⟩,λa e2=>?_⟩;cases e2;exact⟨o,e,ex.2.1⟩
    · obtain⟨o,_,_,_,e,ex,_⟩:=I.hok p _ hk
      refine⟨⟨o,e,ex.1⟩,λa e2=>?_⟩;cases e2;exact⟨o,e,ex.2.1⟩
  |_=>exact dy ty
def aep(K:PySem.W.Frag)(T:String)(r:V->List V->Hp->VK->Prop)(to:TE):TE:=λσ H Q=>to σ H λx H1=>uf K T x H1/\r x [] H1 Q
def n9(K:PySem.W.Frag)(T:String)(r:V->List V->Hp->VK->Prop)(to:TE)(t:TA):TE:=λσ H Q=>to σ H λx H1=>uf K T x H1/\t σ H1 λxs H2=>r x xs H2 Q
variable{o e:ek}{es:List ek}{to:TE}{t:TA}{name:Str}{apos cpos:Pos}{T id:String}{r:V->List V->Hp->VK->Prop}
def o8(i:PlainAttrs T)(slot:Slot T name id)(j:typeOf (.builtin id)=pure (.type "method_descriptor"))(hm:IB X id r)(U:PE X o to)(ha:PA X (e::es) t)
  (b:hV o name X.env (eval o X.env)=eval o X.env:=by rfl)
  (d : ((backTo cpos (starEach (e :: es) X.env)).all (λx => !x.1) && (backToKw cpos (keywordEach [] X.env)).all (λx => x.1.isSome)
   && decide ((e::es).length+([]:List Keyword).length+(if([]:List Keyword).isEmpty then 0 else 1)<30))=true:=by rfl)
  (c:(apos.endLine==cpos.line)=true:=by rfl) (hs:bp (e::es) X.env=(false,eval e X.env)::bp es X.env:=by rfl) (a:(fm cpos (bp es X.env)).any (·.1)=false:=by rfl):
  PE X (.Call (.Attribute o name apos) (e::es) [] cpos) (n9 X.K T r to t):=by
 intro pins s σ H Q I h;refine wpAny_Call_method_late b d c rfl (aS (U pins s σ H _ I h) λv s1 ⟨x,H1,I1,g,ty,J⟩=>?_);obtain⟨h1,h2⟩:=Zc I1 g ty;refine⟨T,id,i,slot,j,h1,h2,?_⟩;have hA:=ha cpos pins s1 σ H1 _ I1 J;rw[hs] at hA⊢;refine Calls.callWith_builtin (by show(false||(fm cpos (bp es X.env)).any (·.1))=false;rw[a]<;>rfl) (Calls.evalArgs_plain ?_);exact aS hA λus s2 ⟨vs,H2,I2,O,M⟩=>hm pins s2 σ H2 x vs v us Q I2 g O M
/-xs.append(e),list.index on a module's tuple .. are IB facts of 06m-/
end
def zS(X:Cx)(id:String)(r:V->List V->Hp->VK->Prop):Prop:=
 ∀(pins:List (ar×Obj)) (s:aw) (σ:qr) (H:Hp) (x:V) (xs:List V) (v:ag) (us:List ag) (Q:VK),Inv X pins σ H s->RelV x v->Vals xs us->r x xs H Q->
  wpAny (bj X.prog X.w) X.A (call (.builtin id) (v::us)) (EP X pins σ Q) X.xe s
def Vals.one{x:V}(h:Vals [x] us):∃u,us=[u]/\RelV x u:=by
 cases h with
 |cons r t=>cases t;exact⟨_,rfl,r⟩
def Vals.two{x y:V}(h:Vals [x,y] us):∃u v,us=[u,v]/\RelV x u/\RelV y v:=by
  cases h with
  | cons r t =>
    obtain⟨v,e,q⟩:=Vals.one t;exact⟨_,v,by rw[e],r,q⟩
theorem Vals.dropLast{xs:List V}{us:List ag}(h:Vals xs us):Vals xs.dropLast us.dropLast:=by
  induction h with
  |nil=>exact .nil
  | cons r t ih =>
    cases t with
    |nil=>exact .nil
    |cons q t'=>exact .cons r ih
theorem Vals.rep{xs:List V}{us:List ag}(h:Vals xs us):∀k:Nat,Vals (au k xs).flatten (au k us).flatten
  |0=> .nil
  | k + 1 => by
    rw[ou,ou,sR,sR];exact Vals.append h (Vals.rep h k)
theorem foldl_rep(its:List ag):∀(k:Nat) (acc:List ag),
    rG (λM Y=>M++Y) acc.toArray (au k its.toArray)=(acc++(au k its).flatten).toArray
  |0,acc=>by simp
  | k + 1, acc => by
    have e:acc.toArray++its.toArray=(acc++its).toArray:=by simp
    have e2:(acc++its)++(au k its).flatten=acc++(au (k+1) its).flatten:=by
      rw[ou,sR,u9]
    rw[<-e2,<-foldl_rep its k (acc++its),<-e,ou,tQ]
section
variable{X:Cx}{pins:List (ar×Obj)}{σ:qr}{H:Hp}{s:aw}{l b:ar}{xs ys zs:List V}
def Inv.Hh{its':List ag}{f:Array ag->Array ag}(I:Inv X pins σ H s)(p:H l=some (.lst xs))
  (e:s.heap.get? l=some {cls:= .type "list",data:= .seq its.toArray n}) (hf:f its.toArray=its'.toArray) (hv:Vals ys its') (hz:ys.length<=sizeLine):
  Inv X pins σ (upd H l (.lst ys)) {s with heap:=s.heap.update l (eX f),toks:=t'}:=by
 have q:=PySem.IsL.update e f;rw[hf] at q;refine I.write (x:=l) (e:=l) (by rw[p];exact trivial) (.inl rfl) (λb' u hb Y=>(ny s.heap (eX f) (cY hb)).trans Y) ⟨_,q⟩ ?_;exact⟨hz,its',_,hv,q⟩
def Inv.IL(I:Inv X pins σ H s)(hv:Vals ys its)(hz:ys.length<=sizeLine):
  Inv X pins σ (upd H s.heap.objs.size (.lst ys)) {s with heap:=s.heap.push {cls:= .type "list",data:= .seq its.toArray},toks:=t'}:=
 I.laid (λ_ _ q=>dz _ q) (aW _) ⟨hz,its,0,hv,iH _ rfl⟩
theorem Inv.fresh(I:Inv X pins σ H s):H s.heap.objs.size=none:=I.hok.fresh (aW _)
def Inv.rB(I:Inv X pins σ H s)(p:H l=some (.lst xs)):xs.length<=sizeLine/\∃(its:List ag) (n:Nat),Vals xs its/\xs.length=its.length/\s.heap.get? l=some {cls:= .type "list",data:= .seq its.toArray n}:=by
 obtain⟨z,its,n,r,e⟩:=I.hok l _ p;exact⟨z,its,n,r,r.length,e⟩
theorem Rn(h:n<=sizeLine):ed n=false:=by
 unfold ed;exact decide_eq_false ∅
end
section
variable{X:Cx}
def yU:V->List V->Hp->VK->Prop:=λx vs H Q=>∃l xs y,x= .ref l/\vs=[y]/\H l=some (.lst xs)/\xs.length<sizeLine/\Q .aN (upd H l (.lst (xs++[y])))
theorem tW:zS X "list.append" yU:=by
 intro pins s σ H x vs v us Q I rx rv h;obtain⟨l,xs,y,rfl,rfl,p,hz,q⟩:=h;cases rx;obtain⟨u,rfl,D⟩:=rv.one;obtain⟨z,its,n,r,hl,e⟩:=I.rB p;refine iI wM ⟨_,e,rfl⟩ F.entry_list_append (F.args_list_append_2 _ _) (PySem.list_append l its.toArray n u (by rw[fk];omega)) ⟨e,?_⟩;refine⟨.aN,_,I.Hh (its':=its++[u]) p e (by simp) (r.append (.cons D .nil)) ?_,rfl,q⟩;rw[cP,kc];omega
def Iy:V->List V->Hp->VK->Prop:=λx vs H Q=>∃l b xs zs,x= .ref l/\vs=[.ref b]/\H l=some (.lst xs)/\H b=some (.lst zs)/\xs.length+zs.length<=sizeLine/\Q .aN (upd H l (.lst (xs++zs)))
theorem ah7:zS X "list.extend" Iy:=by
 intro pins s σ H x vs v us Q I rx rv h;obtain⟨l,b,xs,zs,rfl,rfl,p,Z,hz,q⟩:=h;cases rx;obtain⟨u,rfl,D⟩:=rv.one;cases D;obtain⟨z,its,n,r,hl,e⟩:=I.rB p;obtain⟨z2,a,n2,O,g,e2⟩:=I.rB Z;have hsz:its.toArray.size+a.toArray.size<=sizeLine:=by rw[fk,fk];omega
 have c:¬(!its.toArray.isEmpty && ed (its.toArray.size+a.toArray.size))=true:=by
  rw[Rn hsz,Bool.and_false];exact eB
 refine iI F.slot_list_extend ⟨_,e,rfl⟩ F.entry_list_extend (F.args_list_extend_2 _ _)
  (AutoSeq1.list_extend_list_list_0 l its.toArray n b a.toArray n2 c (by rw[fk];omega) ∅) ⟨e,e2,?_⟩
 refine⟨.aN,_,I.Hh (its':=its++a) p e (by simp) (r.append O) ?_,rfl,q⟩;rw[cP];omega
def IZ:R2:=λx y H Q=>∃l b xs zs,x= .ref l/\y= .ref b/\H l=some (.lst xs)/\H b=some (.lst zs)/\xs.length+zs.length<=sizeLine/\∀p,H p=none->Q (.ref p) (upd H p (.lst (xs++zs)))
theorem En:fu X (g6 .Add) IZ:=by
 intro pins s σ H x y v u Q I rx ry h;obtain⟨l,b,xs,zs,rfl,rfl,p,Z,hz,q⟩:=h;cases rx;cases ry;obtain⟨z,its,n,r,hl,e⟩:=I.rB p;obtain⟨z2,a,n2,O,g,e2⟩:=I.rB Z;refine PySem.P.add_list e e2 ?_ (by rw[fk,fk];omega);have L:its.toArray++a.toArray=(its++a).toArray:=by simp
 rw[L];exact⟨.ref _,_,I.IL (t':=s.toks) (r.append O) (by rw[cP];omega),rfl,q _ I.fresh⟩
def KO:R2:=λx y H Q=>∃l k xs,x= .ref l/\y= .int k/\H l=some (.lst xs)/\ -(2^63)<=k/\k<2^63/\xs.length*k.toNat<=sizeLine/\
 ∀p,H p=none->Q (.ref p) (upd H p (.lst (au k.toNat xs).flatten))
def len_rep(xs:List α)(k:Nat):(au k xs).flatten.length=k*xs.length:=by
 induction k with
 |zero=>simp
 |succ k ih=>rw[ou,sR,cP,ih,Nat.succ_mul,Nat.add_comm]
theorem Vd:fu X (g6 .Mult) KO:=by
 intro pins s σ H x y v u Q I rx ry h;obtain⟨l,k,xs,rfl,rfl,p,h1,h2,hz,q⟩:=h;cases rx;obtain⟨t,rfl⟩:=ry;obtain⟨z,its,n,r,hl,e⟩:=I.rB p;have hlen:its.toArray.size*k.toNat<=sizeLine:=by rw[fk,<-hl];exact hz
 have b:¬its.toArray.size*k.toNat>(2^63-1)/8:=by
  have:(sizeLine:Nat)<=(2^63-1)/8:=⋯
  omega
 have B:¬(!Builtin.List.listFitsIndex k)=true:=by
  rw[p4 h1 h2];exact eB
 have c:¬ed (its.toArray.size*k.toNat)=true:=by
  rw[Rn hlen];exact eB
 have hnew:rG (λM Y=>M++Y) #[] (au (if its.toArray.isEmpty=true then 0 else k.toNat) its.toArray)=(au k.toNat its).flatten.toArray:=by
  have j:∀m:Nat,rG (λM Y=>M++Y) #[] (au m its.toArray)=(au m its).flatten.toArray:=λm=>by
   have:=foldl_rep its m [];rw[oP] at this;exact this
  rw[j];cases its with
  |nil=>simp
  |cons a r'=>rw[if_neg (by simp)]
 refine wpAny_binaryOp_repeat_ref (T:="list") (U:="int") ⋯ ⟨_,e,rfl⟩ (λs'=>rA s' k t) noFill_list_mul F.fills_int_mul oT repeat_list F.slot_int_index.lookup
  (call_meets F.slot_int_rmul (typeIs_int s k t) F.entry_int_rmul (F.args_int_rmul_2 _ _) (int___rmul___int_list k t l its.toArray n)
   ⟨e,rfl,⟨_,e,rfl⟩,iI F.slot_list_mul ⟨_,e,rfl⟩ F.entry_list_mul (F.args_list_mul_2 _ _) (kd l its.toArray n k t B b c) ⟨e,?_⟩⟩)
 rw[hnew];exact⟨.ref _,_,I.IL (t':=s.toks) (r.rep k.toNat) (by rw[len_rep,rO];exact hz),rfl,q _ I.fresh⟩
end
end L2
namespace Att
open PySem PySem.W PySem.Calls PyProof.Rows
def Ya{P:Params}:∀(ns:List Int) (vs:List ag),WellAll P h vs (ns.map w4)->fH vs ns:=by
  intro ns;induction ns with
  | nil =>
    intro vs w;rw[qQ] at w;cases w;exact .nil
  | cons n ns ih =>
    intro vs w;rw[bR] at w;cases w with
    | cons a b =>
      cases a;exact .cons _ _ (ih _ b)
theorem Y6{l:OpenLaw}(hn:l.most=some n){P:Params}{h:eh}{args:List WData}{b:List ag}
    (c:l.row.toRowW.claim.pre args=true) (hwl:WellAll P h b args):
    ∃a vs ns,b=[cc a]/\args=[WData.list (ns.map w4)]/\h.get? a=some {cls:= .type "list",data:= .seq vs.toArray}/\fH vs ns/\ns.length<=n:=by
  have e:WShape.hasAll [] args [.list .int]=true:=(pre_splitW c).1;have hc:l.pre.holds [] {args:=args}=true:=(pre_splitW c).2;obtain⟨d,r,rfl,h1,h2⟩:=hasAllW_cons e;obtain rfl:=hasAllW_nil h2;obtain⟨xs,rfl,h3⟩:=hasW_list h1;obtain⟨ns,rfl⟩:=items_int h3;have hlen:ns.length<=n:=by
    unfold OpenLaw.pre at hc;have h4:(WTm.not (.lt (.lit (.int (n:Int))) (.len (.arg 0)))).holds [] {args:=[.list (ns.map .int)]}=true:=by
      have h4:=(holds_andW hc).1;rw[hn] at h4;exact h4
    have h5:=condW_of h4 (w_not (w_lt w_lit (w_len_list (w_arg rfl))));rw[aj] at h5;refine Kh λq=>?_;have D:(n:Int)<((ns.length:Nat):Int):=∅
    first
      |(rw[decide_eq_true D] at h5;exact absurd h5 ⋯)
      |(simp at h5;omega)
  cases hwl with
  | cons R L =>
    cases L;cases R with
    |list U u=>exact⟨_,_,ns,rfl,rfl,U,Ya ns _ u,hlen⟩
def Hc(l:OpenLaw)(args:List WData):l.row.toRowW.claim.post args (.bool true) args=true:=
 postW_of (r:=l.row.toRowW) (X:=(true==true))
  (show wx [] (.bool true) .bool=true by first|rfl|decide|simp[wx,WShape.arms,WShape.armsAll])
  (show(WTm.eq .res (.lit (.bool true))).value [] {args:=args,res:=some (.bool true),after:=args}=some (.bool (true==true)) from w_eq_bool (w_res rfl) w_lit) rfl
def VD{l:OpenLaw}{q:bo}{c:List Str}{A:cx->eh->Prop}{d:DefRec}
  (hn:l.most=some n) (y:d.params.defaults=[])
  (call : ∀ (w : World) (s₀ s₁ : Shared) (mg mb : Str -> Option Value) (i : Addr) (o : Obj) (pm j doc : Value) (a : Addr) (vs : List Value) (ns : List Int),
   Ground q c [] D w s₀ mg mb s₁.heap->A w s₁.heap->
   s₁.heap.get? i=some o->o.data= .func (docDef d.name d.params d.body d.scope pm j doc)->s₁.heap.CodeRec j d.name->mg d.name=some (.ref i)->
   s₁.heap.get? a=some {cls:= .type "list",data:= .seq vs.toArray}->fH vs ns->ns.length<=n->s₁.gens= #[]->
   codeAny (bj l.prog w) lJ (.call (.ref i) ⟨[.ref a],[]⟩) (λr s'=>r= .ok (.ret (.bool true))/\OldK s₁.heap s'.heap/\s'.os=s₁.os/\ik s'.gens) s₁):
  WalkO q c D A l.row.toRowW d [] (λf vs=>PySem.call f vs):=by
 intro w s₀ s₁ mg mb G Y i o pm j doc dV kV ho hd hcd hD hmg hg args vals as hpre hlay hrd hwl hlo;obtain rfl:dV= .none:=Dflts.none hD y;obtain rfl:kV= .none:=Dflts.noKw hD;obtain⟨a,vs,ns,rfl,rfl,p,m,hlen⟩:=Y6 hn hpre hwl;refine enter_call (gw (call w s₀ s₁ mg mb i o pm j doc a vs ns G Y ho (fd_plain hd) hcd hmg p m hlen hg) λr s' hq=>?_);obtain⟨rfl,h2,h3,h4⟩:=hq;exact⟨.inl ⟨.bool true, .bool true,[],rfl,λ_=>rfl, .bool true,Hc l _,λ_=>⟨wy,λ_ hm=>(nomatch hm)⟩⟩,h2,h3,h4⟩
section
variable{prog:bo}{w:cx}{A:c4}{E:ag->aw->Prop}{s:aw}{K:Frag}
noncomputable def ledger(h:eh)(L d:ar):List (ar×Obj):=(a4 h.objs.size).filterMap λa=>if a=L\/a=d then none else(h.get? a).map λo=>(a,o)
end
end Att
namespace L2
theorem Mn:∀{vs:List ag} {ns:List Int},fH vs ns->Vals (ns.map V.int) vs
 |_,_, .nil=> .nil
 |_,_, .cons n t h=> .cons ⟨t,rfl⟩ (Mn h)
def HX(H:Hp):Prop:=∀b,H b=none\/∃o xs,H b=some (.cC o (.lst xs))
def Y0{P:bo}{K:PySem.W.Frag}{mb:Str->Option ag}{CX:nh}{k:Nat}{i:ar}{s₁:aw}{vs:List ag}
    (KX:K.In s₁.heap) (j:s₁.heap.Ns bc mg) (hb:s₁.heap.Ns rh mb) (t:∀x:Str,x≠"__name__" ->mb x=gq x) (f:s₁.heap.NoLimit) (hg:s₁.gens= #[])
    (ha:s₁.heap.get? a=some {cls:= .type "list",data:= .seq vs.toArray}) (hi:fH vs ns) (hl:ns.length<=sizeLine) (hr:fG k lJ)
    (F:∀base:eh,K.In base->base.Ns bc mg->bA P w K mg base CX k i fd [x] sp) (c:∀(s:aw) (u:ag),oI s fd ⟨[u],[]⟩ [(x,u)])
    (C:∀H:Hp,HX H->bL K H a (ns.map V.int)->sp [.ref a] H (λv _=>v= .bl true) λ_ _ _=>False)
    (E:∀H e s',CX [] H s₁ (λ_ _ _=>False) e s'->False):
    codeAny (bj P w) lJ (.call (.ref i) ⟨[.ref a],[]⟩) (λr s'=>r= .ok (.ret (.bool true))/\OldK s₁.heap s'.heap/\s'.os=s₁.os/\ik s'.gens) s₁:=by
  have rv:=Mn hi;have Zt:=hi.length
  have core:∀H:Hp,HX H->bL K H a (ns.map V.int)->ff P w H s₁.heap->(∀b,H b≠none->b=a)->(H a≠none->K.lookup a=none)->
      codeAny (bj P w) lJ (.call (.ref i) ⟨[.ref a],[]⟩) (λr s'=>r= .ok (.ret (.bool true))/\OldK s₁.heap s'.heap/\s'.os=s₁.os/\ik s'.gens) s₁:=by
    intro H hO hS hok hA hK;have p:∀{b:ar} {o:Obj},s₁.heap.get? b=some o->H b=none->(oY s₁.heap H).get? b=some o:=λe n=>Zu e n;have g:∀{b:ar} {o:Obj} {es:Array DictEntry} {ep:Nat},s₁.heap.get? b=some o->o.data= .dict es ep->H b=none:=λ{b o es ep} e d=>by
      cases q:H b with
      |none=>rfl
      | some u =>
        have e':b=a:=hA b (by rw[q];simp);subst e';rw[ha] at e;cases e
        have d':Data.seq vs.toArray _=Data.dict es ep:=d;cases d'
    have l:∀{b:ar} {m:Str->Option ag},s₁.heap.Ns b m->(oY s₁.heap H).Ns b m:=λ{b m} ⟨o,es,ep,e,d,r⟩=>⟨o,es,ep,p e (g e d),d,r⟩
    have y:K.In (oY s₁.heap H):=λb o e=>p (KX b o e) (by
      cases q:H b with
      |none=>rfl
      | some u =>
        have e':b=a:=hA b (by rw[q];simp);subst e';rw[hK (by rw[q];simp)] at e;cases e)
    have G:Mod K mg (oY s₁.heap H):=⟨y,l j,⟨mb,l hb,t⟩,let ⟨B,h1,h2⟩:=f;⟨B,l h1,h2⟩⟩;have O:qZ P w K mg (oY s₁.heap H) lJ [] s₁ H:=⟨rfl,G,λb o e=>D2 e,vS (ZS _ _),trivial,λb hb=>absurd (show b∈([]:List ar) from hb) (by simp),hok, .of_eq hg⟩;refine gw ((F _ y (l j)).run lJ [] s₁ H ⟨[.ref a],[]⟩ [.ref a] [.ref a] _ _ hr O (c s₁ (.ref a)) (.cons rfl .nil) (C H hO hS)) λr s' h=>?_;cases r with
    |error e=>exact(E H e s' h).elim
    | ok fl =>
      cases fl with
      |next=>exact dy h
      |brk=>exact dy h
      |cont=>exact dy h
      | ret u =>
        obtain⟨v,H',os,bare,un,A,r',q⟩:=h;have D:v= .bl true:=q;subst D;obtain rfl:u=ix true:=r';refine⟨rfl,OldK.of_keep λb o e=>?_,os,bare⟩;cases q:H b with
        |none=>exact un.keep b o e q (by intro z;exact absurd (show b∈([]:List ar) from z) (by simp)) (by simp)
        | some u =>
          rcases hO b with z|⟨ob,xs,z⟩
          · rw[q] at z;cases z
          · have z2:=un.mP b ob _ z
            obtain⟨e1,_⟩:=hok b _ z;obtain⟨e2,_⟩:=A b _ z2;rw[e] at e1;cases e1
            exact e2
  cases hk:K.lookup a with
  | some o =>
    have e:=KX a o hk;rw[ha] at e;cases e;refine core (λ_=>none) (λ_=> .inl rfl) (.inr ⟨_,vs.toArray,_,hk,rfl,rfl,rfl,by rw[fk,Zt];exact hl,by simpa using rv⟩) (λb u z=>by have z':(none:Option HO)=some u:=z;cases z') (λb z=>absurd rfl z) λz=>absurd rfl z
  | none =>
    refine core (λb=>if b=a then some (.cC {cls:= .type "list",data:= .seq vs.toArray} (.lst (ns.map V.int))) else none) (λb=>?_) (.inl (.inr ⟨{cls:= .type "list",data:= .seq vs.toArray},if_pos rfl⟩)) (λb u z=>?_) (λb z=>?_) λ_=>hk
    · by_cases hb:b=a
      · exact .inr ⟨_,_,if_pos hb⟩
      · exact .inl (if_neg hb)
    · by_cases hb:b=a
      · have z':=(if_pos hb).symm.trans z
        cases z';subst hb;exact⟨ha,by rw[aj];exact hl,vs,_,rv,ha⟩
      · have z':=(if_neg hb).symm.trans z
        cases z'
    · by_cases hb:b=a
      · exact hb
      · exact absurd (if_neg hb) z
def BV{k:Nat}{q:bo}{c:List Str}{A:cx->eh->Prop}{d:DefRec}{K:Params->PySem.W.Frag}{CX:cx->nh}{sp:cx->Sp}
  (hn:l.most=some n) (t:n<=sizeLine) (y:d.params.defaults=[]) (hr:fG k lJ)
  (hY:∀(w:cx) (h:eh),A w h->(K w.params).In h)
  (F : ∀ (w : World) (mg : Str -> Option Value) (i : Addr) (h : Heap), (K w.params).In h -> h.Ns mainGlobals mg -> mg d.name = some (.ref i) ->
   ∃fd:eI,(∀(s:aw) (u:ag),oI s fd ⟨[u],[]⟩ [(x,u)])/\
    ∀base:eh,(K w.params).In base->base.Ns bc mg->bA l.prog w (K w.params) mg base (CX w) k i fd [x] (sp w))
  (C:∀(w:cx) (H:Hp) (a:ar) (ns:List Int),ns.length<=n->HX H->bL (K w.params) H a (ns.map V.int)->sp w [.ref a] H (λv _=>v= .bl true) λ_ _ _=>False)
  (E:∀(w:cx) (H:Hp) (s:aw) (e:ag) (s':aw),CX w [] H s (λ_ _ _=>False) e s'->False):
  PySem.W.WalkO q c D A l.row.toRowW d [] (λf vs=>PySem.call f vs):=by
 refine Att.VD hn y λw s₀ s₁ mg mb i o pm j doc a vs ns G Y U hd B r p m hlen hg=>?_;have KX:=hY w _ Y;obtain⟨fd,hb,hF⟩:=F w mg i _ KX G.T.g r;exact Y0 KX G.T.g G.T.b G.T.builtins G.T.nolimit hg p m (cU hlen t) hr hF hb (λH z N=>C w H a ns hlen z N) λH e s'=>E w H s₁ e s'
end L2
/-THE LAST THEOREM (shape;LID,My.*are yours):
   My.Adr:a structure of the addresses that your layer names (classes,functions);My.Txt K t:a structure (Prop) of the equations over K;
   My.txt_mk:{K} {implicit addresses ..} (e1:nsIn K bc "law"=some (some (.ref f))) (e2:K.lookup f=some ⟨oc,od, .func (fnOf "law" "law" params body scope dV kV doc pm an cdv ct),sl⟩) (e3:codeIn K cdv "law"=true) .. :∃t,My.Txt K t
(the tactic k_is has no namespace:write k_is)-/
namespace L2
noncomputable def inClass(s:el)(j:Nat):el:=match s with
 | .ClassDef _ _ _ a _ _ _ _ _ _ _=>a.getD j (.Pass ⟨0,0,0,0⟩)
 |_=> .Pass ⟨0,0,0,0⟩
noncomputable def ie(s:el):Arguments:=match s with
 | .FunctionDef _ a _ _ _ _ _ _ _ _=>a
 |_=>{posonlyargs:=[],args:=[],vararg:=none,kwonlyargs:=[],kw_defaults:=[],kwarg:=none,defaults:=[]}
noncomputable def gX(s:el):List el:=match s with
 | .FunctionDef _ _ b _ _ _ _ _ _ _=>b
 |_=>[]
noncomputable def aI(s:el):hU:=match s with
 | .FunctionDef _ _ _ _ _ _ sc _ _ _=>sc
 |_=>{kind:= .function,names:=[],isGenerator:=false,isCoroutine:=false}
abbrev bF:nh:=λ_ _ _ _ _ _=>False
abbrev E0:XK:=λ_ _ _=>False
def BJ:Passes bF X E0:=λ_ _ _ _ _ _ _ h=>h.elim
structure bI(K:PySem.W.Frag)(x qual:Str)(st:el)(f:ar)(fd:eI):Prop where
 ex:∃(oc:ag) (od:Option ar) (kV doc pm:ag) (an:Option ar) (cdv ct:ag) (osl:Array (Option ag)),
  fd=PySem.W.fnOf x qual (ie st) (gX st) (aI st) .none kV doc pm an cdv ct/\K.lookup f=some ⟨oc,od, .func fd,osl⟩/\PySem.W.codeIn K cdv qual=true
 kp:PySem.W.keepIn K (.ref f)=true
section
variable{P:bo}{w:cx}{K:PySem.W.Frag}{mg:Str->Option ag}{base:eh}
def bI.ok{st:el}{f:ar}{ps:List Str}{k:Nat}(F:bI K x qual st f fd)(S:bS N ps (aI st))(len:∀vs H Q E,sp vs H Q E->vs.length=ps.length)
  (c : ∀ (cdv : Value) (A : Around) (outer : List Env) (s : Shared) (H : Hp) (vs : List V) (Q : VK) (E : XK), fG k (A.deeper (envOfC qual (aI st) s.heap.objs.size f cdv)) -> sp vs H Q E ->
   ∃t,lz (rL bF P w K mg base N qual (aI st) f cdv A outer s H E).CQ (gX st) t/\t {nx:=λ_ H'=>Q .aN H',rt:=Q} (start N vs) H):bA P w K mg base bF (k+1) f fd ps sp:=by
 obtain⟨oc,od,kV,doc,pm,an,cdv,ct,osl,rfl,lk,B⟩:=F.ex;refine SF lk B S len λA outer s H vs Q E hr C=>?_;obtain⟨t,h,q⟩:=c cdv A outer s H vs Q E hr C;exact⟨t,h.CQ,q⟩
def bI.binds{st:el}{f:ar}{ps:List Str}(F:bI K x qual st f fd)
  (h:∀(kV doc pm:ag) (an:Option ar) (cdv ct:ag) (us:List ag),us.length=ps.length->bindArgs (PySem.W.fnOf x qual (ie st) (gX st) (aI st) .none kV doc pm an cdv ct) ⟨us,[]⟩=pure (ps.zip us)):Binds K fd ps []:=by
 obtain⟨oc,od,kV,doc,pm,an,cdv,ct,osl,rfl,lk,B⟩:=F.ex;exact .all (h kV doc pm an cdv ct)
def jR{st:el}{f:ar}{od an:Option ar}{kV doc pm cdv ct:ag}(l:K.lookup f=some ⟨oc,od, .func (PySem.W.fnOf x qual (ie st) (gX st) (aI st) .none kV doc pm an cdv ct),osl⟩)
  (c:PySem.W.codeIn K cdv qual=true) (k:PySem.W.keepIn K (.ref f)=true):bI K x qual st f (PySem.W.fnOf x qual (ie st) (gX st) (aI st) .none kV doc pm an cdv ct):=⟨⟨oc,od,kV,doc,pm,an,cdv,ct,osl,rfl,l,c⟩,k⟩
end
def N5(h:n<=1000):n<sizeLine:=qi h ⋯
section
variable{X:Cx}
def pv(i:Nat){x:Str}{pos:Pos}(hN:X.N[i]?=some x:=by rfl)(hv:Eo X.env.scope x:=by first|exact bg rfl|exact e0 (bg rfl)|exact e0 (e0 rfl))(hd:(x==("__debug__":Str))=false:=by decide)
  (B:(x==("__classdict__":Str))=false:=by decide):PE X (.Name x pos) (br i):=agV hN hv hd B
end
def MG{A B:Prop}(h:B):if false=true then A else B:=by
 rw[if_neg eB];exact h
def zN{A B:Prop}(h:A):if true=true then A else B:=by
 rw[if_pos rfl];exact h
def tT{c A B:Prop}[Decidable c](h1:c->A)(h2:¬c->B):if c then A else B:=by
 by_cases h:c
 .rw[if_pos h];exact h1 h
 .rw[if_neg h];exact h2 h
def dQ(H H':Hp):Prop:=∀b o,H b=some o->H' b=some o
def dQ.refl(H:Hp):dQ H H:=λ_ _ h=>h
def dQ.trans{H2:Hp}(a:dQ H H1)(b:dQ H1 H2):dQ H H2:=λc o h=>b c o (a c o h)
def dQ.free(e:dQ H H'){l:ar}(h:H' l=va):H l=va:=by
  cases q:H l with
  |none=>rfl
  | some o =>
    rw[e l o q] at h;cases h
def dQ.seq{K:PySem.W.Frag}(e:dQ H H')(h:bL K H a xs):bL K H' a xs:=by
 rcases h with (h|⟨o,h⟩)|h
 .exact .inl (.inl (e _ _ h))
 .exact .inl (.inr ⟨o,e _ _ h⟩)
 .exact .inr h
noncomputable def lI(cells:List (Str×ar)):List (Str×eJ)->List (Str×ar)->List (Str×ar)
 |[],acc=>acc
 |(n,k)::r,acc=>lI cells r (if k==cm then(match cells.lookup n with|some a=>(n,a)::acc|none=>acc) else acc)
theorem HF{env:Env}{f:Str×eJ->List (Str×ar)->Sem (ForInStep (List (Str×ar)))}
    (hf:∀x acc,f x acc=if(x.2==cm)=true then(do let a<-cellOf env x.1;pure (eA ((x.1,a)::acc))) else pure (eA acc)):
    ∀(l:List (Str×eJ)) (acc:List (Str×ar)),(∀x∈l,x.2= .free->∃a,env.cells.lookup x.1=some a)->(forIn l acc f:Sem (List (Str×ar)))=pure (lI env.cells l acc)
  |[],acc,_=>by rw[List.forIn_nil];rfl
  | (n, k) :: r, acc, h => by
    have hr:=λx hx=>h x (bV _ hx);rw[List.forIn_cons,hf];by_cases hk:(k==cm)=true
    · have hk':k=cm:=by simpa using hk
      obtain⟨a,ha⟩:=h (n,k) bZ hk';have hc:cellOf env n=pure a:=by unfold cellOf;rw[ha]
      rw[if_pos hk,hc];show(forIn r ((n,a)::acc) f:Sem (List (Str×ar)))=pure (lI env.cells r _);rw[HF hf r _ hr,if_pos hk,ha]
    · rw[if_neg hk]
      show(forIn r acc f:Sem (List (Str×ar)))=pure (lI env.cells r _);rw[HF hf r _ hr,if_neg hk]
def YP(h:∀x∈scope.names,x.2= .free->∃a,env.cells.lookup x.1=some a):closureFor scope env=pure (lI env.cells scope.names []):=by
 simp only[closureFor];rw[HF (env:=env) (λ⟨n,k⟩ acc=>by dsimp only) scope.names [] h]
 rfl
theorem Jh{cells:List (Str×ar)}:∀{l:List (Str×eJ)} {acc:List (Str×ar)} {x:Str} {c:ar},(∀y d,acc.lookup y=some d->cells.lookup y=some d)->(lI cells l acc).lookup x=some c->cells.lookup x=some c
  |[],_,_,_,ha,h=>ha _ _ h
  | (n, k) :: r, acc, x, c, ha, h => by
    refine Jh (l:=r) ?_ h;intro y d hd;by_cases hk:(k==cm)=true
    · rw[if_pos hk] at hd
      cases q:cells.lookup n with
      |none=>rw[q] at hd;exact ha _ _ hd
      | some a =>
        rw[q] at hd;by_cases hy:(y==n)=true
        · have b:y=n:=by simpa using hy
          subst b;simp[gJ] at hd;rw[q,hd]
        · have b:(y==n)=false:=by simpa using hy
          simp only[gJ,b] at hd;exact ha _ _ hd
    · rw[if_neg hk] at hd;exact ha _ _ hd
theorem N9{cells:List (Str×ar)}:∀{l:List (Str×eJ)} {acc:List (Str×ar)} {x:Str},(acc.lookup x).isSome=true->((lI cells l acc).lookup x).isSome=true
  |[],_,_,h=>h
  | (n, k) :: r, acc, x, h => by
    refine N9 (l:=r) ?_;by_cases hk:(k==cm)=true
    · rw[if_pos hk]
      cases q:cells.lookup n with
      |none=>exact h
      | some a =>
        by_cases hy:(x==n)=true;· simp[gJ,hy]
        · have b:(x==n)=false:=by simpa using hy
          simp only[gJ,b];exact h
    · rw[if_neg hk];exact h
theorem Sq{cells:List (Str×ar)}:∀{l:List (Str×eJ)} {acc:List (Str×ar)} {x:Str} {a:ar},(x,cm)∈l->cells.lookup x=some a->((lI cells l acc).lookup x).isSome=true
  |[],_,_,_,h,_=>nomatch h
  | (n, k) :: r, acc, x, a, h, hc => by
    rcases aM.mp h with e|h
    · obtain⟨rfl,rfl⟩:=Prod.mk.inj e
      refine N9 (l:=r) ?_;rw[if_pos ⋯,hc];simp[gJ]
    · exact Sq (l:=r) h hc
def S5{l:List (Str×eJ)}(h:(x,cm)∈l)(hc:cells.lookup x=some a):(lI cells l []).lookup x=some a:=by
 obtain⟨c,e⟩:=qC.mp (Sq (acc:=[]) h hc);have:=Jh (λy d (q:([]:List (Str×ar)).lookup y=some d)=>by simp at q) e;rw[hc] at this;cases this
 exact e
theorem GG{env:Env}:∀{l:List (Str×eJ)} {x:Str} {k:eJ},(∀y∈l,y.2≠ .cell)->
    (l.map λ(n,k)=>if(k==cm && env.scope.kind== .function && env.kindOf n==some .cell) then(n,ke) else(n,k)).lookup x=some k->k= .cell\/k= .free->l.lookup x=some .free
  |[],_,_,_,h,_=>by simp at h
  | (n, q) :: r, x, k, hc, h, hk => by
    have hr:=λy hy=>hc y (bV _ hy);have ih:=GG (env:=env) (l:=r) (x:=x) (k:=k) hr;rw[bR] at h;dsimp only at h;by_cases hx:(x==n)=true
    · simp only[gJ,hx]
      by_cases hq:(q==cm && env.scope.kind== .function && env.kindOf n==some .cell)=true
      · have:q= .free:=by
          simp only[fF] at hq;simpa using hq.1.1
        rw[this]
      · rw[if_neg hq] at h
        simp only[gJ,hx] at h;have a:q=k:=gz h;rcases hk with e|e
        · exact absurd (a.trans e) (hc (n,q) bZ)
        · rw[a,e]
    · have Z:(x==n)=false:=by simpa using hx
      simp only[gJ,Z];refine ih ?_ hk;by_cases hq:(q==cm && env.scope.kind== .function && env.kindOf n==some .cell)=true
      · rw[if_pos hq] at h
        simp only[gJ,Z] at h;exact h
      · rw[if_neg hq] at h
        simp only[gJ,Z] at h;exact h
theorem NZ{env:Env}:∀{l:List (Str×eJ)} {x:Str},l.lookup x=some .free->
    (l.map λ(n,k)=>if(k==cm && env.scope.kind== .function && env.kindOf n==some .cell) then(n,ke) else(n,k)).lookup x=some .cell\/
    (l.map λ(n,k)=>if(k==cm && env.scope.kind== .function && env.kindOf n==some .cell) then(n,ke) else(n,k)).lookup x=some .free
  |[],_,h=>by simp at h
  | (n, q) :: r, x, h => by
    have ih:=NZ (env:=env) (l:=r) (x:=x);rw[bR];dsimp only;by_cases hx:(x==n)=true
    · simp only[gJ,hx] at h
      by_cases hq:(q==cm && env.scope.kind== .function && env.kindOf n==some .cell)=true
      · rw[if_pos hq]
        left
        simp only[gJ,hx]
      · rw[if_neg hq]
        right
        simp only[gJ,hx];exact h
    · have Z:(x==n)=false:=by simpa using hx
      simp only[gJ,Z] at h;have:=ih h;by_cases hq:(q==cm && env.scope.kind== .function && env.kindOf n==some .cell)=true
      · rw[if_pos hq]
        simp only[gJ,Z];exact this
      · rw[if_neg hq]
        simp only[gJ,Z];exact this
noncomputable def fU(sx:hU)(NX:List Str)(scope:hU)(N:List Str)(mp:List (Option Nat)):Bool:=
 (scope.kind== .function) && scope.names.all (λy=>y.2 != .cell) && scope.names.all (λy=>y.2 != .local||scope.names.lookup y.1==some .local) &&
 scope.names.all (λy=>y.2 != .free||sx.names.lookup y.1==some .cell||sx.names.lookup y.1==some .free) &&(mp.length==N.length) &&
 ((N.zip mp).all λp=>match p.2 with|none=>true|some j=>NX[j]?==some p.1 && scope.names.lookup p.1==some .free)
structure eZ(sx:hU)(NX:List Str)(scope:hU)(N:List Str)(mp:List (Option Nat)):Prop where
 kind:scope.kind= .function
 cell:∀y∈scope.names,y.2≠ .cell
 names:∀y∈scope.names,y.2= .local->scope.names.lookup y.1=some .local
 free:∀y∈scope.names,y.2= .free->sx.names.lookup y.1=some .cell\/sx.names.lookup y.1=some .free
 len:mp.length=N.length
 look:∀(i j:Nat) (x:Str),mp[i]?=some (some j)->N[i]?=some x->NX[j]?=some x/\scope.names.lookup x=some .free
def eZ.of{sx:hU}(h:fU sx NX scope N mp=true):eZ sx NX scope N mp:=by
 unfold fU at h;simp only[fF,pZ] at h;obtain⟨⟨⟨⟨⟨h1,h2⟩,h3⟩,h4⟩,h5⟩,h6⟩:=h;refine⟨by simpa using h1,λy hy=>by simpa using h2 y hy,λy hy e=>?_,λy hy e=>?_,by simpa using h5,λi j x e1 e2=>?_⟩
 .have:=h3 y hy;simpa[e] using this
 .have:=h4 y hy;simpa[e] using this
 .have hm:(x,some j)∈N.zip mp:=by
   have:(N.zip mp)[i]?=some (x,some j):=by
    rw[BK];exact⟨e2,e1⟩
   exact cS this
  have:=h6 _ hm;simpa using this
noncomputable def iY(mp:List (Option Nat))(σ:qr):qr:=mp.map λo=>match o with|none=>none|some j=>match σ[j]? with|some v=>v|none=>none
noncomputable def lE(X:Cx)(scope:hU)(C:ar)(N:List Str)(s₀:aw)(H₀:Hp)(fp:List ar):Cx:=
 {X with N:=N,s₀:=s₀,H₀:=H₀,env:=wb scope (lI X.env.cells scope.names []) C X.env,outer:=X.stack,ex:=fp,fn:=λ_=>false,pn:=[],xe:=λ_ _=>False}
def yi(X:Cx)(E:List ek)(t:TT):Prop:=
 ∀(pins:List (ar×Obj)) (s:aw) (σ:qr) (H:Hp) (Q:Bool->Hp->Prop),Inv X pins σ H s->t σ H Q->
  wpAny (bj X.prog X.w) X.A (forIn E true λc r=>if r=true then do let ok<-isTrue c X.env (eval c X.env);pure (eA ok) else pure (eA r)) (TP X pins σ Q) X.xe s
def pD:TT:=λ_ H Q=>Q true H
def jN:yi X [] pD:=λpins s σ H Q I h=>wpAny_tests_nil ⟨H,I,h⟩
def pC{c:ek}{t:TT}(h:PT X c t):yi X [c] t:=λpins s σ H Q I q=>wpAny_tests_one (h pins s σ H Q I q)
def sj(J:It)(g:TG)(tc:TT)(te:TE)(acc:ar)(f:Hp->Prop)(σ:qr)(H:Hp):Prop:=∃W:Nat->Nat->qr->Hp->Prop,(∃m,W 0 m σ H)/\∀i m σ H,W i m σ H->
 (J.stop i H /\ f H) \/ (J.go i H /\ ∃ a : qr -> Hp -> Prop, (∀ M H', a M H' -> ∃ R, R < m /\ W (i + 1) R M H') /\ ∀ x H', J.nO i H x H' -> g x σ H' λk H2 => tc k H2 λb H3 =>
  if b=true then te k H3 λv H4=>∃ys,H4 acc=some (.lst ys)/\ys.length<sizeLine/\a k (upd H4 acc (.lst (ys++[v]))) else a k H3)
def mR(G:TI)(g:TG)(tc:TT)(te:TE)(mp:List (Option Nat)):TE:=λσ H Q=>G σ H λJ H1=>∀acc,H1 acc=none->sj J g tc te acc (λH'=>Q (.ref acc) H') (iY mp σ) (upd H1 acc (.lst []))
section
variable{prog:bo}{w:cx}{A:c4}{R:Result->aw->Prop}{s:aw}
def SU{F a l:ek}{E:List ek}{it acc:ag}(I:Nat->aw->Prop)
    (B:∀n s,I n s->wpAny (bj prog w) A (i0 it) (λr s₁=>match r with
      |none=>R (.ok .next) s₁
      |some v=>wpAny (bj prog w) A (gT a it v) (λ_ s₀=>wpAny (bj prog w) A (rn a env v) (λ_ d=>
          wpAny (bj prog w) A (forIn E true λc r=>if r=true then do let ok<-isTrue c env (eval c env);pure (eA ok) else pure (eA r)) (λok e=>
            if ok=true then wpAny (bj prog w) A (eval F env) (λx f=>
              wpAny (bj prog w) A (call (.builtin "list.append") [acc,x]) (λ_ g=>∃m,m<n/\I m g) (λ_ _=>False) f) (λ_ _=>False) e
            else∃m,m<n/\I m e) (λ_ _=>False) d) (λ_ _=>False) s₀) (λ_ _=>False) s₁) (λ_ _=>False) s)
    (n:Nat) (h:I n s):
    codeAny (bj prog w) A (.compLoop (.ListComp F [⟨a,l,E,0⟩] scope pos) 0 it acc env) R s:=by
  refine codeAny_loop rfl I (λn s hI=>?_) n h;show wpAny _ A ((compTurn (.ListComp F [⟨a,l,E,0⟩] scope pos) 0 it acc env).onRaise (λx=>do noteFrame x env;theTreesLotGoes x)) _ _ s;refine wpAny_noted ?_;rw[compTurn_list];refine ae (jx (ae (eF (B n s hI) (λr s₁ h₁=>?_) λ_ _ h'=>h'.elim)));cases r with
  |none=>exact a3 h₁
  | some v =>
    refine ae (eF h₁ (λ_ s₀ h₀=>?_) λ_ _ h'=>h'.elim);refine ae (eF h₀ (λ_ d i=>ae (eF i (λok e b=>?_) λ_ _ h'=>h'.elim)) λ_ _ h'=>h'.elim);cases ok with
    |false=>exact a3 ⟨rfl,b⟩
    | true =>
      exact ae (ae (eF b (λx f k=>ae (eF k (λ_ g j=>a3 (a3 ⟨rfl,j⟩)) λ_ _ h'=>h'.elim)) λ_ _ h'=>h'.elim))
end
section
variable{X:Cx}
def Qc{F l:ek}{E:List ek}{pos':Pos}{G:TI}{g:TG} {Q:VK} {QQ:ag->aw->Prop}
    (ok:eZ X.env.scope X.N scope N mp) (hc:X.calm=true) (hi:PI X tg l G)
    (hb:∀C s₀ H₀ fp,PG (lE X scope C N s₀ H₀ fp) tg g/\yi (lE X scope C N s₀ H₀ fp) E tc/\PE (lE X scope C N s₀ H₀ fp) F te)
    (hs:∀x,fw l X.env x=pure x) (I:Inv X pins σ H s) (h:mR G g tc te mp σ H Q)
    (fin:∀acc C H' s' m,Inv X pins σ H' s'->nP X pins H' C->s'.heap.Ns C m->Q (.ref acc) H'->wi (bj X.prog X.w) X.A X.xe use QQ (.ref acc) C (.ok .next) s'):
    wpAny (bj X.prog X.w) X.A (comprehension (.ListComp F [⟨tg,l,E,0⟩] scope pos) scope X.env pos' (vb []) false (eval l X.env) use) QQ X.xe s:=by
  have f:∀x∈scope.names,x.2= .free->∃a,X.env.cells.lookup x.1=some a:=λx hx e=>I.ok.has x.1 (ok.free x hx e);refine wpAny_comprehension_free (use:=use) rfl hs (YP f) ok.kind ok.names (aS (hi pins s σ H _ I h) λv s1 h1=>aS h1 λitv s2 h2=>?_);obtain⟨it,fp,tn,J,H2,e,I2,T,st2,M,hW⟩:=h2;subst e;refine df (wpAny_newFunctionEnv ok.cell (by intro y hy;simp at hy) (λh₁ KG Gu=>?_) ok.kind);dsimp only at KG Gu⊢;have I3:=I2.IL (its:=[]) (ys:=[]) (t':=s2.toks) .nil (iP _);have hW:=hW s2.heap.objs.size I2.fresh;obtain⟨W,⟨m0,V⟩,B⟩:=hW;generalize GI:s2.heap.push {cls:= .type "list",dict:=none,data:= .seq ([]:List ag).toArray}=P at KG Gu⊢;have I3:Inv X pins σ (upd H2 s2.heap.objs.size (.lst [])) {s2 with heap:=P}:=by rw[<-GI];exact I3
  generalize V2:upd H2 s2.heap.objs.size (.lst [])=H3 at I3 V;have hC:P.objs.size=s2.heap.objs.size+1:=by rw[<-GI,mY]
  have old:∀b o,P.get? b=some o->h₁.get? b=some o:=λb o e=>Gu.extBut b o (fM (cT e)) (dz _ e);have nI:∀b∈fp,b<s2.heap.objs.size:=λb hb=>by
    obtain⟨o,e,_⟩:=T.obj 0 _ st2 b hb;exact cT e
  have YA:∀b∈fp,H3 b=none:=λb hb=>by
    rw[<-V2,aG (fM (nI b hb))];exact(M b hb).1
  have xg:∀{x:Str} {c:ar},(lI X.env.cells scope.names []).lookup x=some c->X.env.cells.lookup x=some c:=λ{x c} e=>Jh (λy d q=>by simp at q) e;have zY:(lE X scope P.objs.size N {s2 with heap:=P} H3 fp).Ok:=by
    refine⟨I2.ok.mod,ok.kind,I2.ok.glob,I2.ok.blt,aW _,λx y c e1 e2=>I2.ok.inj x y c (xg e1) (xg e2),λx hx=>?_,(λx c e=>absurd (show false=true from e) ⋯),I2.ok.hd,I2.ok.frames, .inl rfl,λb hb=>?_,I3.bs,cU I3.ok.pQ I3.sz,λb o e hb=>?_,λb hb hz=>?_,I3.stack,I3.UG⟩
    · have Z:scope.names.lookup x=some .free:=by
        rcases hx with hx|hx
        · exact GG ok.cell hx (.inl rfl)
        · exact GG ok.cell hx (.inr rfl)
      have hm:=qv Z;obtain⟨a,ha⟩:=f _ hm rfl;exact⟨a,S5 hm ha⟩
    · refine⟨λz=>?_,λx c e=>(M b hb).2.2.2.2.1 x c (xg e)⟩
      have z':b=P.objs.size:=z;have q:=nI b hb;rw[z',hC] at q;exact absurd q (Nat.not_lt.mpr (xD _))
    · rcases(M b hb).2.2.2.1 with z|z
      · exact I2.ok.wm b o e z
      · exact absurd (fX (cT (I2.ok.bs b o e).1) z) (lg _)
    · rcases aM.mp (I2.Gi b hz) with z|z
      · exact(M b hb).2.1 z
      · exact(M b hb).2.2.1 z
  have IY:Inv (lE X scope P.objs.size N {s2 with heap:=P} H3 fp) [] (iY mp σ) H3 {s2 with heap:=h₁,toks:=s2.toks+([]:List (Str×ag)).length}:=by
    refine⟨zY,rfl,I2.bare,Un.kept old,⟨_,KG,λi x v e1 e2 e3=>?_⟩,λx c e=>?_,I3.hok.fresh (aW _),λx c e=>I3.lH x c (xg e),λp hp=>absurd (show p∈([]:List (ar×Obj)) from hp) (by simp),I3.hok.kept old,?_⟩
    · have O:∃j,mp[i]?=some (some j)/\σ[j]?=some (some v):=by
        unfold iY at e2;rw[bu] at e2;cases q:mp[i]? with
        |none=>rw[q] at e2;cases e2
        | some o =>
          rw[q] at e2;cases o with
          |none=>cases e2
          | some j =>
            refine⟨j,rfl,?_⟩;have e2:(match σ[j]? with|some v=>v|none=>none)=some v:=gz e2;cases r:σ[j]? with
            |none=>rw[r] at e2;cases e2
            | some u =>
              rw[r] at e2;have e2:u=some v:=e2;rw[e2]
      obtain⟨j,hj1,hj2⟩:=O;obtain⟨l1,l2⟩:=ok.look i j x hj1 e1;have hm:=qv l2;have kx:=ok.free _ hm rfl;obtain⟨mm,_,hl⟩:=I3.loc;obtain⟨u,D,lk⟩:=hl j x v l1 hj2 (kx.elim (λz=> .inr (.inl z)) λz=> .inr (.inr z));refine⟨u,D, .inr ⟨NZ l2,?_⟩⟩;rcases lk with ⟨k,_⟩|⟨_,c,e,z⟩
      · exfalso
        have t:X.env.scope.names.lookup x=some .local:=k;rcases kx with kx|kx
        · rw[t] at kx;cases kx
        · rw[t] at kx;cases kx
      · refine⟨c,S5 hm e,?_⟩
        obtain⟨o,U,hd⟩:=z;exact⟨o,old c o U,hd⟩
    · obtain⟨v,o,U,hd⟩:=I3.cell x c (xg e)
      exact⟨v,o,old c o U,hd⟩
    · show(iY mp σ).length=N.length
      unfold iY;rw[aj,ok.len]
  have pG:∀{H':Hp},(∀b∈fp,H' b=none)->∀b∈fp,nP (lE X scope P.objs.size N {s2 with heap:=P} H3 fp) [] H' b:=λ{H'} hn b hb=>
    ⟨hn b hb,(zY.B4 b hb).1,zY.vZ b hb, .inl hb,(zY.B4 b hb).2,λp hp=>absurd (show p∈([]:List (ar×Obj)) from hp) (by simp)⟩
  have Pr:tn 0 h₁:=T.keep 0 _ _ st2 λb hb o e=>old b o (by rw[<-GI];exact dz _ e)
  have loop:codeAny (bj X.prog X.w) X.A (.compLoop (.ListComp F [⟨tg,l,E,0⟩] scope pos) 0 (.ref it) (.ref s2.heap.objs.size) (wb scope (lI X.env.cells scope.names []) P.objs.size X.env))
      (wi (bj X.prog X.w) X.A X.xe use QQ (.ref s2.heap.objs.size) P.objs.size) {s2 with heap:=h₁,toks:=s2.toks+([]:List (Str×ag)).length}:=by
    obtain⟨hg,ht,he⟩:=hb P.objs.size {s2 with heap:=P} H3 fp;generalize hY:lE X scope P.objs.size N {s2 with heap:=P} H3 fp=Y at hg ht he IY pG;have yp:Y.prog=X.prog:=by rw[<-hY];rfl
    have yw:Y.w=X.w:=by rw[<-hY];rfl
    have yK:Y.K=X.K:=by rw[<-hY];rfl
    have yA:Y.A=X.A:=by rw[<-hY];rfl
    have yc:Y.calm=true:=by rw[<-hY];exact hc
    have yx:Y.xe=λ_ _=>False:=by rw[<-hY];rfl
    have Lx:Y.env=wb scope (lI X.env.cells scope.names []) P.objs.size X.env:=by rw[<-hY];rfl
    rw[<-Lx];refine SU (λn s'=>∃i σ' H',Inv Y [] σ' H' s'/\tn i s'.heap/\(∀b∈fp,H' b=none)/\W i n σ' H') ?_ m0 ⟨0,_,H3,IY,Pr,YA,V⟩;rintro n s3 ⟨i,σ3,H4,I4,st3,fr3,w3⟩;rcases B i n σ3 H4 w3 with ⟨stop,qn⟩|⟨go,Nx,hN,step⟩
    · have q0:=T.done Y yp yw yK yc i [] s3 σ3 H4 (λ_ _=>False) I4 (pG fr3) st3 stop
      rw[yA] at q0;refine aS q0 λr s4 ⟨hr,I5⟩=>?_;subst hr;show wi (bj X.prog X.w) X.A X.xe use QQ (.ref s2.heap.objs.size) P.objs.size (.ok .next) s4;obtain⟨m,hm,_⟩:=id I5.loc;have yl:Y.env.locals=P.objs.size:=by rw[Lx];rfl
      rw[yl] at hm;have fC:H4 P.objs.size=none:=by have:=I5.free;rw[yl] at this;exact this
      have ub:=I5.base;have ub':Un (frs X.stack) fp H3 H4 P s4.heap:=by rw[<-hY] at ub;exact ub
      have S:s4.os=s2.os:=by have:=I5.os;rw[<-hY] at this;exact this
      have Jt:ff X.prog X.w H4 s4.heap:=by have:=I5.hok;rw[yp,yw] at this;exact this
      have IX:Inv X pins σ H4 s4:=I3.WX (ch:=fp) S ub' Jt I5.bare λb hb=>⟨(M b hb).2.2.2.1,(M b hb).2.1,(M b hb).2.2.2.2.1,(M b hb).2.2.2.2.2⟩;exact fin _ _ H4 s4 m IX (I3.Ab (aW _) fC) hm qn
    · have q0:=T.item Y yp yw yK yc i [] s3 σ3 H4 (λ_ _=>False) I4 (pG fr3) st3 go
      rw[yA] at q0;refine aS q0 λr s4 ⟨u,hr,h4⟩=>?_;subst hr;refine aS h4 λ_ s5 ⟨x,H5,I5,r5,y5,o9,Jx⟩=>?_;have Fi:=I5.pinned (pG Jx) (T.obj _ _ o9);rw[<-yx,<-yp,<-yw,<-yA];refine aS (hg _ s5 σ3 H5 x u _ Fi r5 (step x H5 y5)) λ_ s6 ⟨xF,H6,I6,q6⟩=>?_;refine aS (ht _ s6 xF H6 _ I6 q6) λb s7 ⟨H7,L,q7⟩=>?_;have again:∀{xy:qr} {H8:Hp} {s8:aw},Inv Y ([]++yd fp s5.heap) xy H8 s8->Nx xy H8->∃m,m<n/\∃i σ' H',Inv Y [] σ' H' s8/\tn i s8.heap/\(∀b∈fp,H' b=none)/\W i m σ' H':=λ{xy H8 s8} I8 n8=>by
        obtain⟨R,hm,w8⟩:=hN xy H8 n8;refine⟨R,hm,i+1,xy,H8,I8.CD,T.keep _ _ _ o9 λb hb o e=>(I8.pin (b,o) (kQ _ (kQ _ (D8 hb e)))).1,λb hb=>?_,w8⟩;obtain⟨o,e,d⟩:=T.obj _ _ o9 b hb;exact(I8.pin (b,o) (kQ _ (kQ _ (D8 hb e)))).2.1
      cases b with
      | false =>
        rw[if_neg eB];rw[if_neg eB] at q7;exact again L q7
      | true =>
        rw[if_pos rfl];rw[if_pos rfl] at q7;refine aS (he _ s7 xF H7 _ L q7) λv s8 ⟨y,H8,I8,r8,ys,e8,z8,n8⟩=>?_;refine aS (tW _ s8 xF H8 (.ref s2.heap.objs.size) [y] (.ref s2.heap.objs.size) [v] (λ_ H9=>H9=upd H8 s2.heap.objs.size (.lst (ys++[y]))) I8 rfl (.cons r8 .nil) ⟨_,ys,y,rfl,rfl,e8,z8,rfl⟩) λv9 s9 ⟨y9,H9,I9,r9,e9⟩=>?_;subst e9;exact again I9 n8
  refine codeAny_compStart_list loop (T.self _ _ _ _ _ Pr loop)
theorem nP.turned{pins:List (ar×Obj)}{s:aw}{σ:qr}{H:Hp}{C:ar}{h':eh}(I:Inv X pins σ H s)(f:nP X pins H C)(hs:eu C s.heap h'):Inv X pins σ H {s with heap:=h'}:=
 I.turned (t':=s.toks) (λb o hb e=>(hs.2 b hb).trans e) f.1 f.2.1 f.2.2.2.1 f.2.2.2.2.1 f.2.2.2.2.2
def jd{F l:ek}{E:List ek}{G:TI}{g:TG}
  (ok:eZ X.env.scope X.N scope N mp) (hi:PI X tg l G)
  (hb:∀C s₀ H₀ fp,PG (lE X scope C N s₀ H₀ fp) tg g/\yi (lE X scope C N s₀ H₀ fp) E tc/\PE (lE X scope C N s₀ H₀ fp) F te) (hc:X.calm=true:=by rfl)
  (hs:∀x,fw l X.env x=pure x:=by intro _;rfl):PE X (.ListComp F [⟨tg,l,E,0⟩] scope pos) (mR G g tc te mp):=by
 intro pins s σ H Q I h;rw[eval_ListComp];refine Qc (use:=none) ok hc hi hb hs I h λacc C H' s' m b f hn q=>?_;exact⟨m,hn,λh' d=>⟨.ref acc,H',f.turned b d,rfl,q⟩⟩
def HK(i:Nat)(t:TE):TS:=λD σ H=>t σ H λv H'=>D.nx (σ.set i (some v)) H'
def sG{F l:ek}{E:List ek}{c j:Pos}{G:TI}{g:TG}{y:Str}
  (hN:X.N.Nodup) (hy:X.N[i]?=some y) (hk:X.env.kindOf y=some .local)
  (ok:eZ X.env.scope X.N scope N mp) (hi:PI X tg l G)
  (hb:∀C s₀ H₀ fp,PG (lE X scope C N s₀ H₀ fp) tg g/\yi (lE X scope C N s₀ H₀ fp) E tc/\PE (lE X scope C N s₀ H₀ fp) F te) (hc:X.calm=true:=by rfl)
  (k:oy (.ListComp F [⟨tg,l,E,0⟩] scope pos) (some (.Name y j)) c.line X.env=pure true:=by rfl)
  (hs:∀x,fw l X.env x=pure x:=by intro _;rfl):PS X (.Assign [.Name y j] (.ListComp F [⟨tg,l,E,0⟩] scope pos) c) (HK i (mR G g tc te mp)):=by
 intro pins s σ H D I h;rw[exec_Assign_Name_used _ _ _ _ k];refine ae (jx (ae ?_));show wpAny _ X.A (do let _<-comprehension (.ListComp F [⟨tg,l,E,0⟩] scope pos) scope X.env _ (vb []) false (eval l X.env) (some (rn (.Name y j) X.env))) _ _ s;refine ae (eF (Qc (use:=some (rn (.Name y j) X.env)) (QQ:=λ_ s'=>SP X pins D .next s') ok hc hi hb hs I h λacc C H' s' m b f hn q=>?_) (λ_ s' hq=>a3 (a3 hq)) λ_ _ e=>e);refine lj (Pz (v:= .ref acc) b hN hy (.inl hk) rfl (λs2 I2 ⟨a,sb,ha⟩=>?_) (.inr hk));have U:C≠a:=by
  rcases ha with z|z
  .rw[z];exact f.2.1
  .exact λe=>f.2.2.2.2.1 y a z e.symm
 exact⟨m,hn.sameBut sb U,λh' d=>⟨_,H',f.turned I2 d,q⟩⟩
end
def Sm(i:Int):Prop:= -(2^300)<i/\i<2^300
theorem UY{i:Int}(h:Sm i):jb i<=2^20:=by
 obtain⟨h1,h2⟩:=h;unfold jb;split;·exact iP _
 .rename_i h0
  have hn:i.natAbs≠0:=by
   intro e;apply h0;simp;omega
  have h3:i.natAbs<2^300:=∅
  have h4:i.natAbs.log2<300:=(vc hn).mpr h3;have:(2:Nat)^20=1048576:=⋯
  omega
theorem Zk{x y:Int}(h:Sm y):Builtin.divisionGoesByPylong x y=false:=by
 refine PyProof.noPylong_of_log2 ?_;obtain⟨h1,h2⟩:=h;by_cases h0:y.natAbs=0;·rw[h0];decide+kernel
 .have h3:y.natAbs<2^300:=∅
  have h4:y.natAbs.log2<300:=(vc h0).mpr h3;omega
section
variable{X:Cx}
theorem rC:fu X (g6 .FloorDiv) (rI (λ_ j=>0<j/\Sm j) λi j=> .int (i/j)):=B6 λi j _ _ _ _ _ hc q=>
 floordiv_int ∅ (by rw[Int.fdiv_eq_ediv_of_nonneg _ ∅];exact q) (.inl (Zk hc.2))
def nH(K:PySem.W.Frag):List V->Hp->VK->Prop:=λxs H Q=>∃x T t b,xs=[x, .ty T]/\kF K H x t/\PySem.W.kitOne K t (.type T)=some b/\Q (.bl b) H
def pS:iK X (.builtin "isinstance") (nH X.K):=by
 intro pins s σ H xs us Q I rv h;obtain⟨x,T,t,b,rfl,ty,e,q⟩:=h;obtain⟨u,v,rfl,D,rv⟩:=rv.two;cases (show v=ea T from rv);exact WE I D ty e λtk=>⟨.bl b,H,I.tok tk,rfl,q⟩
def sI:PyData->Key->Prop
 | .int i,k=>k= .inl i
 | .str x,k=>k= .inr x
 |_,_=>False
mutual
def af(nb:ar->Prop)(H:Hp):PyData->V->Prop
 | .none,v=>v= .aN
 | .bool b,v=>v= .bl b
 | .int i,v=>v= .int i
 | .str x,v=>v= .str x
 | .list ds,v=>∃a xs,v= .ref a/\¬nb a/\H a=some (.lst xs)/\ah nb H ds xs
 | .tuple ds,v=>∃a xs,v= .ref a/\¬nb a/\H a=some (.tup xs)/\ah nb H ds xs
 | .dict kvs,v=>∃a ps,v= .ref a/\¬nb a/\Rd H a (.dK ps)/\ao nb H kvs ps
termination_by structural d=>d
def ah(nb:ar->Prop)(H:Hp):List PyData->List V->Prop
 |[],xs=>xs=[]
 |d::ds,xs=>∃y ys,xs=y::ys/\af nb H d y/\ah nb H ds ys
termination_by structural d=>d
def ao(nb:ar->Prop)(H:Hp):List (PyData×PyData)->List (Key×V)->Prop
 |[],xs=>xs=[]
 |d::ds,xs=>∃p ys,xs=p::ys/\cH nb H d p/\ao nb H ds ys
termination_by structural d=>d
def cH(nb:ar->Prop)(H:Hp):PyData×PyData->Key×V->Prop
 |(k,d),p=>sI k p.1/\af nb H d p.2
termination_by structural d=>d
end
def bC(nb:ar->Prop)(H H':Hp):Prop:=∀a o,¬nb a->H a=some o->H' a=some o
def Nb(b:ar):ar->Prop:=λa=>a=b
section
variable{nb aA:ar->Prop}{H H1 H2 H':Hp}{a b c p:ar}{o:HO}{xs:List V}
def bC.refl(nb:ar->Prop)(H:Hp):bC nb H H:=λ_ _ _ h=>h
def bC.trans(x:bC nb H H1)(y:bC nb H1 H2):bC nb H H2:=λa o n h=>y a o n (x a o n h)
def bC.of(x:dQ H H'):bC nb H H':=λa o _ h=>x a o h
def bC.set(h:nb p):bC nb H (upd H p o):=λa u n q=>by rw[aG (λe=>n (by rw[e];exact h))];exact q
def bC.rd{u:HO}(x:bC nb H H')(n:¬nb a)(h:Rd H a u):Rd H' a u:=by
 rcases h with h|⟨o,h⟩
 .exact .inl (x _ _ n h)
 .exact .inr ⟨o,x _ _ n h⟩
end
mutual
theorem af.keep{nb:ar->Prop}{H H':Hp}(x:bC nb H H'):∀{d:PyData} {v:V},af nb H d v->af nb H' d v
 | .none,_,h=>by unfold af at h⊢;exact h
 | .bool _,_,h=>by unfold af at h⊢;exact h
 | .int _,_,h=>by unfold af at h⊢;exact h
 | .str _,_,h=>by unfold af at h⊢;exact h
 | .list ds,_,h=>by unfold af at h⊢;obtain⟨a,xs,e,n,s,r⟩:=h;exact⟨a,xs,e,n,x _ _ n s,ah.keep x r⟩
 | .tuple ds,_,h=>by unfold af at h⊢;obtain⟨a,xs,e,n,s,r⟩:=h;exact⟨a,xs,e,n,x _ _ n s,ah.keep x r⟩
 | .dict kvs,_,h=>by unfold af at h⊢;obtain⟨a,xs,e,n,s,r⟩:=h;exact⟨a,xs,e,n,x.rd n s,ao.keep x r⟩
theorem ah.keep{nb:ar->Prop}{H H':Hp}(x:bC nb H H'):∀{ds:List PyData} {vs:List V},ah nb H ds vs->ah nb H' ds vs
 |[],_,h=>by unfold ah at h⊢;exact h
 |d::ds,_,h=>by unfold ah at h⊢;obtain⟨y,ys,e,h1,h2⟩:=h;exact⟨y,ys,e,af.keep x h1,ah.keep x h2⟩
theorem ao.keep{nb:ar->Prop}{H H':Hp}(x:bC nb H H'):∀{ds:List (PyData×PyData)} {vs:List (Key×V)},ao nb H ds vs->ao nb H' ds vs
 |[],_,h=>by unfold ao at h⊢;exact h
 |d::ds,_,h=>by unfold ao at h⊢;obtain⟨y,ys,e,h1,h2⟩:=h;exact⟨y,ys,e,cH.keep x h1,ao.keep x h2⟩
theorem cH.keep{nb:ar->Prop}{H H':Hp}(x:bC nb H H'):∀{d:PyData×PyData} {v:Key×V},cH nb H d v->cH nb H' d v
 |(k,d),_,h=>by unfold cH at h⊢;exact⟨h.1,af.keep x h.2⟩
end
mutual
theorem af.av{nb aA:ar->Prop}{H:Hp}(x:∀a,aA a->nb a):∀{d:PyData} {v:V},af nb H d v->af aA H d v
 | .none,_,h=>by unfold af at h⊢;exact h
 | .bool _,_,h=>by unfold af at h⊢;exact h
 | .int _,_,h=>by unfold af at h⊢;exact h
 | .str _,_,h=>by unfold af at h⊢;exact h
 | .list ds,_,h=>by unfold af at h⊢;obtain⟨a,xs,e,n,s,r⟩:=h;exact⟨a,xs,e,λz=>n (x a z),s,ah.av x r⟩
 | .tuple ds,_,h=>by unfold af at h⊢;obtain⟨a,xs,e,n,s,r⟩:=h;exact⟨a,xs,e,λz=>n (x a z),s,ah.av x r⟩
 | .dict kvs,_,h=>by unfold af at h⊢;obtain⟨a,xs,e,n,s,r⟩:=h;exact⟨a,xs,e,λz=>n (x a z),s,ao.av x r⟩
theorem ah.av{nb aA:ar->Prop}{H:Hp}(x:∀a,aA a->nb a):∀{ds:List PyData} {vs:List V},ah nb H ds vs->ah aA H ds vs
 |[],_,h=>by unfold ah at h⊢;exact h
 |d::ds,_,h=>by unfold ah at h⊢;obtain⟨y,ys,e,h1,h2⟩:=h;exact⟨y,ys,e,af.av x h1,ah.av x h2⟩
theorem ao.av{nb aA:ar->Prop}{H:Hp}(x:∀a,aA a->nb a):∀{ds:List (PyData×PyData)} {vs:List (Key×V)},ao nb H ds vs->ao aA H ds vs
 |[],_,h=>by unfold ao at h⊢;exact h
 |d::ds,_,h=>by unfold ao at h⊢;obtain⟨y,ys,e,h1,h2⟩:=h;exact⟨y,ys,e,cH.av x h1,ao.av x h2⟩
theorem cH.av{nb aA:ar->Prop}{H:Hp}(x:∀a,aA a->nb a):∀{d:PyData×PyData} {v:Key×V},cH nb H d v->cH aA H d v
 |(k,d),_,h=>by unfold cH at h⊢;exact⟨h.1,af.av x h.2⟩
end
mutual
theorem af.fresh{nb:ar->Prop}{H:Hp}{p:ar}(hp:H p=none):∀{d:PyData} {v:V},af nb H d v->af (λa=>nb a\/a=p) H d v
 | .none,_,h=>by unfold af at h⊢;exact h
 | .bool _,_,h=>by unfold af at h⊢;exact h
 | .int _,_,h=>by unfold af at h⊢;exact h
 | .str _,_,h=>by unfold af at h⊢;exact h
 | .list ds,_,h=>by unfold af at h⊢;obtain⟨a,xs,e,n,s,r⟩:=h;exact⟨a,xs,e,λz=>z.elim n (jW s hp),s,ah.fresh hp r⟩
 | .tuple ds,_,h=>by unfold af at h⊢;obtain⟨a,xs,e,n,s,r⟩:=h;exact⟨a,xs,e,λz=>z.elim n (jW s hp),s,ah.fresh hp r⟩
 | .dict kvs,_,h=>by unfold af at h⊢;obtain⟨a,xs,e,n,s,r⟩:=h;exact⟨a,xs,e,λz=>z.elim n (s.elim (λs=>jW s hp) λ⟨_,s⟩=>jW s hp),s,ao.fresh hp r⟩
theorem ah.fresh{nb:ar->Prop}{H:Hp}{p:ar}(hp:H p=none):∀{ds:List PyData} {vs:List V},ah nb H ds vs->ah (λa=>nb a\/a=p) H ds vs
 |[],_,h=>by unfold ah at h⊢;exact h
 |d::ds,_,h=>by unfold ah at h⊢;obtain⟨y,ys,e,h1,h2⟩:=h;exact⟨y,ys,e,af.fresh hp h1,ah.fresh hp h2⟩
theorem ao.fresh{nb:ar->Prop}{H:Hp}{p:ar}(hp:H p=none):∀{ds:List (PyData×PyData)} {vs:List (Key×V)},ao nb H ds vs->ao (λa=>nb a\/a=p) H ds vs
 |[],_,h=>by unfold ao at h⊢;exact h
 |d::ds,_,h=>by unfold ao at h⊢;obtain⟨y,ys,e,h1,h2⟩:=h;exact⟨y,ys,e,cH.fresh hp h1,ao.fresh hp h2⟩
theorem cH.fresh{nb:ar->Prop}{H:Hp}{p:ar}(hp:H p=none):∀{d:PyData×PyData} {v:Key×V},cH nb H d v->cH (λa=>nb a\/a=p) H d v
 |(k,d),_,h=>by unfold cH at h⊢;exact⟨h.1,af.fresh hp h.2⟩
end
mutual
theorem af.reads{pins:List (ar×Obj)}{σ:qr}{H:Hp}{s:aw}{nb:ar->Prop}(I:Inv X pins σ H s):∀{d:PyData} {v:V} {u:ag},af nb H d v->RelV v u->d.canLay0=true->∃as,Reads s.heap u d as
  | .none,_,_,h,r,_=>by unfold af at h;subst h;cases r;exact⟨_, .none⟩
  | .bool _,_,_,h,r,_=>by unfold af at h;subst h;cases r;exact⟨_, .bool _⟩
  | .int _,_,_,h,r,_=>by unfold af at h;subst h;obtain⟨t,rfl⟩:=r;exact⟨_, .int _ _⟩
  | .str _,_,_,h,r,_=>by unfold af at h;subst h;obtain⟨t,rfl⟩:=r;exact⟨_, .str _ _⟩
  | .list ds, _, _, h, r, b => by
    unfold af at h;obtain⟨a,xs,rfl,n,s,q⟩:=h;cases r;obtain⟨its,rv,p,hz⟩:=I.list (bL.of s);obtain⟨as,c⟩:=ah.reads I q rv (by simpa only[cq] using b);obtain⟨o,U,hc,m,hd⟩:=p.isList;exact⟨_, .list U hc hd (by simpa using c)⟩
  | .tuple ds, _, _, h, r, b => by
    unfold af at h;obtain⟨a,xs,rfl,n,s,q⟩:=h;cases r;obtain⟨its,rv,p,hz⟩:=I.tuple (i7.of s);obtain⟨as,c⟩:=ah.reads I q rv (by simpa only[cq] using b);obtain⟨o,U,hc,m,hd⟩:=p;exact⟨_, .tuple U hc hd (by simpa using c)⟩
  | .dict _,_,_,h,r,b=>by simp[cq] at b
theorem ah.reads{pins:List (ar×Obj)}{σ:qr}{H:Hp}{s:aw}{nb:ar->Prop}(I:Inv X pins σ H s):∀{ds:List PyData} {vs:List V} {us:List ag},ah nb H ds vs->Vals vs us->be ds=true->∃as,ReadsAll s.heap us ds as
  |[],_,_,h,r,_=>by unfold ah at h;subst h;cases r;exact⟨_, .nil⟩
  | d :: ds, _, _, h, r, hc0 => by
    rw[be,fF] at hc0;unfold ah at h;obtain⟨y,ys,rfl,h1,h2⟩:=h;cases r with
    | cons g O =>
      obtain⟨as,J⟩:=af.reads I h1 g hc0.1;obtain⟨bs,M⟩:=ah.reads I h2 O hc0.2;exact⟨_, .cons J M⟩
end
def KH(a:Bool):R2:=λx y H Q=>∃nb d e,af nb H d x/\af nb H e y/\cn d=true/\cn e=true/\Q (.bl (e6 d e !=a)) H
def WM(Y:X.A.units+64<tj):fu X (da .Eq) (KH false):=by
 intro pins s σ H x y v u Q I rx ry h;obtain⟨nb,d,e,h1,h2,h3,h4,q⟩:=h;obtain⟨as,g⟩:=h1.reads I rx (zA h3);obtain⟨bs,O⟩:=h2.reads I ry (zA h4);exact eq_dataH g O h3 h4 Y ⟨.bl _,H,I,rfl,by simpa using q⟩
def BD(Y:X.A.units+64<tj):fu X (da .NotEq) (KH true):=by
 intro pins s σ H x y v u Q I rx ry h;obtain⟨nb,d,e,h1,h2,h3,h4,q⟩:=h;obtain⟨as,g⟩:=h1.reads I rx (zA h3);obtain⟨bs,O⟩:=h2.reads I ry (zA h4);exact ne_dataH g O h3 h4 Y ⟨.bl _,H,I,rfl,by simpa using q⟩
end
structure Callee(P:bo)(w:cx)(K:PySem.W.Frag)(mg:Str->Option ag)(base:eh)(x:Str)(k:Nat)(ps:List Str)(sp:Sp):Prop where
 ex:∃f fd,bA P w K mg base bF k f fd ps sp/\Binds K fd ps []/\PySem.W.keepIn K (.ref f)=true/\mg x=some (.ref f)
def bw{k:Nat}{ps:List Str}{p:Pos}{es:List ek}(c:Callee X.prog X.w X.K X.mg X.base x k ps sp)(hr:fG k X.A)(ha:PA X (e::es) t)(hg:Gl X x:=by rfl)
  (a:(x==("__debug__":Str))=false:=by decide) (he:bp (e::es) X.env=(false,eval e X.env)::bp es X.env:=by rfl) (hpl:(fm pos (bp es X.env)).any (·.1)=false:=by rfl):
  PE X (.Call (.Name x p) (e::es) [] pos) (jh sp [] E0 t):=by
 obtain⟨f,fd,F,b,kp,m⟩:=c.ex;exact ZP F hr hg m kp b .nil BJ ha a he hpl
def Callee.mk'{P:bo}{K:PySem.W.Frag}{st:el}{k:Nat}{ps:List Str}{f:ar}(F:bI K x x st f fd)(ok:bA P w K mg base bF k f fd ps sp)(b:Binds K fd ps [])
  (m:mg x=some (.ref f)):Callee P w K mg base x k ps sp:=⟨f,fd,ok,b,F.kp,m⟩
def aX(K:PySem.W.Frag)(x q:Str)(st:el)(f:ar):Prop:=PySem.W.nsIn K bc x=some (some (.ref f))/\∃fd,bI K x q st f fd
def aX.mk{K:PySem.W.Frag}{q:Str}{st:el}{f:ar}{od an:Option ar}{kV doc pm cdv ct:ag}(a:PySem.W.nsIn K bc x=some (some (.ref f)))(l:K.lookup f=some ⟨oc,od, .func (PySem.W.fnOf x q (ie st) (gX st) (aI st) .none kV doc pm an cdv ct),osl⟩)
  (c:PySem.W.codeIn K cdv q=true) (k:PySem.W.keepIn K (.ref f)=true):aX K x q st f:=⟨a,_,jR l c k⟩
section
variable{X:Cx}
def ku:fu X (g6 .Mult) (rI (λi j=>Bx i j\/(Sm i/\Sm j)) λi j=> .int (i*j)):=B6 λ_ _ _ _ _ _ _ hc q=>mul_int q (by
 rcases hc with hc|hc
 .exact hc.ok
 .exact IntMulOk.of_bits (UY hc.1) (UY hc.2))
end
def dO(H:Hp)(b l:ar):Prop:=∃(ns:List Int) (i c st n:Int),H b=some (.lst [.ref l, .int i, .int c, .int st, .int n])/\H l=some (.lst (ns.map V.int))/\
 (∀x∈ns,0<=x/\x<10^60)/\ns.length<=63/\0<=i/\0<=c/\c<10^60/\0<=st/\st<2147483647
def TC{b l:ar}{i c st n:V}(h:H b=some (.lst [.ref l,i,c,st,n]))(h':H l=some (.lst (ns.map V.int))):l≠b:=by
 intro e;subst e;rw[h] at h';have e:=HO.lst.inj (gz h');cases ns with
 |nil=>cases e
 |cons x r=>rw[bR] at e;cases (xG e).1
def dO.put{b l:ar}{i c st n:Int}(hl:l≠b)(h':H l=some (.lst (ns.map V.int)))(h1:∀x∈ns,0<=x/\x<10^60)(h2:ns.length<=63)
  (h3:0<=i) (h4:0<=c) (h5:c<10^60) (h6:0<=st) (e:st<2147483647):dO (upd H b (.lst [.ref l, .int i, .int c, .int st, .int n])) b l:=
 ⟨ns,i,c,st,n,aV,by rw[aG hl];exact h',h1,h2,h3,h4,h5,h6,e⟩
def dO.put2{b l p:ar}{o:HO}(h:dO H b l)(hp:p≠b/\p≠l):dO (upd H p o) b l:=by
 obtain⟨ns,i,c,st,n,h1,h2,r⟩:=h;exact⟨ns,i,c,st,n,by rw[aG (cY hp.1)];exact h1,by rw[aG (cY hp.2)];exact h2,r⟩
def dO.same{b l:ar}(h:dO H b l)(s:dQ H H'):dO H' b l:=by
 obtain⟨ns,i,c,st,n,h1,h2,r⟩:=h;exact⟨ns,i,c,st,n,s _ _ h1,s _ _ h2,r⟩
def k7:Sp:=λvs H Q _=>∃(b l:ar) (many:Int),vs=[.ref b, .int many]/\dO H b l/\0<many/\Sm many/\∀(r:Int) (H':Hp),0<=r->r<many->bC (Nb b) H H'->dO H' b l->Q (.int r) H'
def MN(K:PySem.W.Frag):Sp:=λvs H Q _=>∃(a:ar) (ns:List Int),vs=[.ref a]/\bL K H a (ns.map V.int)/\ns.length<=63/\∀(b l:ar) (H':Hp),dQ H H'->H b=none->dO H' b l->Q (.ref b) H'
theorem jT{α:Type}{xs:List α}{i:Int}{v:α}(h0:0<=i)(h:xs[i.toNat]?=some v):cI xs i=some v:=by
 have e:i=((i.toNat:Nat):Int):=∅
 rw[e];exact TK h
def dU{p:ar}{o:HO}(h:H p=none):dQ H (upd H p o):=λb u q=>by rw[aG (jW q h)];exact q
section
variable{nb:ar->Prop}{H H':Hp}
theorem ah.length:∀{ds:List PyData} {xs:List V},ah nb H ds xs->xs.length=ds.length
 |[],_,h=>by unfold ah at h;subst h;rfl
 |d::ds,_,h=>by unfold ah at h;obtain⟨y,ys,rfl,_,h2⟩:=h;simp[ah.length h2]
theorem ah.get:∀{ds:List PyData} {xs:List V} {i:Nat} {d:PyData},ah nb H ds xs->ds[i]?=some d->∃x,xs[i]?=some x/\af nb H d x
 |[],_,_,_,_,e=>by simp at e
 |d::ds,_,0,_,h,e=>by unfold ah at h;obtain⟨y,ys,rfl,h1,h2⟩:=h;simp at e;subst e;exact⟨y,rfl,h1⟩
 |d::ds,_,i+1,_,h,e=>by unfold ah at h;obtain⟨y,ys,rfl,h1,h2⟩:=h;simpa using ah.get (i:=i) h2 (by simpa using e)
theorem ah.snoc{d:PyData}{x:V}(hd:af nb H d x):∀{ds:List PyData} {xs:List V},ah nb H ds xs->ah nb H (ds++[d]) (xs++[x])
 |[],_,h=>by unfold ah at h;subst h;unfold ah;exact⟨x,[],rfl,hd,by unfold ah;rfl⟩
 |e::ds,_,h=>by unfold ah at h;obtain⟨y,ys,rfl,h1,h2⟩:=h;show ah nb H (e::(ds++[d])) _;unfold ah;exact⟨y,ys++[x],rfl,h1,ah.snoc hd h2⟩
theorem ah.append:∀{ds es:List PyData} {xs ys:List V},ah nb H ds xs->ah nb H es ys->ah nb H (ds++es) (xs++ys)
 |[],_,_,_,h,h'=>by unfold ah at h;subst h;exact h'
 |e::ds,es,_,zs,h,h'=>by unfold ah at h;obtain⟨y,ys,rfl,h1,h2⟩:=h;show ah nb H (e::(ds++es)) _;unfold ah;exact⟨y,ys++zs,rfl,h1,ah.append h2 h'⟩
theorem ah.take:∀{ds:List PyData} {xs:List V} (n:Nat),ah nb H ds xs->ah nb H (ds.take n) (xs.take n)
 |_,_,0,_=>by simp only[Er];unfold ah;rfl
 |[],_,n+1,h=>by unfold ah at h;subst h;simp only[List.take_nil];unfold ah;rfl
 |d::ds,_,n+1,h=>by unfold ah at h;obtain⟨y,ys,rfl,h1,h2⟩:=h;simp only[List.take_succ_cons];unfold ah;exact⟨y,_,rfl,h1,ah.take n h2⟩
theorem ah.drop:∀{ds:List PyData} {xs:List V} (n:Nat),ah nb H ds xs->ah nb H (ds.drop n) (xs.drop n)
 |_,_,0,h=>h
 |[],_,n+1,h=>by unfold ah at h;subst h;simp only[List.drop_nil];unfold ah;rfl
 |d::ds,_,n+1,h=>by unfold ah at h;obtain⟨y,ys,rfl,h1,h2⟩:=h;simp only[List.drop_succ_cons];exact ah.drop n h2
def ah.nil:ah nb H [] []:=by unfold ah;rfl
def ah.cons{d:PyData}{x:V}{ds:List PyData}{xs:List V}(h1:af nb H d x)(h2:ah nb H ds xs):ah nb H (d::ds) (x::xs):=by unfold ah;exact⟨x,xs,rfl,h1,h2⟩
theorem af.int(i:Int):af nb H (.int i) (.int i):=by unfold af;rfl
theorem af.aN:af nb H .none .aN:=by unfold af;rfl
theorem af.bl(b:Bool):af nb H (.bool b) (.bl b):=by unfold af;rfl
theorem af.lst{a:ar}{ds:List PyData}{xs:List V}(n:¬nb a)(h:H a=some (.lst xs))(hd:ah nb H ds xs):af nb H (.list ds) (.ref a):=by unfold af;exact⟨a,xs,rfl,n,h,hd⟩
theorem af.tup{a:ar}{ds:List PyData}{xs:List V}(n:¬nb a)(h:H a=some (.tup xs))(hd:ah nb H ds xs):af nb H (.tuple ds) (.ref a):=by unfold af;exact⟨a,xs,rfl,n,h,hd⟩
def af.ig{v:V}(h:af nb H (.list ds) v):∃a xs,v= .ref a/\¬nb a/\H a=some (.lst xs)/\ah nb H ds xs:=by unfold af at h;exact h
def af.ofT{v:V}(h:af nb H (.tuple ds) v):∃a xs,v= .ref a/\¬nb a/\H a=some (.tup xs)/\ah nb H ds xs:=by unfold af at h;exact h
def af.bT{v:V}{i:Int}(h:af nb H (.int i) v):v= .int i:=by unfold af at h;exact h
def af.CA{v:V}(h:af nb H .none v):v= .aN:=by unfold af at h;exact h
end
def XE:Sp:=λvs H Q _=>∃i:Int,vs=[.int i]/\Q (.bl true) H
def yE(K:PySem.W.Frag):Sp:=λvs H Q _=>∃(a:ar) (ns:List Int),vs=[.ref a]/\bL K H a (ns.map V.int)/\ns.length<=63/\∀H',Q (.bl true) H'
def GX(Q:VK):List V->Hp->Prop:=λxs H1=>xs.length<=sizeLine/\∀p,H1 p=none->Q (.ref p) (upd H1 p (.lst xs))
def jQ(K:PySem.W.Frag):List V->Hp->VK->Prop:=λxs H Q=>∃p ys,xs=[.ref p]/\(bL K H p ys\/i7 K H p ys)/\∀l,H l=none->Q (.ref l) (upd H l (.lst ys))
def nM:iK X (.type "list") (jQ X.K):=Ee
def Sd:R2:=λx y H Q=>y= .aN/\Q (.bl (decide (x= .aN))) H
def Bq:R2:=λx y H Q=>y= .aN/\Q (.bl (!decide (x= .aN))) H
def Fp:fu X (da .Is) Sd:=Xm
def qX:fu X (da .IsNot) Bq:=Yz
noncomputable def intOf:ek->Option Int
 | .Constant (.int i) _ _=>some i
 |_=>none
def VN{i:Int}(h:intOf e=some i):∃k p,e= .Constant (.int i) k p:=by
 unfold intOf at h;split at h;·cases h;exact⟨_,_,rfl⟩
 .cases h
noncomputable def tF:List ek->Option (List Int)
 |[]=>some []
 |e::r=>(intOf e).bind λi=>(tF r).map (i:: ·)
def zy(is:List Int):TA:=λ_ H Q=>Q (is.map V.int) H
def M7:∀{es:List ek} {is:List Int},tF es=some is->PA X es (zy is):=by
  intro es;induction es with
  | nil =>
    intro is h;have e:is=[]:=by simpa[tF] using h.symm
    subst e;exact ai
  | cons e r ih =>
    intro is h;unfold tF at h;cases hi:intOf e with
    |none=>rw[hi] at h;cases h
    | some i =>
      rw[hi] at h;obtain⟨k,p,rfl⟩:=VN hi;obtain⟨a,O,rfl⟩:=jJ.mp (show(tF r).map (i:: ·)=some is from h);exact aa (te:=tC (.int i)) (t:=zy a) ak (ih O)
def Bz{X:Cx}{i:Nat}{x:Str}{es:List ek}{is:List Int}{k p2 a:Pos}(hN:X.N.Nodup)(hi:X.N[i]?=some x)(hx:Loc X.env.scope x)(h:tF es=some is)(hf:X.fn x=true\/X.env.scope.names.lookup x=some .local):
  PS X (.Assign [.Name x k] (.List es p2) a) (gu (oX (zy is)) (gh i)):=bh hN hi hx (iX (M7 h)) rfl hf
namespace R
section
variable{σ:qr}{H:Hp}{Q:VK}{D:Ends}{ta tb te:TE}{K:PySem.W.Frag}
def seq{t u:TS}(h:t {D with nx:=u D} σ H):oM t u D σ H:=h
def asg{g:TG}(h:te σ H λx H1=>g x σ H1 D.nx):gu te g D σ H:=h
def mJ{c:TT}{t u:TS}(h:c σ H λb H1=>if b=true then t D σ H1 else u D σ H1):DK c t u D σ H:=h
def ret(h:te σ H D.rt):pT te D σ H:=h
def next(h:D.nx σ H):Kc D σ H:=h
def var{v:V}(e:σ[i]?=some (some v))(h:Q v H):br i σ H Q:=⟨v,e,h⟩
def c{v:V}(h:Q v H):tC v σ H Q:=h
def op{r:R2}(h:ta σ H λx H1=>tb σ H1 λy H2=>r x y H2 Q):er r ta tb σ H Q:=h
def test{q:Bool->Hp->Prop}(h:te σ H λx H'=>∃k,x= .bl k/\q k H'):IV te σ H q:=h
theorem bl{P:Bool->Prop}{b:Bool}(h:P b):∃k,V.bl b= .bl k/\P k:=⟨b,rfl,h⟩
def and{t u:TT}{q:Bool->Hp->Prop}(h:t σ H λc H1=>if c=true then u σ H1 q else q false H1):Jz t u σ H q:=h
def cb{r:List V->Hp->VK->Prop}(h:t σ H λvs H1=>r vs H1 Q):gk r t σ H Q:=h
def call(h:t σ H λvs H1=>sp (vs++[]) H1 Q E0):jh sp [] E0 t σ H Q:=h
def nil{q:List V->Hp->Prop}(h:q [] H):bK σ H q:=h
def cons{t:TA}{q:List V->Hp->Prop}(h:ta σ H λx H1=>t σ H1 λxs H2=>q (x::xs) H2):aU ta t σ H q:=h
def lst{t:TA}(h:t σ H (GX Q)):oX t σ H Q:=h
def sl{r:V->Option Int->Option Int->Hp->VK->Prop}{tl th:TO}(h:te σ H λx H1=>tl σ H1 λl H2=>th σ H2 λu H3=>r x l u H3 Q):xU r te tl th σ H Q:=h
def Vj{q:Option Int->Hp->Prop}(h:q none H):GN σ H q:=h
def part{q:Option Int->Hp->Prop}(h:te σ H λx H1=>∃i,x= .int i/\q (some i) H1):ER te σ H q:=h
def Cs{P:Int->Prop}{i:Int}(h:P i):∃j,V.int i= .int j/\P j:=⟨i,rfl,h⟩
def bm0(h:te σ H λx H1=>uf K T x H1/\r x [] H1 Q):aep K T r te σ H Q:=h
def bm(h:te σ H λx H1=>uf K T x H1/\t σ H1 λxs H2=>r x xs H2 Q):n9 K T r te t σ H Q:=h
def Rj{v:V}(h:q (σ.set i (some v)) H):gh i v σ H q:=h
def Qr{to c:TE}{t:tL}{v:V}(h:to σ H λo H1=>c σ H1 λi H2=>t o i v H2 λH3=>q σ H3):lZ to c t v σ H q:=h
def W7{t:TG}{u:kE}{v:V}{r:List V}(h:t v σ H λM H'=>u r M H' q):oq t u (v::r) σ H q:=⟨v,r,rfl,h⟩
def V4(h:q σ H):xY [] σ H q:=⟨rfl,h⟩
def Ga{t:kE}(hq:i7 K H a xs)(hl:xs.length=n)(h:t xs σ H q):rT K n t (.ref a) σ H q:=⟨a,xs,rfl,hq,hl,h⟩
def vp{q:Bool->Hp->Prop}(h:q true H):pD σ H q:=h
theorem jk{g:Int->Int->V}{i j:Int}(h:Q (g i j) H):L2.jk g (.int i) (.int j) H Q:=⟨i,j,rfl,rfl,h⟩
theorem rI{C:Int->Int->Prop}{g:Int->Int->V}{i j:Int}(hc:C i j)(h:Q (g i j) H):L2.rI C g (.int i) (.int j) H Q:=⟨i,j,rfl,rfl,hc,h⟩
def HA{i j:Int}:decide (V.int i=V.int j)=decide (i=j):=by rw[t9];simp
def Wu{i j:Int}(h:Q (.bl (decide (i=j))) H):Gg (.int i) (.int j) H Q:=⟨rfl,by rw[HA];exact h⟩
def neI{i j:Int}(h:Q (.bl (decide (i≠j))) H):G6 (.int i) (.int j) H Q:=⟨rfl,by rw[HA,<-decide_not];exact h⟩
def TH{i:Int}(h:Q (.bl true) H):Bq (.int i) .aN H Q:=⟨rfl,by rw[decide_eq_false (λe=>V.noConfusion e)];exact h⟩
def US(h:Q (.bl false) H):Bq .aN .aN H Q:=⟨rfl,by rw[decide_eq_true rfl];exact h⟩
def AG{p:ar}{i:Int}{v:V}(hp:H p=some (.lst xs))(e:cI xs i=some v)(h:Q v H):c6 K (.ref p) (.int i) H Q:=⟨p,xs,i,v,rfl,rfl,bL.of hp,e,h⟩
def KA{p:ar}{o:HO}{i:Int}{v:V}(e:cI xs i=some v)(h:Q v (upd H p (.lst xs))):c6 K (.ref p) (.int i) (upd H p (.lst xs)) Q:=⟨p,xs,i,v,rfl,rfl,bL.of aV,e,h⟩
def setM{p:ar}{k:Int}{v:V}{q:Hp->Prop}(hp:H p=some (.lst xs))(e:ji xs.length k=some j)(h:q (upd H p (.lst (xs.set j v)))):wB (.ref p) (.int k) v H q:=⟨p,xs,k,j,rfl,rfl,hp,e,h⟩
def jt{p:ar}{k:Int}{v:V}{q:Hp->Prop}(e:ji xs.length k=some j)(h:q (upd H p (.lst (xs.set j v)))):wB (.ref p) (.int k) v (upd H p (.lst xs)) q:=
 ⟨p,xs,k,j,rfl,rfl,aV,e,by rw[G0];exact h⟩
def Vp{p:ar}{P:List V->Prop}(hp:H p=some (.lst xs))(h:P xs):∃a ys,[V.ref p]=[.ref a]/\(bL K H a ys\/i7 K H a ys)/\P ys:=⟨p,xs,rfl, .inl (bL.of hp),h⟩
def MX{p:ar}{lo hi:Option Int}(hp:bL K H p xs)(h:∀a,H a=none->Q (.ref a) (upd H a (.lst (nT xs lo hi)))):pV K (.ref p) lo hi H Q:=⟨p,xs,rfl,hp,h⟩
def aaR{a:Int}{P:Int->Prop}(h:P a):∃i,[V.int a]=[.int i]/\P i:=⟨a,rfl,h⟩
def Zg(h:xs.length<=10000)(q:∀p H',dQ H H'->H p=none->H' p=some (.lst xs)->Q (.ref p) H'):GX Q xs H:=
 ⟨cU h ⋯,λp hp=>q p _ (dU hp) hp aV⟩
def slA{p:ar}{lo hi:Option Int}(hp:bL K H p xs)(q:∀a H',dQ H H'->H a=none->H' a=some (.lst (nT xs lo hi))->Q (.ref a) H'):pV K (.ref p) lo hi H Q:=⟨p,xs,rfl,hp,λa ha=>q a _ (dU ha) ha aV⟩
def UW{c A B:Prop}[Decidable c](h:c)(q:A):if c then A else B:=by rw[if_pos h];exact q
def O6{c A B:Prop}[Decidable c](h:¬c)(q:B):if c then A else B:=by rw[if_neg h];exact q
def dT{c:Prop}[Decidable c](h:c):decide c=true:=decide_eq_true h
def dF{c:Prop}[Decidable c](h:¬c):¬decide c=true:=by rw[decide_eq_false h];exact eB
def NL{c:Prop}[Decidable c](h:¬c):(!decide c)=true:=by rw[decide_eq_false h];rfl
def LK{c:Prop}[Decidable c](h:c):¬(!decide c)=true:=by rw[decide_eq_true h];decide
def Ys{R:It->Hp->Prop}(h:t σ H λvs H1=>∃i j:Int,vs=[.int i, .int j]/\(-(2^62)<=i/\i<2^62/\ -(2^62)<=j/\j<2^62)/\R (lC i (j-i).toNat) H1):JZ t σ H R:=h
def afb{P:Int->Int->Prop}{a b:Int}(h1: -(2^62)<=a/\a<2^62/\ -(2^62)<=b/\b<2^62)(h:P a b):∃i j:Int,[V.int a,V.int b]=[.int i, .int j]/\(-(2^62)<=i/\i<2^62/\ -(2^62)<=j/\j<2^62)/\P i j:=⟨a,b,rfl,h1,h⟩
def iL{R:It->Hp->Prop}(h:tl σ H λx H1=>∃a,x= .ref a/\(∃xs,bL K H1 a xs)/\R (rj K a) H1):qq K tl σ H R:=h
def By{P:ar->Prop}{p:ar}(hp:bL K H p xs)(h:P p):∃a,V.ref p= .ref a/\(∃xs,bL K H a xs)/\P a:=⟨p,rfl,⟨xs,hp⟩,h⟩
def ahN{G:TI}{g:TG}{tb:TS}(h:G σ H λJ H1=>∃W:Nat->Nat->qr->Hp->Prop,(∃m,W 0 m σ H1)/\∀i m σ H,W i m σ H->
 (J.stop i H/\D.nx σ H)\/(J.go i H/\∃N:qr->Hp->Prop,(∀M H',N M H'->∃R,R<m/\W (i+1) R M H')/\∀x H',J.nO i H x H'->g x σ H' λk H2=>tb {D with nx:=N,ct:=N,bk:=D.nx} k H2)):pA G g tb D σ H:=h
def comp{G:TI}{g:TG}(h:G σ H λJ H1=>∀acc,H1 acc=none->sj J g tc te acc (λH'=>Q (.ref acc) H') (iY mp σ) (upd H1 acc (.lst []))):mR G g tc te mp σ H Q:=h
end
theorem yG{lo:Int}{g:TG}{f:Hp->Prop}(Pv:Nat->qr->Hp->Prop)(h0:Pv 0 σ H)
  (hs:∀i σ H,i<n->Pv i σ H->g (.int (lo+i)) σ H λk H2=>tc k H2 λb H3=>if b=true then te k H3 λv H4=>∃ys,H4 acc=some (.lst ys)/\ys.length<sizeLine/\Pv (i+1) k (upd H4 acc (.lst (ys++[v]))) else Pv (i+1) k H3)
  (hd:∀σ H,Pv n σ H->f H):sj (lC lo n) g tc te acc f σ H:=by
 refine⟨λi m σ H=>m=n-i/\i<=n/\Pv i σ H,⟨n,by simp,iP _,h0⟩,?_⟩;rintro i m σ H ⟨rfl,hi,p⟩;by_cases hlt:i<n
 .refine .inr ⟨hlt,Pv (i+1),λM H' j=>⟨n-(i+1),∅,rfl,hlt,j⟩,λx H' y=>?_⟩;obtain⟨e,y⟩:=y;subst e y;exact hs i σ _ hlt p
 .have e:i=n:=∅
  subst e;exact .inl ⟨aW _,hd σ H p⟩
theorem QX{K:PySem.W.Frag}{g:TG}{f:Hp->Prop}(Pv:Nat->qr->Hp->Prop)(h0:Pv 0 σ H)(hl:∀i σ H,i<=xs.length->Pv i σ H->bL K H a xs)
  (hs:∀i x σ H,xs[i]?=some x->Pv i σ H->g x σ H λk H2=>tc k H2 λb H3=>if b=true then te k H3 λv H4=>∃ys,H4 acc=some (.lst ys)/\ys.length<sizeLine/\Pv (i+1) k (upd H4 acc (.lst (ys++[v]))) else Pv (i+1) k H3)
  (hd:∀σ H,Pv xs.length σ H->f H):sj (rj K a) g tc te acc f σ H:=by
 refine⟨λi m σ H=>m=xs.length-i/\i<=xs.length/\Pv i σ H,⟨xs.length,by simp,iP _,h0⟩,?_⟩;rintro i m σ H ⟨rfl,hi,p⟩;have q:=hl i σ H hi p;by_cases hlt:i<xs.length
 .refine .inr ⟨⟨xs,xs[i],q,by simp[hlt]⟩,Pv (i+1),λM H' j=>⟨xs.length-(i+1),∅,rfl,hlt,j⟩,λx H' y=>?_⟩;obtain⟨e,y⟩:=y;subst e;exact hs i x σ _ (y xs q) p
 .have e:i=xs.length:=∅
  subst e;exact .inl ⟨⟨xs,q,aW _⟩,hd σ H p⟩
end R
@[reducible] noncomputable def xl(pr:Int×Int):PyData:= .tuple [.int pr.1, .int pr.2]
noncomputable def aT:Option Int->PyData
 |none=> .none
 |some i=> .int i
noncomputable def zW:Option Int->V
 |none=> .aN
 |some i=> .int i
noncomputable def mT(wd:List (Option Int))(pr:Int×Int):Int:=match wd[pr.1.toNat]? with
 |some (some x)=>pr.2*x
 |_=>0
noncomputable def dG(prs:List (Int×Int))(wd:List (Option Int)):Int:=(prs.map (mT wd)).sum
def QS{prs:List (Int×Int)}{wd:List (Option Int)}(h:i<prs.length):dG (prs.take (i+1)) wd=dG (prs.take i) wd+mT wd prs[i]:=by
 unfold dG;rw[EO,aL h,cX,JD];simp
def Ap{o:Option Int}{v:V}(h:af nb H (aT o) v):v=zW o:=by
 cases o with
 |none=>exact h.CA
 |some i=>exact h.bT
theorem PJ{nb:ar->Prop}{H:Hp}:∀{wd:List (Option Int)} {xs:List V},ah nb H (wd.map aT) xs->xs=wd.map zW
  |[],_,h=>by unfold dj ah at h;exact h
  | o :: wd, _, h => by
    rw[bR] at h;unfold ah at h;obtain⟨y,ys,rfl,h1,h2⟩:=h;rw[bR,Ap h1,PJ h2]
def x2{v:V}(h:af nb H (xl pr) v):∃t,v= .ref t/\¬nb t/\H t=some (.tup [.int pr.1, .int pr.2]):=by
 obtain⟨t,xs,rfl,n,ht,hd⟩:=h.ofT;unfold ah at hd;obtain⟨y,ys,rfl,h1,h2⟩:=hd;unfold ah at h2;obtain⟨z,zs,rfl,h3,h4⟩:=h2;unfold ah at h4;subst h4;rw[h1.bT,h3.bT] at ht;exact⟨t,rfl,n,ht⟩
def FN:Sp:=λvs H Q _=>∃(nb:ar->Prop) (p:Int) (b d:V) (prs:List (Int×Int)) (wd:List (Option Int)),vs=[.int p,b,d]/\af nb H (.list (prs.map xl)) b/\af nb H (.list (wd.map aT)) d/\0<p/\
 (∀pr∈prs,0<=pr.1/\pr.1<wd.length/\Sm pr.2)/\(∀x,some x∈wd->Sm x)/\Q (.int (dG prs wd%p)) H
theorem KE(prs:List (Int×Int)):cn (.list (prs.map xl))=true/\bX (prs.map xl)<=1/\be (prs.map xl)=true:=by
 have h:bX (prs.map xl)<=1/\be (prs.map xl)=true:=by
  induction prs with
  |nil=>simp[bX,be]
  |cons a r ih=>simp[xl,bX,dC,be,cq,ih.2];have:=ih.1;omega
 refine⟨?_,h⟩;unfold cn;simp[cq,dC,h.2];omega
def Zo(wd:List (Option Int)):bX (wd.map aT)=0/\be (wd.map aT)=true:=by
 induction wd with
 |nil=>simp[bX,be]
 |cons a r ih=>cases a<;>simp[aT,bX,dC,be,cq,ih.2,ih.1]
def BE(r:Int):Prop:=∀d:Int,2<=d->d*d<=r->r%d≠0
noncomputable def Cb:List Int:=[2,3,5,7,2,11,101,10007,65537,1000003,998244353,1000000007,2147483647,1000000000039,1000000000000000003,18446744073709551557,2305843009213693951,618970019642690137449562111,162259276829213363391578010288127,170141183460469231731687303715884105727,1000000000000000000000000000000000000003,9999999999999999999999999999999999999983]
def Ti(p:Int):Prop:=2<=p/\p<10^40/\(p∈Cb\/BE p)
def JN:Sp:=λvs H Q _=>∃n:Int,vs=[.int n]/\2<=n/\n<=10002/\∀(r:Int) (H':Hp),dQ H H'->2<=r->r<=10100->BE r->Q (.int r) H'
def XB:Sp:=λvs H Q _=>∃(b l:ar),vs=[.ref b]/\dO H b l/\∀(p:Int) (H':Hp),Ti p->bC (Nb b) H H'->dO H' b l->Q (.int p) H'
def adg(wd:List Int)(ld:List (Option Int)):Prop:=ld.length=wd.length/\∀(i:Nat) x,ld[i]?=some (some x)->wd[i]?=some x
theorem vQ{nb:ar->Prop}{H:Hp}:∀is:List Int,ah nb H (is.map ba) (is.map V.int)
 |[]=>ah.nil
 |i::is=>ah.cons (.int i) (vQ is)
theorem vO{nb:ar->Prop}{H:Hp}:∀{is:List Int} {xs:List V},ah nb H (is.map ba) xs->xs=is.map V.int
  |[],_,h=>by unfold dj ah at h;exact h
  | i :: is, _, h => by
    rw[bR] at h;unfold ah at h;obtain⟨y,ys,rfl,h1,h2⟩:=h;rw[bR,h1.bT,vO h2]
noncomputable abbrev Bg:=Option (ar×ar)
def NB(B:Bg)(a:ar):Prop:=∀b l,B=some (b,l)->a≠b
def ly(B:Bg)(H:Hp):Prop:=∀b l,B=some (b,l)->dO H b l
def gZ(nb:ar->Prop)(H:Hp):Prop:=∀a,nb a->H a≠none
structure Kp(S:ar->Prop)(F:List ar)(H H':Hp):Prop where
 own:∀a∈F,∀o,H a=some o->H' a=some o
 lst:∀a xs,¬S a->H a=some (.lst xs)->H' a=some (.lst xs)
 tup:∀a xs,¬S a->H a=some (.tup xs)->H' a=some (.tup xs)
 bB:∀a ps,¬S a->Rd H a (.dK ps)->Rd H' a (.dK ps)
def Kp.of{S:ar->Prop}{F:List ar}(h:∀a o,(¬S a\/a∈F)->H a=some o->H' a=some o):Kp S F H H':=
 ⟨λa ha o e=>h a o (.inr ha) e,λa xs n e=>h a _ (.inl n) e,λa xs n e=>h a _ (.inl n) e,λa ps n e=>e.elim (λe=> .inl (h a _ (.inl n) e)) λ⟨o,e⟩=> .inr ⟨o,h a _ (.inl n) e⟩⟩
mutual
theorem af.kp{S:ar->Prop}{F:List ar}{H H':Hp}(m:Kp S F H H'):∀{d:PyData} {v:V},af S H d v->af S H' d v
 | .none,_,h=>by unfold af at h⊢;exact h
 | .bool _,_,h=>by unfold af at h⊢;exact h
 | .int _,_,h=>by unfold af at h⊢;exact h
 | .str _,_,h=>by unfold af at h⊢;exact h
 | .list ds,_,h=>by unfold af at h⊢;obtain⟨a,xs,e,n,s,r⟩:=h;exact⟨a,xs,e,n,m.lst _ _ n s,ah.kp m r⟩
 | .tuple ds,_,h=>by unfold af at h⊢;obtain⟨a,xs,e,n,s,r⟩:=h;exact⟨a,xs,e,n,m.tup _ _ n s,ah.kp m r⟩
 | .dict kvs,_,h=>by unfold af at h⊢;obtain⟨a,xs,e,n,s,r⟩:=h;exact⟨a,xs,e,n,m.bB _ _ n s,ao.kp m r⟩
theorem ah.kp{S:ar->Prop}{F:List ar}{H H':Hp}(m:Kp S F H H'):∀{ds:List PyData} {vs:List V},ah S H ds vs->ah S H' ds vs
 |[],_,h=>by unfold ah at h⊢;exact h
 |d::ds,_,h=>by unfold ah at h⊢;obtain⟨y,ys,e,h1,h2⟩:=h;exact⟨y,ys,e,af.kp m h1,ah.kp m h2⟩
theorem ao.kp{S:ar->Prop}{F:List ar}{H H':Hp}(m:Kp S F H H'):∀{ds:List (PyData×PyData)} {vs:List (Key×V)},ao S H ds vs->ao S H' ds vs
 |[],_,h=>by unfold ao at h⊢;exact h
 |d::ds,_,h=>by unfold ao at h⊢;obtain⟨y,ys,e,h1,h2⟩:=h;exact⟨y,ys,e,cH.kp m h1,ao.kp m h2⟩
theorem cH.kp{S:ar->Prop}{F:List ar}{H H':Hp}(m:Kp S F H H'):∀{d:PyData×PyData} {v:Key×V},cH S H d v->cH S H' d v
 |(k,d),_,h=>by unfold cH at h⊢;exact⟨h.1,af.kp m h.2⟩
end
structure Cu where
 v:V
 F:List ar
 f:Bool
 P:(ar->Prop)->Hp->Prop
 keep:∀{S:ar->Prop} {H H':Hp},Kp S F H H'->P S H->P S H'
 av:∀{S S':ar->Prop} {H:Hp},(∀a,S' a->S a)->P S H->P S' H
 fresh:∀{S:ar->Prop} {H:Hp} {p:ar},H p=none->P S H->P (λa=>S a\/a=p) H
inductive HD where
 |d (x:PyData)|fz (o:Obj) (ps:List (Key×V))|th (c:Cu)
def fh(S:ar->Prop)(H:Hp):HD->V->Prop
 | .d x,v=>af S H x v
 | .fz o ps,v=>∃a,v= .ref a/\¬S a/\H a=some (.cC o (.dK ps))
 | .th c,v=>v=c.v/\(∀a∈c.F,¬S a/\H a≠none)/\c.P S H
theorem fh.keep{S:ar->Prop}{H H':Hp}{x:HD}{v:V}(h:fh S H x v)(b:bC S H H'):fh S H' x v:=by
  cases x with
  |d x=>exact af.keep b h
  |fz o ps=>obtain⟨a,e,n,q⟩:=h;exact⟨a,e,n,b _ _ n q⟩
  | th c =>
    obtain⟨e,n,q⟩:=h;refine⟨e,λa m=>⟨(n a m).1,?_⟩,c.keep (.of λa o m q=>b a o (m.elim id λm=>(n a m).1) q) q⟩;cases z:H a with
    |none=>exact absurd z (n a m).2
    |some o=>rw[b a o (n a m).1 z];exact gx _
theorem fh.av{S S':ar->Prop}{H:Hp}{x:HD}{v:V}(h:fh S H x v)(b:∀a,S' a->S a):fh S' H x v:=by
 cases x with
 |d x=>exact af.av b h
 |fz o ps=>obtain⟨a,e,n,q⟩:=h;exact⟨a,e,λz=>n (b a z),q⟩
 |th c=>obtain⟨e,n,q⟩:=h;exact⟨e,λa m=>⟨λz=>(n a m).1 (b a z),(n a m).2⟩,c.av b q⟩
theorem fh.fresh{S:ar->Prop}{H:Hp}{x:HD}{v:V}{p:ar}(h:fh S H x v)(hp:H p=none):fh (λa=>S a\/a=p) H x v:=by
 cases x with
 |d x=>exact af.fresh hp h
 |fz o ps=>obtain⟨a,e,n,q⟩:=h;exact⟨a,e,λz=>z.elim n (jW q hp),q⟩
 |th c=>obtain⟨e,n,q⟩:=h;exact⟨e,λa m=>⟨λz=>z.elim (n a m).1 λy=>(n a m).2 (by rw[y];exact hp),(n a m).2⟩,c.fresh hp q⟩
structure Gx where
 B:Bg
 H0:Hp
 A:ar->Prop
 hold:List (Bool×HD×V):=[]
inductive Sl where
 |no|d (f:Bool) (d:PyData)|own (a:ar) (f:Bool) (ds:List PyData)|aq|raw (v:V)|bB (a:ar) (f:Bool) (ks:List (Int×PyData))|cu (c:Cu)
noncomputable def Sl.adr:Sl->List ar
 | .own a _ _=>[a]
 | .bB a _ _=>[a]
 | .cu c=>c.F
 |_=>[]
@[reducible] noncomputable def aH(p:Int×PyData):PyData×PyData:=(.int p.1,p.2)
noncomputable abbrev Rh:=List Sl
def Gx.S(G:Gx)(nb:ar->Prop)(f:Bool):ar->Prop:=λa=>nb a\/G.A a\/¬NB G.B a\/(f=true/\G.H0 a≠none)
def qO(G:Gx)(nb:ar->Prop)(H:Hp)(x:Option V):Sl->Prop
 | .no=>True
 | .d f d=>∃v,x=some v/\af (G.S nb f) H d v
 | .own a f ds=>x=some (.ref a)/\nb a/\NB G.B a/\∃xs,H a=some (.lst xs)/\ah (G.S nb f) H ds xs
 | .aq=>∃b l,G.B=some (b,l)/\x=some (.ref b)
 | .raw v=>x=some v
 | .bB a f ks=>x=some (.ref a)/\nb a/\NB G.B a/\∃ps,H a=some (.dK ps)/\ao (G.S nb f) H (ks.map aH) ps
 | .cu c=>x=some c.v/\(∀a∈c.F,nb a/\NB G.B a)/\c.P (G.S nb c.f) H
structure Wd(G:Gx)(nb:ar->Prop)(ρ:Rh)(σ:qr)(H:Hp):Prop where
 aq:ly G.B H
 live:gZ nb H
 old:∀a o,NB G.B a->G.H0 a=some o->H a=some o
 cJ:∀a,nb a->NB G.B a->G.H0 a=none
 gA:gZ G.A G.H0
 len:σ.length=ρ.length
 gB:ly G.B G.H0
 dw:∀h∈G.hold,fh (G.S nb h.1) H h.2.1 h.2.2
 ok:∀(i:Nat) (s:Sl),ρ[i]?=some s->∃x,σ[i]?=some x/\qO G nb H x s
 apart:∀(i j:Nat) a f as c g cs,i≠j->ρ[i]?=some (.own a f as)->ρ[j]?=some (.own c g cs)->a≠c
 fB:∀(i j:Nat) a f as c g cs,i≠j->ρ[i]?=some (.bB a f as)->ρ[j]?=some (.bB c g cs)->a≠c
 cL:∀(i j:Nat) c s,i≠j->ρ[i]?=some (.cu c)->ρ[j]?=some s->∀a∈c.F,a∉s.adr
def Step(B:Bg)(H H':Hp):Prop:=(∀a o,NB B a->H a=some o->H' a=some o)/\ly B H'
section
variable{G:Gx}{B:Bg}{nb:ar->Prop}{ρ:Rh}{σ:qr}{H H1 H2 H':Hp}{f g:Bool}{d:PyData}{ds:List PyData}{v:V}{xs:List V}{a p:ar}
def Step.refl(h:ly B H):Step B H H:=⟨λ_ _ _ e=>e,h⟩
def Step.trans(x:Step B H H1)(y:Step B H1 H2):Step B H H2:=⟨λa o n e=>y.1 a o n (x.1 a o n e),y.2⟩
theorem ly.same(h:ly B H)(s:dQ H H'):ly B H':=λb l e=>(h b l e).same s
theorem Step.same(h:ly B H)(s:dQ H H'):Step B H H':=⟨λa o _ e=>s a o e,h.same s⟩
def Step.but(s:Step B H H')(h:∀a,¬NB B a->aA a):bC aA H H':=λa o n e=>s.1 a o (jl λz=>n (h a z)) e
def Step.c8(s:Step G.B H H'):bC (G.S nb f) H H':=s.but λa h=> .inr (.inr (.inl h))
def cg(h:g=true->f=true){aA:ar->Prop}(hn:∀a,nb a->aA a):∀a,G.S nb g a->G.S aA f a:=by
 intro a z;rcases z with z|z|z|⟨z,q⟩
 .exact .inl (hn a z)
 .exact .inr (.inl z)
 .exact .inr (.inr (.inl z))
 .exact .inr (.inr (.inr ⟨h z,q⟩))
def NB.mh(h:ly B H)(n:¬NB B a):H a≠none:=by
 intro e;apply n;intro b l hb z;subst z;obtain⟨_,_,_,_,_,h1,_⟩:=h _ _ hb;rw[h1] at e;cases e
def Wd.iG(W:Wd G nb ρ σ H):gZ (G.S nb f) H:=by
 intro a z;rcases z with z|z|z|⟨_,z⟩
 .exact W.live a z
 .by_cases n:NB G.B a
  .cases e:G.H0 a with
   |none=>exact absurd e (W.gA a z)
   |some o=>rw[W.old a o n e];exact gx _
  .exact NB.mh W.aq n
 .exact NB.mh W.aq z
 .by_cases n:NB G.B a
  .cases e:G.H0 a with
   |none=>exact absurd e z
   |some o=>rw[W.old a o n e];exact gx _
  .exact NB.mh W.aq n
def Wd.fresh(W:Wd G nb ρ σ H)(hp:H p=none):¬G.S nb f p:=λz=>W.iG p z hp
def qO.step{x:Option V}{s:Sl}(st:Step G.B H H')(h:qO G nb H x s):qO G nb H' x s:=by
  cases s with
  |no=>trivial
  |d f d=>obtain⟨v,e,h⟩:=h;exact⟨v,e,h.keep st.c8⟩
  |own a f ds=>obtain⟨e,n,q,xs,hx,hd⟩:=h;exact⟨e,n,q,xs,st.1 _ _ q hx,hd.keep st.c8⟩
  |aq=>exact h
  |raw v=>exact h
  |bB a f ks=>obtain⟨e,n,q,xs,hx,hd⟩:=h;exact⟨e,n,q,xs,st.1 _ _ q hx,hd.keep st.c8⟩
  | cu c =>
    obtain⟨e,n,p⟩:=h;refine⟨e,n,c.keep (.of λa o ha e=>st.1 a o ?_ e) p⟩;rcases ha with ha|ha
    · exact jl λz=>ha (.inr (.inr (.inl z)))
    · exact(n a ha).2
def U5(n:NB B a)(st:Step B H H')(h:H a≠none):H' a≠none:=by
 cases e:H a with
 |none=>exact absurd e h
 |some o=>rw[st.1 a o n e];exact gx _
theorem Wd.step(W:Wd G nb ρ σ H)(st:Step G.B H H'):Wd G nb ρ σ H' where
 aq:=st.2
 live:=λa n=>by
  by_cases q:NB G.B a;·exact U5 q st (W.live a n)
  .exact NB.mh st.2 q
 old:=λa o n e=>st.1 a o n (W.old a o n e)
 cJ:=W.cJ
 gA:=W.gA
 len:=W.len
 gB:=W.gB
 dw:=λh m=>(W.dw h m).keep st.c8
 ok:=λi s e=>by
  obtain⟨x,e1,h⟩:=W.ok i s e;exact⟨x,e1,h.step st⟩
 apart:=W.apart
 fB:=W.fB
 cL:=W.cL
theorem Wd.set{i:Nat}{s:Sl}{x:Option V}(W:Wd G nb ρ σ H)(h:qO G nb H x s)(hs:∀a f ds,s= .own a f ds->∀j c g cs,j≠i->ρ[j]?=some (.own c g cs)->a≠c)(hd:∀a f ds,s= .bB a f ds->∀j c g cs,j≠i->ρ[j]?=some (.bB c g cs)->a≠c:=by intro _ _ _ z;cases z)(b:∀a∈s.adr,∀j t,j≠i->ρ[j]?=some t->(∃c,s= .cu c)\/(∃c,t= .cu c)->a∉t.adr:=by intro _ z;cases z):Wd G nb (ρ.set i s) (σ.set i x) H where
 aq:=W.aq
 live:=W.live
 old:=W.old
 cJ:=W.cJ
 gA:=W.gA
 len:=by rw[gR,gR];exact W.len
 gB:=W.gB
 dw:=W.dw
 ok:=λj t e=>by
  by_cases hij:i=j
  .subst hij;have hl:i<ρ.length:=by have:=(bH.mp e).1;rwa[gR] at this
   rw[dB hl] at e;cases e;exact⟨x,dB (by rw[W.len];exact hl),h⟩
  .rw[bQ hij] at e⊢;exact W.ok j t e
 apart:=λj k a f as c g cs l e1 e2=>by
  by_cases O:i=j
  .subst O;have hl:i<ρ.length:=by have:=(bH.mp e1).1;rwa[gR] at this
   rw[dB hl] at e1;cases e1;rw[bQ l] at e2;exact hs a f as rfl k c g cs (cY l) e2
  .by_cases hk:i=k
   .subst hk;have hl:i<ρ.length:=by have:=(bH.mp e2).1;rwa[gR] at this
    rw[dB hl] at e2;cases e2;rw[bQ O] at e1;exact(hs c g cs rfl j a f as l e1).symm
   .rw[bQ O] at e1;rw[bQ hk] at e2;exact W.apart j k a f as c g cs l e1 e2
 fB:=λj k a f as c g cs l e1 e2=>by
  by_cases O:i=j
  .subst O;have hl:i<ρ.length:=by have:=(bH.mp e1).1;rwa[gR] at this
   rw[dB hl] at e1;cases e1;rw[bQ l] at e2;exact hd a f as rfl k c g cs (cY l) e2
  .by_cases hk:i=k
   .subst hk;have hl:i<ρ.length:=by have:=(bH.mp e2).1;rwa[gR] at this
    rw[dB hl] at e2;cases e2;rw[bQ O] at e1;exact(hd c g cs rfl j a f as l e1).symm
   .rw[bQ O] at e1;rw[bQ hk] at e2;exact W.fB j k a f as c g cs l e1 e2
 cL:=λj k c t l e1 e2 a ha=>by
  by_cases O:i=j
  .subst O;have hl:i<ρ.length:=by have:=(bH.mp e1).1;rwa[gR] at this
   rw[dB hl] at e1;cases e1;rw[bQ l] at e2;exact b a ha k t (cY l) e2 (.inl ⟨c,rfl⟩)
  .by_cases hk:i=k
   .subst hk;have hl:i<ρ.length:=by have:=(bH.mp e2).1;rwa[gR] at this
    rw[dB hl] at e2;cases e2;rw[bQ O] at e1;exact λz=>b a z j (.cu c) l e1 (.inr ⟨c,rfl⟩) ha
   .rw[bQ O] at e1;rw[bQ hk] at e2;exact W.cL j k c t l e1 e2 a ha
def Wd.nX(W:Wd G nb ρ σ H)(h:af (G.S nb f) H d v):Wd G nb (ρ.set i (.d f d)) (σ.set i (some v)) H:=W.set ⟨v,rfl,h⟩ λ_ _ _ e=>by cases e
inductive Wk:Rh->Rh->Prop
 |nil:Wk [] []
 |no {s:Sl} {r r':Rh} (h:Wk r r'):Wk (.no::r) (s::r')
 |eq {s:Sl} {r r':Rh} (h:Wk r r'):Wk (s::r) (s::r')
theorem Wk.at:∀{r r':Rh} {i:Nat} {s:Sl},Wk r r'->r[i]?=some s->s= .no/\(∃t,r'[i]?=some t)\/r'[i]?=some s
 |_,_,_,_, .nil,e=>by simp at e
 |_,_,0,_, .no h,e=>by simp at e;subst e;exact .inl ⟨rfl,_,rfl⟩
 |_,_,0,_, .eq h,e=>by simp at e;subst e;exact .inr rfl
 |_,_,i+1,_, .no h,e=>by simpa using Wk.at (i:=i) h (by simpa using e)
 |_,_,i+1,_, .eq h,e=>by simpa using Wk.at (i:=i) h (by simpa using e)
def Wk.len{r r':Rh}(h:Wk r r'):r.length=r'.length:=by
 induction h with
 |nil=>rfl
 |no _ ih=>simp[ih]
 |eq _ ih=>simp[ih]
def Wd.wk{L:Rh}(W:Wd G nb L σ H)(h:Wk ρ L):Wd G nb ρ σ H where
 aq:=W.aq
 live:=W.live
 old:=W.old
 cJ:=W.cJ
 gA:=W.gA
 len:=by rw[h.len];exact W.len
 gB:=W.gB
 dw:=W.dw
 ok:=λi s e=>by
  rcases h.at e with ⟨rfl,t,e'⟩|e'
  .obtain⟨x,e1,_⟩:=W.ok i t e';exact⟨x,e1,trivial⟩
  .exact W.ok i s e'
 apart:=λi j a f as c g cs hij e1 e2=>by
  rcases h.at e1 with ⟨z,_⟩|oA
  .cases z
  rcases h.at e2 with ⟨z,_⟩|e2'
  .cases z
  exact W.apart i j a f as c g cs hij oA e2'
 fB:=λi j a f as c g cs hij e1 e2=>by
  rcases h.at e1 with ⟨z,_⟩|oA
  .cases z
  rcases h.at e2 with ⟨z,_⟩|e2'
  .cases z
  exact W.fB i j a f as c g cs hij oA e2'
 cL:=λi j c s hij e1 e2 a ha=>by
  rcases h.at e1 with ⟨z,_⟩|oA
  .cases z
  rcases h.at e2 with ⟨z,_⟩|e2'
  .subst z;exact λz=>by cases z
  exact W.cL i j c s hij oA e2' a ha
def Wd.more(W:Wd G nb ρ σ H)(hp:H p=none){o:HO}:Wd G (λa=>nb a\/a=p) ρ σ (upd H p o):=by
 have N:dQ H (upd H p o):=dU hp;have hN:NB G.B p:=λb l e z=>by
  subst z;obtain⟨_,_,_,_,_,h1,_⟩:=W.aq _ _ e;rw[h1] at hp;cases hp
 have W':=W.step (Step.same W.aq N);have hA:∀f a,G.S (λa=>nb a\/a=p) f a->(G.S nb f a\/a=p):=λf a z=>by
  rcases z with (z|z)|z|z|z
  .exact .inl (.inl z)
  .exact .inr z
  .exact .inl (.inr (.inl z))
  .exact .inl (.inr (.inr (.inl z)))
  .exact .inl (.inr (.inr (.inr z)))
 refine⟨W'.aq,λa n=>?_,W'.old,λa n q=>?_,W.gA,W.len,W.gB,λh m=>(((W.dw h m).fresh hp).av (hA h.1)).keep (bC.of N),λi s e=>?_,W.apart,W.fB,W.cL⟩
 .rcases n with n|n
  .exact W'.live a n
  .subst n;rw[aV];exact gx _
 .rcases n with n|n
  .exact W.cJ a n q
  .subst n;cases e:G.H0 a with
   |none=>rfl
   |some o=>rw[W.old a o q e] at hp;cases hp
 .obtain⟨x,e1,h⟩:=W.ok i s e;refine⟨x,e1,?_⟩;cases s with
  |no=>trivial
  |d f d=>obtain⟨v,e,h⟩:=h;exact⟨v,e,((h.fresh hp).av (hA f)).keep (bC.of N)⟩
  |own a f ds=>obtain⟨e,n,q,xs,hx,hd⟩:=h;exact⟨e, .inl n,q,xs,N _ _ hx,((hd.fresh hp).av (hA f)).keep (bC.of N)⟩
  |aq=>exact h
  |raw v=>exact h
  |bB a f ds=>obtain⟨e,n,q,xs,hx,hd⟩:=h;exact⟨e, .inl n,q,xs,N _ _ hx,((hd.fresh hp).av (hA f)).keep (bC.of N)⟩
  |cu c=>obtain⟨e,n,q⟩:=h;exact⟨e,λa ha=>⟨.inl (n a ha).1,(n a ha).2⟩,c.keep (.of λa o _ e=>N a o e) (c.av (hA c.f) (c.fresh hp q))⟩
def Wd.write(W:Wd G nb ρ σ H){o:HO}(hp:nb p)(hN:NB G.B p)(U:∀(i:Nat) a f ds,ρ[i]?=some (.own a f ds)->a≠p)(j:∀(i:Nat) a f ds,ρ[i]?=some (.bB a f ds)->a≠p)(C:∀(i:Nat) c,ρ[i]?=some (.cu c)->p∉c.F):Wd G nb ρ σ (upd H p o):=by
  have hl:∀b l,G.B=some (b,l)->p≠l:=λb l e z=>by
    obtain⟨_,_,_,_,_,_,h2,_⟩:=W.gB b l e;rw[<-z,W.cJ p hp hN] at h2;cases h2
  have Z:ly G.B (upd H p o):=λb l e=>(W.aq b l e).put2 ⟨hN b l e,hl b l e⟩;have bt:∀f,bC (G.S nb f) H (upd H p o):=λf=>bC.set (.inl hp);refine⟨Z,λa n=>?_,λa o' n e=>?_,W.cJ,W.gA,W.len,W.gB,λh m=>(W.dw h m).keep (bt h.1),λi s e=>?_,W.apart,W.fB,W.cL⟩
  · by_cases z:a=p
    · subst z;rw[aV];exact gx _
    · rw[aG z];exact W.live a n
  · have z:a≠p:=λz=>by subst z;rw[W.cJ a hp n] at e;cases e
    rw[aG z];exact W.old a o' n e
  · obtain⟨x,e1,h⟩:=W.ok i s e
    refine⟨x,e1,?_⟩;cases s with
    |no=>trivial
    |d f d=>obtain⟨v,e,h⟩:=h;exact⟨v,e,h.keep (bt f)⟩
    |own a f ds=>obtain⟨e',n,q,xs,hx,hd⟩:=h;exact⟨e',n,q,xs,by rw[aG (U i a f ds e)];exact hx,hd.keep (bt f)⟩
    |aq=>exact h
    |raw v=>exact h
    |bB a f ds=>obtain⟨e',n,q,xs,hx,hd⟩:=h;exact⟨e',n,q,xs,by rw[aG (j i a f ds e)];exact hx,hd.keep (bt f)⟩
    | cu c =>
      obtain⟨e',n,q⟩:=h;refine⟨e',n,c.keep (.of λa o' ha g=>?_) q⟩;rw[aG];· exact g
      · rintro rfl
        rcases ha with ha|ha
        · exact ha (.inl hp)
        · exact C i c e ha
end
abbrev Pd:=Bool->PyData->Prop
def Ev(G:Gx)(ρ:Rh)(te:TE)(Φ:Pd):Prop:=∀nb σ H (Q:VK),Wd G nb ρ σ H->(∀f v H' d,Φ f d->Step G.B H H'->af (G.S nb f) H' d v->Q v H')->te σ H Q
def aD(G:Gx)(ρ:Rh)(te:TE)(Φ:Bool->List PyData->Prop):Prop:=∀nb σ H (Q:VK),Wd G nb ρ σ H->
 (∀f a xs H' ds,Φ f ds->Step G.B H H'->H a=none->H' a=some (.lst xs)->ah (λx=>G.S nb f x\/x=a) H' ds xs->Q (.ref a) H')->te σ H Q
def Tv(G:Gx)(ρ:Rh)(a:TT)(Φ:Bool->Prop):Prop:=∀nb σ H (Q:Bool->Hp->Prop),Wd G nb ρ σ H->(∀b H',Φ b->Step G.B H H'->Q b H')->a σ H Q
def Ov(G:Gx)(ρ:Rh)(to:TO)(Φ:Option Int->Prop):Prop:=∀nb σ H (Q:Option Int->Hp->Prop),Wd G nb ρ σ H->(∀o H',Φ o->Step G.B H H'->Q o H')->to σ H Q
noncomputable abbrev Fd:=Bool×PyData
def l8(G:Gx)(nb:ar->Prop)(H:Hp):List Fd->List V->Prop
 |[],vs=>vs=[]
 |e::es,vs=>∃v ws,vs=v::ws/\af (G.S nb e.1) H e.2 v/\l8 G nb H es ws
def Av(G:Gx)(ρ:Rh)(ta:TA)(Φ:List Fd->Prop):Prop:=∀nb σ H (Q:List V->Hp->Prop),Wd G nb ρ σ H->(∀es vs H',Φ es->Step G.B H H'->l8 G nb H' es vs->Q vs H')->ta σ H Q
def Gv(G:Gx)(ρ:Rh)(g:TG)(f:Bool)(d:PyData)(Φ:Rh->Prop):Prop:=∀nb σ H v (Q:qr->Hp->Prop),Wd G nb ρ σ H->af (G.S nb f) H d v->(∀M L,Φ L->Wd G nb L M H->Q M H)->g v σ H Q
def pB(G:Gx)(ρ:Rh)(g:kE)(f:Bool)(ds:List PyData)(Φ:Rh->Prop):Prop:=∀nb σ H vs (Q:qr->Hp->Prop),Wd G nb ρ σ H->ah (G.S nb f) H ds vs->(∀M L,Φ L->Wd G nb L M H->Q M H)->g vs σ H Q
structure DE where
 nx:Rh->Prop
 rt:Pd
 bk:Rh->Prop:=λ_=>False
 ct:Rh->Prop:=λ_=>False
 rw:(ar->Prop)->Rh->V->Hp->Prop:=λ_ _ _ _=>False
structure yt(G:Gx)(E:DE)(D:Ends):Prop where
 nx:∀nb ρ σ H,E.nx ρ->Wd G nb ρ σ H->D.nx σ H
 bk:∀nb ρ σ H,E.bk ρ->Wd G nb ρ σ H->D.bk σ H
 ct:∀nb ρ σ H,E.ct ρ->Wd G nb ρ σ H->D.ct σ H
 rt:∀nb ρ σ f v H d,E.rt f d->Wd G nb ρ σ H->af (G.S (λ_=>False) f) H d v->D.rt v H
 rw:∀nb ρ σ v H,E.rw nb ρ v H->Wd G nb ρ σ H->D.rt v H
def Sv(G:Gx)(ρ:Rh)(ts:TS)(E:DE):Prop:=∀nb σ H D,Wd G nb ρ σ H->yt G E D->ts D σ H
noncomputable def gE:PyData->Bool
 | .none=>true| .bool _=>true| .int _=>true| .str _=>true|_=>false
noncomputable def toV:PyData->V
 | .bool b=> .bl b| .int i=> .int i| .str x=> .str x|_=> .aN
section
variable{nb aA:ar->Prop}{H H':Hp}{d e:PyData}{v:V}
def af.sc(h:gE d=true):af nb H d (toV d):=by
 cases d<;>first|(cases h;done)|(unfold af;rfl)
def af.ZD(h:gE d=true)(q:af nb H d v):v=toV d:=by
 cases d<;>first|(cases h;done)|(unfold af at q;exact q)
def af.kg(h:gE d=true)(q:af nb H d v):af aA H' d v:=by
 rw[q.ZD h];exact .sc h
theorem ah.kg:∀{ds:List PyData} {xs:List V},ds.all gE=true->ah nb H ds xs->ah aA H' ds xs
  |[],_,_,q=>by unfold ah at q⊢;exact q
  | d :: ds, _, h, q => by
    rw[qE,fF] at h;unfold ah at q⊢;obtain⟨y,ys,e,h1,h2⟩:=q;exact⟨y,ys,e,h1.kg h.1,ah.kg h.2 h2⟩
end
section
variable{G:Gx}{ρ:Rh}{Φ Ψ:Pd}{ta tb te:TE}{t:TA}{i:Nat}{f g:Bool}{d e:PyData}{ds es:List PyData}{K:PySem.W.Frag}
def Ev.mono(h:Ev G ρ te Ψ)(q:∀f d,Ψ f d->Φ f d):Ev G ρ te Φ:=λnb σ H Q W z=>h nb σ H Q W λf v H' d p=>z f v H' d (q f d p)
def aD.ev(h:aD G ρ te λf ds=>Φ f (.list ds)):Ev G ρ te Φ:=λnb σ H Q W z=>h nb σ H Q W λf a xs H' ds p st n e hd=>
 z f _ H' _ p st (.lst (W.fresh n) e (hd.av λ_ x=> .inl x))
namespace Ev
def var(e:ρ[i]?=some (.d f d))(h:Φ f d):Ev G ρ (br i) Φ:=λnb σ H Q W z=>by
 obtain⟨x,e1,v,rfl,hd⟩:=W.ok i _ e;exact⟨v,e1,z f v H d h (.refl W.aq) hd⟩
theorem int{n:Int}(h:Φ true (.int n)):Ev G ρ (tC (.int n)) Φ:=λnb σ H Q W z=>z true _ H _ h (.refl W.aq) (.int n)
theorem bl{b:Bool}(h:Φ true (.bool b)):Ev G ρ (tC (.bl b)) Φ:=λnb σ H Q W z=>z true _ H _ h (.refl W.aq) (.bl b)
theorem aN(h:Φ true .none):Ev G ρ (tC .aN) Φ:=λnb σ H Q W z=>z true _ H _ h (.refl W.aq) .aN
def lX{r:R2}(h:Ev G ρ ta λf x=>Ev G ρ tb λg y=>∀nb σ H u v (Q:VK),Wd G nb ρ σ H->af (G.S nb f) H x u->af (G.S nb g) H y v->(∀f w H' d,Φ f d->Step G.B H H'->af (G.S nb f) H' d w->Q w H')->r u v H Q):Ev G ρ (er r ta tb) Φ:=λnb σ H Q W z=>
 h nb σ H _ W λf v1 H1 d1 k s1 J=>k nb σ H1 _ (W.step s1) λg U H2 X p2 s2 M=>p2 nb σ H2 _ _ _ ((W.step s1).step s2) (J.keep s2.c8) M λf w H' d p st q=>z f w H' d p (s1.trans (s2.trans st)) q
theorem rI{C:Int->Int->Prop}{k:Int->Int->Int}(h:Ev G ρ ta λ_ x=>∃i,x= .int i/\Ev G ρ tb λ_ y=>∃j,y= .int j/\C i j/\Φ true (.int (k i j))):Ev G ρ (er (L2.rI C λi j=> .int (k i j)) ta tb) Φ:=
 lX (h.mono λf x ⟨i,ex,q⟩=>q.mono λg y ⟨j,r,hc,p⟩ nb σ H u v Q W Y hv z=>by
  subst ex r;exact⟨i,j,Y.bT,hv.bT,hc,z true _ H _ p (.refl W.aq) (.int _)⟩)
theorem jk{k:Int->Int->Int}(h:Ev G ρ ta λ_ x=>∃i,x= .int i/\Ev G ρ tb λ_ y=>∃j,y= .int j/\Φ true (.int (k i j))):Ev G ρ (er (L2.jk λi j=> .int (k i j)) ta tb) Φ:=
 lX (h.mono λf x ⟨i,ex,q⟩=>q.mono λg y ⟨j,r,p⟩ nb σ H u v Q W Y hv z=>by
  subst ex r;exact⟨i,j,Y.bT,hv.bT,z true _ H _ p (.refl W.aq) (.int _)⟩)
def Xb{k:Int->Int->Bool}(h:Ev G ρ ta λ_ x=>∃i,x= .int i/\Ev G ρ tb λ_ y=>∃j,y= .int j/\Φ true (.bool (k i j))):Ev G ρ (er (L2.jk λi j=> .bl (k i j)) ta tb) Φ:=
 lX (h.mono λf x ⟨i,ex,q⟩=>q.mono λg y ⟨j,r,p⟩ nb σ H u v Q W Y hv z=>by
  subst ex r;exact⟨i,j,Y.bT,hv.bT,z true _ H _ p (.refl W.aq) (.bl _)⟩)
def un{r:V->Hp->VK->Prop}(h:Ev G ρ ta λf x=>∀nb σ H u (Q:VK),Wd G nb ρ σ H->af (G.S nb f) H x u->(∀f w H' d,Φ f d->Step G.B H H'->af (G.S nb f) H' d w->Q w H')->r u H Q):Ev G ρ (Fg r ta) Φ:=λnb σ H Q W z=>
 h nb σ H _ W λf v1 H1 d1 k s1 J=>k nb σ H1 _ _ (W.step s1) J λf w H' d p st q=>z f w H' d p (s1.trans st) q
theorem rU{k:Int->Int}(h:Ev G ρ ta λ_ x=>∃i,x= .int i/\Φ true (.int (k i))):Ev G ρ (Fg (L2.rU λi=> .int (k i)) ta) Φ:=
 un (h.mono λf x ⟨i,ex,p⟩ nb σ H u Q W Y z=>by subst ex;exact⟨i,Y.bT,z true _ H _ p (.refl W.aq) (.int _)⟩)
end Ev
inductive jS:PyData->PyData->Bool->Prop
 |ii (i j:Int):jS (.int i) (.int j) (decide (i=j))
 |ni (i:Int):jS .none (.int i) false
 |i_n (i:Int):jS (.int i) .none false
 |nn:jS .none .none true
 |bb (a b:Bool):jS (.bool a) (.bool b) (a==b)
 |ss (x:Str):jS (.str x) (.str x) true
 |sd (x y:Str):jS (.str x) (.str y) (decide (x=y))
theorem jS.v{nb aA:ar->Prop}{H:Hp}{x y:PyData}{b:Bool}{u v:V}(h:jS x y b)(Y:af nb H x u)(hv:af aA H y v):G4 u v=true/\decide (u=v)=b:=by
 cases h<;>(unfold af at Y hv;subst Y hv;refine⟨rfl,?_⟩);·exact R.HA
 .rfl
 .rfl
 .rfl
 .rename_i a b;cases a<;>cases b<;>rfl
 .exact decide_eq_true rfl
 .rename_i x y
  by_cases c:x=y;·subst c;rw[decide_eq_true rfl,decide_eq_true rfl]
  .rw[decide_eq_false c,decide_eq_false (λz=>c (V.str.inj z))]
def jS.self{d:PyData}(h:gE d=true):jS d d true:=by
 cases d<;>first|(cases h;done)|skip
 .exact .nn
 .rename_i b;have:=jS.bb b b;rwa[beq_self_eq_true] at this
 .rename_i i;have:=jS.ii i i;rwa[decide_eq_true rfl] at this
 .exact .ss _
namespace Ev
def eq(h:Ev G ρ ta λ_ x=>Ev G ρ tb λ_ y=>∃b,jS x y b/\Φ true (.bool b)):Ev G ρ (er Gg ta tb) Φ:=
 lX (h.mono λf x q=>q.mono λg y ⟨b,e,p⟩ nb σ H u v Q W Y hv z=>by
  obtain⟨h1,h2⟩:=e.v Y hv;exact⟨h1,by rw[h2];exact z true _ H _ p (.refl W.aq) (.bl _)⟩)
def ne(h:Ev G ρ ta λ_ x=>Ev G ρ tb λ_ y=>∃b,jS x y b/\Φ true (.bool !b)):Ev G ρ (er G6 ta tb) Φ:=
 lX (h.mono λf x q=>q.mono λg y ⟨b,e,p⟩ nb σ H u v Q W Y hv z=>by
  obtain⟨h1,h2⟩:=e.v Y hv;exact⟨h1,by rw[h2];exact z true _ H _ p (.refl W.aq) (.bl _)⟩)
def eqD(h:Ev G ρ ta λ_ x=>Ev G ρ tb λ_ y=>cn x=true/\cn y=true/\Φ true (.bool (e6 x y !=b))):Ev G ρ (er (KH b) ta tb) Φ:=
 lX (h.mono λf x q=>q.mono λg y ⟨h1,h2,p⟩ nb σ H u v Q W Y hv z=>
  ⟨G.S nb false,x,y,Y.av (cg (λz=>by cases z) λ_ z=>z),hv.av (cg (λz=>by cases z) λ_ z=>z),h1,h2,z true _ H _ p (.refl W.aq) (.bl _)⟩)
end Ev
noncomputable def ue:PyData->Bool
 | .none=>true
 |_=>false
def Qx{d:PyData}{v:V}(h:af nb H d v):decide (v= .aN)=ue d:=by
 cases d<;>unfold af at h
 all_goals first
  |(subst h;rfl)
  |(obtain⟨a,xs,rfl,_⟩:=h;rfl)
  |exact h.elim
namespace Ev
def is(h:Ev G ρ ta λ_ x=>Φ true (.bool (ue x))):Ev G ρ (er Sd ta (tC .aN)) Φ:=
 lX (h.mono λf x p=>Ev.aN λnb σ H u v Q W Y hv z=>⟨hv.CA,by rw[Qx Y];exact z true _ H _ p (.refl W.aq) (.bl _)⟩)
def adp(h:Ev G ρ ta λ_ x=>Φ true (.bool !ue x)):Ev G ρ (er Bq ta (tC .aN)) Φ:=
 lX (h.mono λf x p=>Ev.aN λnb σ H u v Q W Y hv z=>⟨hv.CA,by rw[Qx Y];exact z true _ H _ p (.refl W.aq) (.bl _)⟩)
end Ev
theorem ah.cI{nb:ar->Prop}{H:Hp}{ds:List PyData}{xs:List V}{k:Int}{e:PyData}(h:ah nb H ds xs)(q:L2.cI ds k=some e):∃v,L2.cI xs k=some v/\af nb H e v:=by
 unfold L2.cI at q⊢;rw[h.length];cases z:ji ds.length k with
 |none=>rw[z] at q;cases q
 |some j=>rw[z] at q;exact h.get q
namespace Ev
def zr(h:Ev G ρ ta λf x=>∃ds,x= .list ds/\Ev G ρ tb λ_ y=>∃k,y= .int k/\∃e,cI ds k=some e/\Φ f e):Ev G ρ (er (c6 K) ta tb) Φ:=
 lX (h.mono λf x ⟨ds,ex,q⟩=>q.mono λg y ⟨k,r,e,he,p⟩ nb σ H u v Q W Y hv z=>by
  subst ex r;obtain⟨a,xs,rfl,n,hx,hd⟩:=Y.ig;obtain⟨w,hw,O⟩:=hd.cI he;exact⟨a,xs,k,w,rfl,hv.bT, .of hx,hw,z f _ H _ p (.refl W.aq) O⟩)
def nV(h:Ev G ρ ta λf x=>∃ds,x= .tuple ds/\Ev G ρ tb λ_ y=>∃k,y= .int k/\∃e,cI ds k=some e/\Φ f e):Ev G ρ (er (dR K) ta tb) Φ:=
 lX (h.mono λf x ⟨ds,ex,q⟩=>q.mono λg y ⟨k,r,e,he,p⟩ nb σ H u v Q W Y hv z=>by
  subst ex r;obtain⟨a,xs,rfl,n,hx,hd⟩:=Y.ofT;obtain⟨w,hw,O⟩:=hd.cI he;exact⟨a,xs,k,w,rfl,hv.bT, .of hx,hw,z f _ H _ p (.refl W.aq) O⟩)
def YF(e:ρ[i]?=some (.own a f ds))(h:Ev G ρ tb λ_ y=>∃k,y= .int k/\∃e,cI ds k=some e/\Φ f e):Ev G ρ (er (c6 K) (br i) tb) Φ:=λnb σ H Q W z=>by
 obtain⟨x,e1,h1,h2,h3,xs,hx,hd⟩:=W.ok i _ e;subst h1;refine⟨.ref a,e1,h nb σ H _ W λg w H1 y ⟨k,r,e',he,p⟩ s1 hv=>?_⟩;subst r;obtain⟨u,Y,O⟩:=(hd.keep s1.c8).cI he;exact⟨a,xs,k,u,rfl,hv.bT, .of (s1.1 _ _ h3 hx),Y,z f _ H1 _ p s1 O⟩
def JA(h:Ev G ρ ta λ_ x=>∃b,x= .bool b/\if b=true then Ev G ρ tb Φ else Φ true (.bool false)):Ev G ρ (Fq ta tb) Φ:=λnb σ H Q W z=>
 h nb σ H _ W λf v H1 d ⟨b,e,q⟩ s1 hv=>by
  subst e;refine⟨b,by unfold af at hv;exact hv,?_⟩;cases b with
  |true=>rw[if_pos rfl] at q⊢;exact q nb σ H1 _ (W.step s1) λf v H' d p st=>z f v H' d p (s1.trans st)
  |false=>rw[if_neg eB] at q⊢;exact z true _ H1 _ q s1 (.bl false)
def x6{c:TT}(h:Tv G ρ c λb=>if b=true then Ev G ρ ta Φ else Ev G ρ tb Φ):Ev G ρ (Q4 c ta tb) Φ:=λnb σ H Q W z=>
 h nb σ H _ W λb H1 q s1=>by
  cases b with
  |true=>rw[if_pos rfl] at q⊢;exact q nb σ H1 _ (W.step s1) λf v H' d p st=>z f v H' d p (s1.trans st)
  |false=>rw[if_neg eB] at q⊢;exact q nb σ H1 _ (W.step s1) λf v H' d p st=>z f v H' d p (s1.trans st)
end Ev
namespace Tv
variable{Θ:Bool->Prop}{t u:TT}
def test(h:Ev G ρ te λ_ x=>∃b,x= .bool b/\Θ b):Tv G ρ (IV te) Θ:=λnb σ H Q W z=>
 h nb σ H _ W λf v H1 d ⟨b,e,q⟩ s1 hv=>by subst e;exact⟨b,by unfold af at hv;exact hv,z b H1 q s1⟩
def and(h:Tv G ρ t λb=>if b=true then Tv G ρ u Θ else Θ false):Tv G ρ (Jz t u) Θ:=λnb σ H Q W z=>
 h nb σ H _ W λb H1 q s1=>by
  cases b with
  |true=>rw[if_pos rfl] at q⊢;exact q nb σ H1 _ (W.step s1) λb H' p st=>z b H' p (s1.trans st)
  |false=>rw[if_neg eB] at q⊢;exact z false H1 q s1
def or(h:Tv G ρ t λb=>if b=true then Θ true else Tv G ρ u Θ):Tv G ρ (QN t u) Θ:=λnb σ H Q W z=>
 h nb σ H _ W λb H1 q s1=>by
  cases b with
  |false=>rw[if_neg eB] at q⊢;exact q nb σ H1 _ (W.step s1) λb H' p st=>z b H' p (s1.trans st)
  |true=>rw[if_pos rfl] at q⊢;exact z true H1 q s1
def not(h:Tv G ρ t λb=>Θ (!b)):Tv G ρ (Ec t) Θ:=λnb σ H Q W z=>h nb σ H _ W λb H1 q s1=>z _ H1 q s1
def vp(h:Θ true):Tv G ρ pD Θ:=λnb σ H Q W z=>z true H h (.refl W.aq)
end Tv
def GL(K:PySem.W.Frag)(ta:TE):TT:=λσ H Q=>ta σ H λx H1=>∃k,Jv K x H1 k/\Q k H1
def Tv.rR{Θ:Bool->Prop}(h:Ev G ρ te λ_ x=>∃b,x= .bool b/\Θ b):Tv G ρ (GL K te) Θ:=λnb σ H Q W z=>
 h nb σ H _ W λf v H1 d ⟨b,e,q⟩ s1 hv=>by subst e;exact⟨b,by unfold af at hv;subst hv;rfl,z b H1 q s1⟩
namespace Av
variable{Θ:List Fd->Prop}
def nil(h:Θ []):Av G ρ bK Θ:=λnb σ H Q W z=>z [] [] H h (.refl W.aq) rfl
def cons(h:Ev G ρ te λf d=>Av G ρ t λes=>Θ ((f,d)::es)):Av G ρ (aU te t) Θ:=λnb σ H Q W z=>
 h nb σ H _ W λf v H1 d k s1 J=>k nb σ H1 _ (W.step s1) λes vs H2 p2 s2 M=>z _ _ H2 p2 (s1.trans s2) ⟨v,vs,rfl,J.keep s2.c8,M⟩
def Yx{is:List Int}(h:Θ (is.map λi=>(true, .int i))):Av G ρ (zy is) Θ:=λnb σ H Q W z=>z _ _ H h (.refl W.aq) (by
 clear h;induction is with
 |nil=>rfl
 |cons i r ih=>exact⟨_,_,rfl, .int i,ih⟩)
end Av
noncomputable def kG(es:List Fd):Bool:=es.all (·.1)
theorem l8.all{nb:ar->Prop}{H:Hp}:∀{es:List Fd} {vs:List V} {f:Bool},l8 G nb H es vs->(f=true->kG es=true)->ah (G.S nb f) H (es.map (·.2)) vs
  |[],_,_,h,_=>by unfold l8 at h;subst h;exact .nil
  | e :: es, _, f, h, hf => by
    obtain⟨v,ws,rfl,h1,h2⟩:=h;refine .cons (h1.av (cg (λz=>?_) λ_ z=>z)) (h2.all λz=>?_);· have:=hf z;simp only[kG,qE,fF] at this;exact this.1
    · have:=hf z;simp only[kG,qE,fF] at this;exact this.2
def l8.len{es:List Fd}(h:l8 G nb H es vs):vs.length=es.length:=by
 have:=(h.all (f:=false) (λz=>by cases z)).length;simpa using this
def aD.lst{Φ:Bool->List PyData->Prop}(h:Av G ρ t λes=>es.length<=10000/\Φ (kG es) (es.map (·.2))):aD G ρ (oX t) Φ:=λnb σ H Q W z=>
  h nb σ H _ W λes vs H1 ⟨hl,p⟩ s1 J=>⟨cU (by rw[J.len];exact hl) ⋯,λa ha=>by
    have W1:=W.step s1;refine z _ a vs _ _ p (s1.trans (.same W1.aq (dU ha))) ?_ aV (((J.all λz=>z).fresh ha).keep (bC.of (dU ha)));cases e:H a with
    |none=>rfl
    | some o =>
      by_cases n:NB G.B a;· rw[s1.1 a o n e] at ha;cases ha
      · exact absurd ha (NB.mh s1.2 n)⟩
theorem Ev.lst(h:Av G ρ t λes=>es.length<=10000/\Φ (kG es) (.list (es.map (·.2)))):Ev G ρ (oX t) Φ:=(aD.lst (Φ:=λf ds=>Φ f (.list ds)) h).ev
end
def fT(K:PySem.W.Frag):List V->Hp->VK->Prop:=λxs H Q=>∃p ys,xs=[.ref p]/\(bL K H p ys\/i7 K H p ys)/\Q (.int ys.length) H
def gP:iK X (.builtin "len") (fT X.K):=Ll
def RA:List V->Hp->VK->Prop:=λxs H Q=>∃i j,xs=[.int i, .int j]/\Q (.int (if j<i then j else i)) H
def Q6:List V->Hp->VK->Prop:=λxs H Q=>(∃i,xs=[.int i]/\Q (.int i) H)\/∃k,xs=[.bl k]/\Q (.int (if k then 1 else 0)) H
def zi(hc:X.calm=true):iK X (.builtin "min") RA:=Rk hc
def XY:iK X (.type "int") Q6:=Hx
noncomputable def nv(xs:List α)(lo hi:Option Int):List α:=(xs.drop (HT.gU xs.length 0 lo)).take (HT.gU xs.length xs.length hi-HT.gU xs.length 0 lo)
def ah.cut{lo hi:Option Int}(h:ah nb H ds xs):ah nb H (nv ds lo hi) (nT xs lo hi):=by
 unfold nv nT;rw[h.length];exact(h.drop _).take _
noncomputable def fE(ds:List PyData):Bool:=ds.all gE
section
variable{G:Gx}{ρ:Rh}{Φ Ψ:Pd}{ta tb te:TE}{t:TA}{i:Nat}{f g:Bool}{d e:PyData}{ds es:List PyData}{K:PySem.W.Frag}
def Wd.none_of(W:Wd G nb ρ σ H)(s1:Step G.B H H1)(ha:H1 a=none):H a=none:=by
  cases e:H a with
  |none=>rfl
  | some o =>
    by_cases n:NB G.B a;· rw[s1.1 a o n e] at ha;cases ha
    · exact absurd ha (NB.mh s1.2 n)
def aD.fin{Q:VK}{Φ:Bool->List PyData->Prop}(W:Wd G nb ρ σ H)(s1:Step G.B H H1)(ha:H1 a=none)(hd:ah (G.S nb f) H1 ds xs)(p:Φ (f||fE ds) ds)
  (z:∀f a xs H' ds,Φ f ds->Step G.B H H'->H a=none->H' a=some (.lst xs)->ah (λx=>G.S nb f x\/x=a) H' ds xs->Q (.ref a) H'):Q (.ref a) (upd H1 a (.lst xs)):=by
 refine z _ a xs _ ds p (s1.trans (.same s1.2 (dU ha))) (W.none_of s1 ha) aV ?_;cases hs:fE ds with
 |true=>exact ah.kg hs hd
 |false=>rw[qh];exact(hd.fresh ha).keep (bC.of (dU ha))
namespace Ov
variable{Θ:Option Int->Prop}
theorem none(h:Θ none):Ov G ρ GN Θ:=λnb σ H Q W z=>z _ H h (.refl W.aq)
theorem some(h:Ev G ρ te λ_ x=>∃k,x= .int k/\Θ (some k)):Ov G ρ (ER te) Θ:=λnb σ H Q W z=>
 h nb σ H _ W λf v H1 d ⟨k,e,q⟩ s1 hv=>by subst e;exact⟨k,hv.bT,z _ H1 q s1⟩
end Ov
namespace aD
variable{Θ:Bool->List PyData->Prop}
def sl{tl th:TO}(h:Ev G ρ te λf x=>∃ds,x= .list ds/\Ov G ρ tl λlo=>Ov G ρ th λhi=>Θ (f||fE (nv ds lo hi)) (nv ds lo hi)):aD G ρ (xU (pV K) te tl th) Θ:=λnb σ H Q W z=>
 h nb σ H _ W λf v H1 d ⟨ds,e,q⟩ s1 hv=>q nb σ H1 _ (W.step s1) λlo H2 M s2=>M nb σ H2 _ ((W.step s1).step s2) λhi H3 P Z=>by
  subst e;obtain⟨a,xs,rfl,n,hx,hd⟩:=((hv.keep s2.c8).keep Z.c8).ig;exact⟨a,xs,rfl, .of hx,λp hp=>aD.fin W (s1.trans (s2.trans Z)) hp hd.cut P z⟩
def listOf(h:Ev G ρ te λf x=>∃ds,(x= .list ds\/x= .tuple ds)/\Θ (f||fE ds) ds):aD G ρ (gk (jQ K) (aU te bK)) Θ:=λnb σ H Q W z=>
 h nb σ H _ W λf v H1 d ⟨ds,e,q⟩ s1 hv=>by
  rcases e with e|e
  .subst e;obtain⟨a,xs,rfl,n,hx,hd⟩:=hv.ig;exact⟨a,xs,rfl, .inl (.of hx),λp hp=>aD.fin W s1 hp hd q z⟩
  .subst e;obtain⟨a,xs,rfl,n,hx,hd⟩:=hv.ofT;exact⟨a,xs,rfl, .inr (.of hx),λp hp=>aD.fin W s1 hp hd q z⟩
def C1(e:ρ[i]?=some (.own a f ds))(h:Θ (f||fE ds) ds):aD G ρ (gk (jQ K) (aU (br i) bK)) Θ:=λnb σ H Q W z=>by
 obtain⟨x,e1,h1,h2,h3,xs,hx,hd⟩:=W.ok i _ e;subst h1;exact⟨.ref a,e1,a,xs,rfl, .inl (.of hx),λp hp=>aD.fin W (.refl W.aq) hp hd h z⟩
def cat(h:Ev G ρ ta λf x=>∃ds,x= .list ds/\Ev G ρ tb λg y=>∃es,y= .list es/\ds.length+es.length<=10000/\Θ ((f && g)||fE (ds++es)) (ds++es)):aD G ρ (er IZ ta tb) Θ:=λnb σ H Q W z=>
 h nb σ H _ W λf v H1 d ⟨ds,e,q⟩ s1 hv=>q nb σ H1 _ (W.step s1) λg u H2 X ⟨es,e2,hl,p⟩ s2 Y=>by
  subst e e2;obtain⟨a,xs,rfl,n,hx,hd⟩:=(hv.keep s2.c8).ig;obtain⟨c,ys,rfl,m,hy,hc⟩:=Y.ig;refine⟨a,c,xs,ys,rfl,rfl,hx,hy,cU (by rw[hd.length,hc.length];exact hl) ⋯,λj hp=>aD.fin (f:=f && g) W (s1.trans s2) hp ?_ p z⟩;exact ah.append (hd.av (cg (λz=>(fF _ _▸z).1) λ_ z=>z)) (hc.av (cg (λz=>(fF _ _▸z).2) λ_ z=>z))
theorem rep{d:PyData}(h:Ev G ρ te λf x=>x=d/\gE d=true/\Ev G ρ tb λ_ y=>∃k,y= .int k/\k<=10000/\ -(10000)<=k/\Θ true (au k.toNat d)):aD G ρ (er KO (oX (aU te bK)) tb) Θ:=λnb σ H Q W z=>
 h nb σ H _ W λf v H1 d' ⟨e,hs,q⟩ s1 hv=>by
  subst e;refine⟨by show 1<=sizeLine;decide,λp hp=>?_⟩;have W1:=W.step s1;have s2:Step G.B H1 (upd H1 p (.lst [v])):= .same W1.aq (dU hp);refine q nb σ _ _ (W1.step s2) λg u H2 X ⟨k,e2,h1,h2,p2⟩ Z Y=>?_;subst e2;have hN:NB G.B p:=λb l e z=>by
   subst z;exact NB.mh (B:=G.B) (a:=p) s1.2 (λz=>z _ _ e rfl) hp
  refine⟨p,k,[v],rfl,Y.bT,Z.1 _ _ hN aV,∅,∅,?_,λa ha=>?_⟩
  .show 1*k.toNat<=sizeLine;exact cU (show 1*k.toNat<=10000 by omega) ⋯
  .have hd:ah (G.S nb true) H2 (au k.toNat d') (au k.toNat [v]).flatten:=by
    induction k.toNat with
    |zero=>exact .nil
    |succ m ih=>rw[ou,ou,sR];exact .cons (hv.kg hs) ih
   exact aD.fin (f:=true) W (s1.trans (s2.trans Z)) ha hd p2 z
end aD
namespace Ev
theorem sl{tl th:TO}(h:Ev G ρ te λf x=>∃ds,x= .list ds/\Ov G ρ tl λlo=>Ov G ρ th λhi=>Φ (f||fE (nv ds lo hi)) (.list (nv ds lo hi))):Ev G ρ (xU (pV K) te tl th) Φ:=(aD.sl (Θ:=λf ds=>Φ f (.list ds)) h).ev
theorem listOf(h:Ev G ρ te λf x=>∃ds,(x= .list ds\/x= .tuple ds)/\Φ (f||fE ds) (.list ds)):Ev G ρ (gk (jQ K) (aU te bK)) Φ:=(aD.listOf (Θ:=λf ds=>Φ f (.list ds)) h).ev
theorem C1{a:ar}(e:ρ[i]?=some (.own a f ds))(h:Φ (f||fE ds) (.list ds)):Ev G ρ (gk (jQ K) (aU (br i) bK)) Φ:=(aD.C1 (Θ:=λf ds=>Φ f (.list ds)) e h).ev
theorem cat(h:Ev G ρ ta λf x=>∃ds,x= .list ds/\Ev G ρ tb λg y=>∃es,y= .list es/\ds.length+es.length<=10000/\Φ ((f && g)||fE (ds++es)) (.list (ds++es))):Ev G ρ (er IZ ta tb) Φ:=(aD.cat (Θ:=λf ds=>Φ f (.list ds)) h).ev
def XA(e:ρ[i]?=some (.own a f ds))(h:Φ true (.int ds.length)):Ev G ρ (gk (fT K) (aU (br i) bK)) Φ:=λnb σ H Q W z=>by
 obtain⟨x,e1,h1,h2,h3,xs,hx,hd⟩:=W.ok i _ e;subst h1;exact⟨.ref a,e1,a,xs,rfl, .inl (.of hx),by rw[hd.length];exact z true _ H _ h (.refl W.aq) (.int _)⟩
def min2(h:Ev G ρ ta λ_ x=>∃i,x= .int i/\Ev G ρ tb λ_ y=>∃j,y= .int j/\Φ true (.int (if j<i then j else i))):Ev G ρ (gk RA (aU ta (aU tb bK))) Φ:=λnb σ H Q W z=>
 h nb σ H _ W λf v H1 d ⟨i,e,q⟩ s1 hv=>q nb σ H1 _ (W.step s1) λg u H2 X ⟨j,e2,p⟩ s2 Y=>by
  subst e e2;exact⟨i,j,by rw[hv.bT,Y.bT],z true _ H2 _ p (s1.trans s2) (.int _)⟩
def X3(h:Ev G ρ ta λ_ x=>∃b,x= .bool b/\Φ true (.int (if b then 1 else 0))):Ev G ρ (gk Q6 (aU ta bK)) Φ:=λnb σ H Q W z=>
 h nb σ H _ W λf v H1 d ⟨b,e,q⟩ s1 hv=>by subst e;unfold af at hv;subst hv;exact .inr ⟨b,rfl,z true _ H1 _ q s1 (.int _)⟩
end Ev
abbrev DF:=List PyData->Pd->Prop
def cG(n:Nat)(F:DF):Sp:=λvs H Q _=>vs.length=n/\∃(nb:ar->Prop) (ds:List PyData),gZ nb H/\ah nb H ds vs/\F ds λf d=>∀v H',dQ H H'->af (λa=>nb a\/(f=true/\H a≠none)) H' d v->Q v H'
def fV(n:Nat)(F:DF):Sp:=λvs H Q _=>vs.length=n/\∃(b l:ar) (ws:List V) (nb:ar->Prop) (ds:List PyData),vs= .ref b::ws/\dO H b l/\gZ nb H/\nb b/\ah nb H ds ws/\
 F ds λf d=>∀v H',bC (Nb b) H H'->dO H' b l->af (λa=>nb a\/(f=true/\H a≠none)) H' d v->Q v H'
def eK(F:DF):Prop:=∀ds (Φ Ψ:Pd),F ds Φ->(∀f d,Φ f d->Ψ f d)->F ds Ψ
def Ev.gK{F:DF}(hm:eK F)(h:Av G ρ t λes=>es.length=n/\F (es.map (·.2)) λf d=>Φ (f||kG es) d):Ev G ρ (jh (cG n F) [] E0 t) Φ:=λnb σ H Q W z=>
 h nb σ H _ W λes vs H1 ⟨hl,p⟩ s1 J=>by
  have W1:=W.step s1;rw[ic];refine⟨by rw[J.len,hl],G.S nb (kG es),es.map (·.2),W1.iG,J.all λz=>z,hm _ _ _ p λf d hp v H' u hd=>z _ v H' d hp (s1.trans (.same W1.aq u)) (hd.av λa q=>?_)⟩;cases f with
  |false=>rw[rE] at q;exact .inl q
  |true=>exact .inr ⟨rfl,W1.iG a q⟩
def Step.uT{b l:ar}(Z:G.B=some (b,l))(bt:bC (Nb b) H H')(u:dO H' b l):Step G.B H H':=
 ⟨λa o n e=>bt a o (n b l Z) e,λb' w e=>by rw[Z] at e;cases e;exact u⟩
def Wd.vg(W:Wd G nb ρ σ H)(e:ρ[i]?=some .aq):∃b l,G.B=some (b,l)/\σ[i]?=some (some (.ref b))/\dO H b l:=by
 obtain⟨x,e1,b,l,Z,rfl⟩:=W.ok i _ e;exact⟨b,l,Z,e1,W.aq b l Z⟩
def Ev.kW{F:DF}(hm:eK F)(e:ρ[i]?=some .aq)(h:Av G ρ t λes=>es.length+1=n/\F (es.map (·.2)) λf d=>Φ (f||kG es) d):Ev G ρ (jh (fV n F) [] E0 (aU (br i) t)) Φ:=λnb σ H Q W z=>by
 obtain⟨b,l,Z,e1,B⟩:=W.vg e;refine⟨.ref b,e1,h nb σ H _ W λes vs H1 ⟨hl,p⟩ s1 J=>?_⟩;have W1:=W.step s1;show fV n F ((V.ref b::vs)++[]) H1 Q E0;rw[ic];have hb:∀f,G.S nb f b:=λf=> .inr (.inr (.inl λn=>n b l Z rfl));refine⟨by rw[dM,J.len,hl],b,l,vs,G.S nb (kG es),es.map (·.2),rfl,W1.aq b l Z,W1.iG,hb _,J.all λz=>z,hm _ _ _ p λf d hp v H' bt u hd=>z _ v H' d hp (s1.trans (.uT Z bt u)) (hd.av λa q=>?_)⟩;cases f with
 |false=>rw[rE] at q;exact .inl q
 |true=>exact .inr ⟨rfl,W1.iG a q⟩
def Ev.draw(e:ρ[i]?=some .aq)(h:Ev G ρ te λ_ x=>∃m:Int,x= .int m/\0<m/\Sm m/\∀r:Int,0<=r->r<m->Φ true (.int r)):Ev G ρ (jh k7 [] E0 (aU (br i) (aU te bK))) Φ:=λnb σ H Q W z=>by
 obtain⟨b,l,Z,e1,B⟩:=W.vg e;refine⟨.ref b,e1,h nb σ H _ W λf v H1 d ⟨m,I,h1,h2,p⟩ s1 hv=>?_⟩;subst I;exact⟨b,l,m,by rw[hv.bT];rfl,s1.2 b l Z,h1,h2,λr H' g O bt u=>z true _ H' _ (p r g O) (s1.trans (.uT Z bt u)) (.int r)⟩
def Ev.prime(e:ρ[i]?=some .aq)(h:∀p:Int,Ti p->Φ true (.int p)):Ev G ρ (jh XB [] E0 (aU (br i) bK)) Φ:=λnb σ H Q W z=>by
 obtain⟨b,l,Z,e1,B⟩:=W.vg e;exact⟨.ref b,e1,b,l,rfl,B,λp H' hp bt u=>z true _ H' _ (h p hp) (.uT Z bt u) (.int p)⟩
def Ev.total(h:Av G ρ t λes=>∃(p:Int) (prs:List (Int×Int)) (wd:List (Option Int)),es.map (·.2)=[.int p, .list (prs.map xl), .list (wd.map aT)]/\0<p/\(∀pr∈prs,0<=pr.1/\pr.1<wd.length/\Sm pr.2)/\(∀x,some x∈wd->Sm x)/\Φ true (.int (dG prs wd%p))):
  Ev G ρ (jh FN [] E0 t) Φ:=λnb σ H Q W z=>
 h nb σ H _ W λes vs H1 ⟨p,prs,wd,e,h1,h2,h3,q⟩ s1 J=>by
  have hd:=J.all (f:=false) (λz=>by cases z);rw[e] at hd;unfold ah at hd;obtain⟨y,ys,rfl,d1,hd⟩:=hd;unfold ah at hd;obtain⟨r,ys,rfl,X,hd⟩:=hd;unfold ah at hd;obtain⟨a,ys,rfl,c,hd⟩:=hd;unfold ah at hd;subst hd;exact⟨G.S nb false,p,r,a,prs,wd,by rw[d1.bT];rfl,X,c,h1,h2,h3,z true _ H1 _ q s1 (.int _)⟩
def Ev.whole(h:Ev G ρ te λ_ x=>∃n,x= .int n/\Φ true (.bool true)):Ev G ρ (jh XE [] E0 (aU te bK)) Φ:=λnb σ H Q W z=>
 h nb σ H _ W λf v H1 d ⟨n,e,q⟩ s1 hv=>by subst e;exact⟨n,by rw[hv.bT];rfl,z true _ H1 _ q s1 (.bl _)⟩
namespace Gv
variable{Θ:Rh->Prop}
def name(h:Θ (ρ.set i (.d f d))):Gv G ρ (gh i) f d Θ:=λnb σ H v Q W hv z=>z _ _ h (W.nX hv)
def ahi(h:Θ (ρ.set i (.d true d))):Gv G ρ (gh i) true d Θ:=name h
def JU(h:Θ (ρ.set i (.d false d))):Gv G ρ (gh i) f d Θ:=λnb σ H v Q W hv z=>z _ _ h (W.nX (hv.av (cg (λz=>by cases z) λ_ z=>z)))
def OM(hs:gE d=true)(h:Θ (ρ.set i (.d true d))):Gv G ρ (gh i) f d Θ:=λnb σ H v Q W hv z=>z _ _ h (W.nX (hv.kg hs))
def nN{n:Int}(h:Θ (ρ.set i (.d true (.int n)))):Gv G ρ (gh i) f (.int n) Θ:=OM rfl h
def X6(h:Θ (ρ.set i (.d true .none))):Gv G ρ (gh i) f .none Θ:=OM rfl h
def tup{n:Nat}{u:kE}(hl:ds.length=n)(h:pB G ρ u f ds Θ):Gv G ρ (rT K n u) f (.tuple ds) Θ:=λnb σ H v Q W hv z=>by
 obtain⟨a,xs,rfl,m,hx,hd⟩:=hv.ofT;exact⟨a,xs,rfl, .of hx,by rw[hd.length];exact hl,h nb σ H xs Q W hd z⟩
def VE(h:Θ ρ):pB G ρ xY f [] Θ:=λnb σ H vs Q W hv z=>by unfold ah at hv;exact⟨hv,z _ _ h W⟩
def Xo{u:TG}{us:kE}(h:Gv G ρ u f d λc=>pB G c us f ds Θ):pB G ρ (oq u us) f (d::ds) Θ:=λnb σ H vs Q W hv z=>by
 unfold ah at hv;obtain⟨y,ys,rfl,h1,h2⟩:=hv;exact⟨y,ys,rfl,h nb σ H y _ W h1 λM L q W'=>q nb M H ys Q W' h2 z⟩
end Gv
namespace Sv
variable{E:DE}{s u:TS}
def seq(h:Sv G ρ s {E with nx:=λc=>Sv G c u E}):Sv G ρ (oM s u) E:=λnb σ H D W K=>h nb σ H _ W ⟨λaA L M H' q W'=>q aA M H' D W' K,K.bk,K.ct,K.rt,K.rw⟩
def next(h:E.nx ρ):Sv G ρ Kc E:=λnb σ H D W K=>K.nx nb ρ σ H h W
def brk(h:E.bk ρ):Sv G ρ T1 E:=λnb σ H D W K=>K.bk nb ρ σ H h W
def cont(h:E.ct ρ):Sv G ρ ahB E:=λnb σ H D W K=>K.ct nb ρ σ H h W
def asg{g:TG}(h:Ev G ρ te λf d=>Gv G ρ g f d E.nx):Sv G ρ (gu te g) E:=λnb σ H D W K=>h nb σ H _ W λf v H1 d q s1 hv=>q nb σ H1 v _ (W.step s1) hv λM L p W'=>K.nx nb L M H1 p W'
def Fu(h:Ev G ρ te λ_ d=>E.nx (ρ.set i (.d false d))):Sv G ρ (HK i te) E:=λnb σ H D W K=>h nb σ H _ W λf v H1 d q s1 hv=>K.nx nb _ _ H1 q ((W.step s1).nX (hv.av (cg (λz=>by cases z) λ_ z=>z)))
def drop(h:Ev G ρ te λ_ _=>E.nx ρ):Sv G ρ (nu te) E:=λnb σ H D W K=>h nb σ H _ W λf v H1 d q s1 hv=>K.nx nb ρ σ H1 q (W.step s1)
def ret(h:Ev G ρ te E.rt):Sv G ρ (pT te) E:=λnb σ H D W K=>h nb σ H _ W λf v H1 d q s1 hv=>K.rt nb ρ σ f v H1 d q (W.step s1) (hv.av (cg (λz=>z) λ_ z=>z.elim))
def mJ{c:TT}(h:Tv G ρ c λb=>if b=true then Sv G ρ s E else Sv G ρ u E):Sv G ρ (DK c s u) E:=λnb σ H D W K=>h nb σ H _ W λb H1 q s1=>by
 cases b with
 |true=>rw[if_pos rfl] at q⊢;exact q nb σ H1 D (W.step s1) K
 |false=>rw[if_neg eB] at q⊢;exact q nb σ H1 D (W.step s1) K
def EN(W:Wd G nb ρ σ H)(s1:Step G.B H H1)(ha:H a=none)(e:H1 a=some (.lst xs))(hd:ah (λx=>G.S nb f x\/x=a) H1 ds xs):
    Wd G (λx=>nb x\/x=a) (ρ.set i (.own a f ds)) (σ.set i (some (.ref a))) H1:=by
  have hN:NB G.B a:=λb l e z=>by
    subst z;obtain⟨_,_,_,_,_,h1,_⟩:=W.aq _ _ e;rw[h1] at ha;cases ha
  have hA:∀f x,G.S (λx=>nb x\/x=a) f x->(G.S nb f x\/x=a):=λf x z=>by
    rcases z with (z|z)|z|z|z
    · exact .inl (.inl z)
    · exact .inr z
    · exact .inl (.inr (.inl z))
    · exact .inl (.inr (.inr (.inl z)))
    · exact .inl (.inr (.inr (.inr z)))
  have W1:=W.step s1;have W2:Wd G (λx=>nb x\/x=a) ρ σ H1:=by
    refine⟨W1.aq,λx n=>?_,W1.old,λx n q=>?_,W.gA,W.len,W.gB,λh m=>(((W.dw h m).fresh ha).keep (s1.but λx z=> .inl (.inr (.inr (.inl z))))).av (hA h.1),λj s e'=>?_,W.apart,W.fB,W.cL⟩
    · rcases n with n|n
      · exact W1.live x n
      · subst n;rw[e];exact gx _
    · rcases n with n|n
      · exact W.cJ x n q
      · subst n
        cases z:G.H0 x with
        |none=>rfl
        |some o=>rw[W.old x o q z] at ha;cases ha
    · obtain⟨x,e1,h⟩:=W.ok j s e'
      refine⟨x,e1,?_⟩;cases s with
      |no=>trivial
      |d f d=>obtain⟨v,e,h⟩:=h;exact⟨v,e,((h.fresh ha).keep (s1.but λx z=> .inl (.inr (.inr (.inl z))))).av (hA f)⟩
      |own c f es=>obtain⟨e,n,q,xs,hx,hd⟩:=h;exact⟨e, .inl n,q,xs,s1.1 _ _ q hx,((hd.fresh ha).keep (s1.but λx z=> .inl (.inr (.inr (.inl z))))).av (hA f)⟩
      |aq=>exact h
      |raw v=>exact h
      |bB c f es=>obtain⟨e,n,q,xs,hx,hd⟩:=h;exact⟨e, .inl n,q,xs,s1.1 _ _ q hx,((hd.fresh ha).keep (s1.but λx z=> .inl (.inr (.inr (.inl z))))).av (hA f)⟩
      | cu c =>
        obtain⟨e,n,q⟩:=h;refine⟨e,λa ha=>⟨.inl (n a ha).1,(n a ha).2⟩,c.av (hA c.f) (c.keep (.of λx o hx e=>s1.1 x o ?_ e) (c.fresh ha q))⟩;rcases hx with hx|hx
        · exact jl λz=>hx (.inl (.inr (.inr (.inl z))))
        · exact(n x hx).2
  refine W2.set ⟨rfl, .inr rfl,hN,xs,e,hd.av (hA f)⟩ ?_ (λ_ _ _ z=>by cases z) (λx hx j t O ht hc=>?_)
  rotate_left
  · have hx:x=a:=aF.mp hx
    subst hx;rcases hc with ⟨c,z⟩|⟨c,rfl⟩
    · cases z
    · exact λz=>W.live x ((W.ok j _ ht).choose_spec.2.2.1 x z).1 ha
  rintro a' f' ds' ⟨rfl,rfl,rfl⟩ j c g cs O hc z;subst z;obtain⟨x,e1,h1,h2,h3,ys,hy,_⟩:=W.ok j _ hc;rw[hy] at ha;cases ha
def DW(h:aD G ρ te λf ds=>∀a,E.nx (ρ.set i (.own a f ds))):Sv G ρ (gu te (gh i)) E:=λnb σ H D W K=>h nb σ H _ W λf a xs H1 ds q s1 ha e hd=>K.nx _ _ _ H1 (q a) (EN W s1 ha e hd)
def agZ(h:aD G ρ te λf ds=>∀a,E.nx (ρ.set i (.own a f ds))):Sv G ρ (HK i te) E:=λnb σ H D W K=>h nb σ H _ W λf a xs H1 ds q s1 ha e hd=>K.nx _ _ _ H1 (q a) (EN W s1 ha e hd)
def AN(W:Wd G nb ρ σ H)(e:ρ[i]?=some (.own a f ds))(hd:ah (G.S nb g) H es xs):Wd G nb (ρ.set i (.own a g es)) σ (upd H a (.lst xs)):=by
  obtain⟨x,e1,h1,h2,h3,ys,hy,_⟩:=W.ok i _ e;subst h1;have D:i<ρ.length:=(bH.mp e).1;have W0:Wd G nb (ρ.set i .no) (σ.set i (some (.ref a))) H:=W.set trivial λ_ _ _ z=>by cases z
  have W1:Wd G nb (ρ.set i .no) (σ.set i (some (.ref a))) (upd H a (.lst xs)):=W0.write h2 h3 (λj c k cs hc=>by
    by_cases hij:i=j;· subst hij;rw[dB D] at hc;cases hc
    · rw[bQ hij] at hc
      exact(W.apart i j _ _ _ _ _ _ hij e hc).symm
   ) (λj c k cs hc z => by
      subst z;have hij:i≠j:=λz=>by subst z;rw[dB D] at hc;cases hc
      rw[bQ hij] at hc;obtain⟨_,_,_,_,_,ps,hp,_⟩:=W.ok j _ hc;rw[hy] at hp;cases hp) (λj c hc z=>by
      have hij:i≠j:=λz=>by subst z;rw[dB D] at hc;cases hc
      rw[bQ hij] at hc;exact W.cL j i c _ (cY hij) hc e a z (aF.mpr rfl))
  have W2:=W1.set (i:=i) (s:= .own a g es) (x:=some (.ref a)) ⟨rfl,h2,h3,xs,aV,hd.keep (bC.set (.inl h2))⟩ (by
    rintro a' k ds' ⟨rfl,rfl,rfl⟩ j c g' cs O hc;rw[bQ (cY O)] at hc;exact W.apart i j _ _ _ _ _ _ (cY O) e hc) (λ_ _ _ z=>by cases z) (λx hx j t O ht hc z=>by
    rw[bQ (cY O)] at ht;have hx:x=a:=aF.mp hx;subst hx;rcases hc with ⟨c,q⟩|⟨c,rfl⟩
    · cases q
    · exact W.cL j i c _ O ht e x z (aF.mpr rfl))
  rw[nk,nk] at W2;have:σ.set i (some (.ref a))=σ:=by
    apply iu;intro j;by_cases hij:i=j;· subst hij;rw[dB (by rw[W.len];exact D),e1]
    · rw[bQ hij]
  rwa[this] at W2
def append(e:ρ[i]?=some (.own a f ds))(h:Ev G ρ te λg d=>ds.length<10000/\E.nx (ρ.set i (.own a (f && g) (ds++[d])))):Sv G ρ (nu (n9 K "list" yU (br i) (aU te bK))) E:=λnb σ H D W KK=>by
 obtain⟨x,e1,h1,h2,h3,xs,hx,hd⟩:=W.ok i _ e;subst h1;refine⟨.ref a,e1, .inl ⟨rfl,_,bL.of hx⟩,h nb σ H _ W λg v H1 d ⟨hl,q⟩ s1 hv=>?_⟩;have W1:=W.step s1;have Oz:=s1.1 _ _ h3 hx;refine⟨a,xs,v,rfl,rfl,Oz,fX (by rw[hd.length];exact hl) ⋯,KK.nx nb _ _ _ q (AN W1 e ?_)⟩;exact ah.snoc (hv.av (cg (λz=>(fF _ _▸z).2) λ_ z=>z)) ((hd.keep s1.c8).av (cg (λz=>(fF _ _▸z).1) λ_ z=>z))
theorem ah.set'{nb:ar->Prop}{H:Hp}{x:V}(hd:af nb H d x):∀{ds:List PyData} {xs:List V} (j:Nat),ah nb H ds xs->ah nb H (ds.set j d) (xs.set j x)
 |[],_,j,h=>by unfold ah at h;subst h;exact .nil
 |e::ds,_,0,h=>by unfold ah at h;obtain⟨y,ys,rfl,h1,h2⟩:=h;exact .cons hd h2
 |e::ds,_,j+1,h=>by unfold ah at h;obtain⟨y,ys,rfl,h1,h2⟩:=h;exact .cons h1 (ah.set' hd j h2)
def Ie(e:ρ[i]?=some (.own a f ds))(h:Ev G ρ te λg d=>Ev G ρ tb λ_ y=>∃k j,y= .int k/\ji ds.length k=some j/\E.nx (ρ.set i (.own a (f && g) (ds.set j d)))):Sv G ρ (gu te (lZ (br i) tb wB)) E:=λnb σ H D W KK=>
 h nb σ H _ W λg v H1 d q s1 hv=>by
  obtain⟨x,e1,h1,h2,h3,xs,hx,hd⟩:=(W.step s1).ok i _ e;subst h1;refine⟨.ref a,e1,q nb σ H1 _ (W.step s1) λg' u H2 y ⟨k,j,r,O,p⟩ s2 Y=>?_⟩;subst r;have W2:=(W.step s1).step s2;refine⟨a,xs,k,j,rfl,Y.bT,s2.1 _ _ h3 hx,by rw[hd.length];exact O,KK.nx nb _ _ _ p (AN W2 e ?_)⟩;exact ah.set' ((hv.keep s2.c8).av (cg (λz=>(fF _ _▸z).2) λ_ z=>z)) j ((hd.keep s2.c8).av (cg (λz=>(fF _ _▸z).1) λ_ z=>z))
def share(W:Wd G nb ρ σ H)(e:ρ[i]?=some (.own a f ds)):Wd G (λx=>nb x/\x≠a) (ρ.set i (.d f (.list ds))) σ H:=by
  obtain⟨x,e1,h1,h2,h3,xs,hx,hd⟩:=W.ok i _ e;subst h1;have D:i<ρ.length:=(bH.mp e).1;have W0:Wd G nb (ρ.set i .no) (σ.set i (some (.ref a))) H:=W.set trivial λ_ _ _ z=>by cases z
  have W1:Wd G (λx=>nb x/\x≠a) (ρ.set i .no) (σ.set i (some (.ref a))) H:=by
    refine⟨W0.aq,λx n=>W0.live x n.1,W0.old,λx n=>W0.cJ x n.1,W0.gA,W0.len,W0.gB,λh m=>(W0.dw h m).av (cg (λz=>z) λ_ z=>z.1),λj s e'=>?_,W0.apart,W0.fB,W0.cL⟩;obtain⟨x,oA,h⟩:=W0.ok j s e';refine⟨x,oA,?_⟩;have hij:s≠ .no->i≠j:=λn z=>by subst z;rw[dB D] at e';cases e';exact n rfl
    cases s with
    |no=>trivial
    |d f d=>obtain⟨v,e,h⟩:=h;exact⟨v,e,h.av (cg (λz=>z) λ_ z=>z.1)⟩
    | own c f es =>
      obtain⟨e2,n,q,xs,hx,hd⟩:=h;have hij:=hij (by intro z;cases z);rw[bQ hij] at e';exact⟨e2,⟨n,(W.apart i j _ _ _ _ _ _ hij e e').symm⟩,q,xs,hx,hd.av (cg (λz=>z) λ_ z=>z.1)⟩
    |aq=>exact h
    |raw v=>exact h
    | bB c f es =>
      obtain⟨e2,n,q,ps,hp,hd⟩:=h;have p:c≠a:=λz=>by subst z;rw[hx] at hp;cases hp
      exact⟨e2,⟨n,p⟩,q,ps,hp,hd.av (cg (λz=>z) λ_ z=>z.1)⟩
    | cu c =>
      obtain⟨e2,n,q⟩:=h;have hij:=hij (by intro z;cases z);rw[bQ hij] at e';exact⟨e2,λx hx=>⟨⟨(n x hx).1,λz=>W.cL j i c _ (cY hij) e' e x hx (by rw[z];exact aF.mpr rfl)⟩,(n x hx).2⟩,c.av (cg (λz=>z) λ_ z=>z.1) q⟩
  have W2:=W1.nX (i:=i) (f:=f) (d:= .list ds) (v:= .ref a) (.lst (λz=>by
    rcases z with z|z|z|z
    · exact z.2 rfl
    · exact W.gA a z (W.cJ a h2 h3)
    · exact z h3
    · exact z.2 (W.cJ a h2 h3)) hx (hd.av (cg (λz=>z) λ_ z=>z.1)))
  rw[nk,nk] at W2;have:σ.set i (some (.ref a))=σ:=by
    apply iu;intro j;by_cases hij:i=j;· subst hij;rw[dB (by rw[W.len];exact D),e1]
    · rw[bQ hij]
  rwa[this] at W2
def xm(i:Nat)(e:ρ[i]?=some (.own a f ds))(h:Sv G (ρ.set i (.d f (.list ds))) s E):Sv G ρ s E:=λnb σ H D W K=>h _ σ H D (share W e) K
theorem wk{L:Rh}(w:Wk L ρ)(h:Sv G L s E):Sv G ρ s E:=λnb σ H D W K=>h nb σ H D (W.wk w) K
end Sv
end
noncomputable abbrev Gx.hd(G:Gx)(f:Bool)(d:PyData)(v:V):Gx:={G with hold:=(f, .d d,v)::G.hold}
section
variable{G:Gx}{ρ dg:Rh}{Φ Ψ:Pd}{ta tb te:TE}{t:TA}{i:Nat}{f g:Bool}{d e:PyData}{ds es:List PyData}{K:PySem.W.Frag}
theorem Wd.hd{nb:ar->Prop}{σ:qr}{H:Hp}{v:V}(W:Wd G nb ρ σ H)(h:af (G.S nb f) H d v):Wd (G.hd f d v) nb ρ σ H:=
 ⟨W.aq,W.live,W.old,W.cJ,W.gA,W.len,W.gB,λx m=>by
  rcases aM.mp m with e|m
  .subst e;exact h
  .exact W.dw x m,λi s e=>by
   obtain⟨x,e1,h⟩:=W.ok i s e;refine⟨x,e1,?_⟩;cases s<;>exact h,W.apart,W.fB,W.cL⟩
def Wd.jF{v:V}(W:Wd (G.hd f d v) nb ρ σ H):Wd G nb ρ σ H/\af (G.S nb f) H d v:=
 ⟨⟨W.aq,W.live,W.old,W.cJ,W.gA,W.len,W.gB,λx m=>W.dw x (bV _ m),λi s e=>by
   obtain⟨x,e1,h⟩:=W.ok i s e;refine⟨x,e1,?_⟩;cases s<;>exact h,W.apart,W.fB,W.cL⟩,W.dw _ (bZ ..)⟩
namespace Sv
variable{E:DE}{s:TS}{gt:TG}
def sP(G:Gx)(ρ:Rh)(n:Nat)(it:Nat->PyData->Prop)(fi:Bool)(gt:TG)(s:TS)(E:DE):Prop:=
 ∃I:Nat->Rh->Prop,I 0 ρ/\(∀i d L,it i d->I i L->Gv G L gt fi d λr=>Sv G r s {nx:=I (i+1),rt:=E.rt,bk:=E.nx,ct:=I (i+1),rw:=E.rw})/\∀L,I n L->E.nx L
def LU{lo:Int}{D:Ends}(W:Wd G nb ρ σ H)(KK:yt G E D)(h:sP G ρ n (λi d=>i<n/\d= .int (lo+i)) true gt s E):
  ∃W:Nat->Nat->qr->Hp->Prop,(∃m,W 0 m σ H)/\∀i m σ H,W i m σ H->
   ((lC lo n).stop i H/\D.nx σ H)\/((lC lo n).go i H/\∃N:qr->Hp->Prop,(∀M H',N M H'->∃R,R<m/\W (i+1) R M H')/\∀x H',(lC lo n).nO i H x H'->gt x σ H' λk H2=>s {D with nx:=N,ct:=N,bk:=D.nx} k H2):=by
 obtain⟨I,h0,ht,he⟩:=h;refine M1 (λi σ H=>∃nb ρ',I i ρ'/\Wd G nb ρ' σ H) ⟨nb,ρ,h0,W⟩ ?_ ?_
 .rintro i σ H hi ⟨nb,ρ',hI,W⟩;refine ht i _ ρ' ⟨hi,rfl⟩ hI nb σ H _ _ W (.int _) λk r q W2=>q nb k H _ W2 ?_;exact⟨λnb ρ σ H q W=>⟨nb,ρ,q,W⟩,KK.nx,λnb ρ σ H q W=>⟨nb,ρ,q,W⟩,KK.rt,KK.rw⟩
 .rintro σ H ⟨nb,ρ',hI,W⟩;exact KK.nx nb ρ' σ H (he ρ' hI) W
def tM(h:Ev G ρ te λ_ x=>∃n:Int,x= .int n/\ -(2^62)<=n/\n<2^62/\sP G ρ n.toNat (λi d=>i<n.toNat/\d= .int (0+i)) true gt s E):Sv G ρ (pA (sy (aU te bK)) gt s) E:=λnb σ H D W KK=>
 h nb σ H _ W λf v H1 x ⟨n,ex,h1,h2,q⟩ s1 hv=>by
  subst ex;rw[hv.bT];exact⟨n,rfl,h1,h2,LU (W.step s1) KK q⟩
def VW(h:Ev G ρ ta λ_ x=>∃m:Int,x= .int m/\Ev G ρ tb λ_ y=>∃n:Int,y= .int n/\(-(2^62)<=m/\m<2^62/\ -(2^62)<=n/\n<2^62)/\sP G ρ (n-m).toNat (λi d=>i<(n-m).toNat/\d= .int (m+i)) true gt s E):Sv G ρ (pA (JZ (aU ta (aU tb bK))) gt s) E:=λnb σ H D W KK=>
 h nb σ H _ W λf v H1 x ⟨m,ex,q⟩ s1 hv=>q nb σ H1 _ (W.step s1) λk u H2 y ⟨n,r,hb,q⟩ s2 Y=>by
  subst ex r;rw[hv.bT,Y.bT];exact⟨m,n,rfl,hb,LU ((W.step s1).step s2) KK q⟩
theorem forL(h:Ev G ρ te λf x=>∃ds,x= .list ds/\∀v,sP (G.hd f (.list ds) v) ρ ds.length (λi d=>ds[i]?=some d) f gt s E):Sv G ρ (pA (qq K te) gt s) E:=λnb σ H D W KK=>
 h nb σ H _ W λf v H1 x ⟨ds,ex,q⟩ s1 hv=>by
  subst ex;obtain⟨I,h0,ht,he⟩:=q v;have W1:=(W.step s1).hd hv;obtain⟨a,xs,rfl,n,hx,hd⟩:=hv.ig;have key:∀{nb L σ H},Wd (G.hd f (.list ds) (.ref a)) nb L σ H->∃xs,H a=some (.lst xs)/\ah (G.S nb f) H ds xs:=λW=>by
   obtain⟨a',j,e',_,h',d'⟩:=W.jF.2.ig;cases e';exact⟨j,h',d'⟩
  refine⟨a,rfl,⟨xs, .of hx⟩,?_⟩;refine⟨λi m σ H=>m=ds.length-i/\i<=ds.length/\∃nb L,I i L/\Wd (G.hd f (.list ds) (.ref a)) nb L σ H,⟨ds.length,by simp,iP _,nb,ρ,h0,W1⟩,?_⟩;rintro i m σ H ⟨rfl,hi,nb,L,hI,W⟩;obtain⟨ys,hy,O⟩:=key W;have hl:=O.length;by_cases hlt:i<ds.length
  .refine .inr ⟨⟨ys,ys[i]'∅, .of hy,aL _⟩,λσ H=>∃nb L,I (i+1) L/\Wd (G.hd f (.list ds) (.ref a)) nb L σ H,λM H' q=>⟨ds.length-(i+1),∅,rfl,hlt,q⟩,λx H' y=>?_⟩;obtain⟨e,y⟩:=y;subst e;have hx:=y ys (.of hy);obtain⟨u,Z,dx⟩:=O.get (aL hlt);rw[hx] at Z;cases Z
   refine ht i _ L (aL hlt) hI nb σ _ _ _ W dx λk r q W2=>q nb k _ _ W2 ?_;exact⟨λnb ρ σ H q W=>⟨nb,ρ,q,W⟩,λnb ρ σ H q W=>KK.nx nb ρ σ H q W.jF.1,λnb ρ σ H q W=>⟨nb,ρ,q,W⟩,λnb ρ σ f v H d q W hv=>KK.rt nb ρ σ f v H d q W.jF.1 hv,λnb ρ σ v H q W=>KK.rw nb ρ σ v H q W.jF.1⟩
  .have e:i=ds.length:=∅
   subst e;exact .inl ⟨⟨ys, .of hy,∅⟩,KK.nx nb L σ H (he L hI) W.jF.1⟩
def JW{c:TT}(I:Rh->Prop)(a:Rh->Nat)(h0:I ρ)(h:∀L,I L->Tv G L c λb=>if b=true then Sv G L s {nx:=λr=>I r/\a r<a L,rt:=E.rt,bk:=E.nx,ct:=λr=>I r/\a r<a L,rw:=E.rw} else E.nx L):Sv G ρ (Fo c s) E:=λnb σ H D W KK=>by
  refine⟨λm σ H=>∃nb L,I L/\Wd G nb L σ H/\m=a L,⟨_,nb,ρ,h0,W,rfl⟩,?_⟩;rintro m σ H ⟨nb,L,hI,W,rfl⟩;refine h L hI nb σ H _ W λb H1 q s1=>?_;cases b with
  | true =>
    rw[if_pos rfl] at q⊢;refine⟨λM H'=>∃nb r,(I r/\a r<a L)/\Wd G nb r M H',λM H' ⟨nb,r,⟨J,q2⟩,W2⟩=>⟨a r,q2,nb,r,J,W2,rfl⟩,q nb σ H1 _ (W.step s1) ?_⟩;exact⟨λnb ρ σ H q W=>⟨nb,ρ,q,W⟩,KK.nx,λnb ρ σ H q W=>⟨nb,ρ,q,W⟩,KK.rt,KK.rw⟩
  |false=>rw[if_neg eB] at q⊢;exact KK.nx nb L σ H1 q (W.step s1)
end Sv
noncomputable def oS(mp:List (Option Nat))(ρ:Rh):Rh:=mp.map λo=>match o with|none=> .no|some j=>match ρ[j]? with|some s=>s|none=> .no
def EG(h:(mp.filterMap id).Nodup):∀{i j k:Nat},mp[i]?=some (some k)->mp[j]?=some (some k)->i=j:=by
  induction mp with
  |nil=>intro i j k e;simp at e
  | cons o r ih =>
    intro i j k e1 e2;have hr:(r.filterMap id).Nodup:=by
      cases o with
      |none=>simpa using h
      |some x=>rw[DI (by rfl)] at h;exact(gf.mp h).2
    have hn:∀{m:Nat},r[m]?=some (some k)->o≠some k:=λ{m} hm e=>by
      subst e;rw[DI (by rfl)] at h;exact(gf.mp h).1 (qz.mpr ⟨some k,cS hm,rfl⟩)
    cases i with
    | zero =>
      cases j with
      |zero=>rfl
      |succ j=>simp at e1 e2;exact absurd e1 (hn e2)
    | succ i =>
      cases j with
      |zero=>simp at e1 e2;exact absurd e2 (hn e1)
      |succ j=>simp at e1 e2;rw[ih hr e1 e2]
theorem Wd.iY{nb:ar->Prop}{σ:qr}{H:Hp}{mp:List (Option Nat)}(W:Wd G nb ρ σ H)(hm:(mp.filterMap id).Nodup):Wd G nb (oS mp ρ) (iY mp σ) H:=by
  have T:∀{i:Nat} {s:Sl},(oS mp ρ)[i]?=some s->s= .no\/∃k,mp[i]?=some (some k)/\ρ[k]?=some s:=λ{i s} e=>by
    unfold oS at e;rw[bu] at e;obtain⟨o,U,e⟩:=jJ.mp e;cases o with
    |none=>exact .inl e.symm
    | some k =>
      cases hk:ρ[k]? with
      |none=>simp only[hk] at e;exact .inl e.symm
      |some s'=>simp only[hk] at e;subst e;exact .inr ⟨k,U,hk⟩
  refine⟨W.aq,W.live,W.old,W.cJ,W.gA,by unfold L2.iY oS;rw[aj,aj],W.gB,W.dw,λi s e=>?_,λi j a f as c g cs hij e1 e2=>?_,λi j a f as c g cs hij e1 e2=>?_,λi j c t hij e1 e2 a ha=>?_⟩
  · have hi:i<mp.length:=by have:=(bH.mp e).1;unfold oS at this;rwa[aj] at this
    rcases T e with rfl|⟨k,hk,hs⟩
    · exact⟨_,by unfold L2.iY;rw[bu,aL hi];rfl,trivial⟩
    · obtain⟨x,e1,h⟩:=W.ok k s hs
      refine⟨x,?_,h⟩;unfold L2.iY;rw[bu,hk];simp only[wA,e1]
  · rcases T e1 with z|⟨k,hk,hs⟩
    · cases z
    rcases T e2 with z|⟨k',hk',hs'⟩
    · cases z
    exact W.apart k k' a f as c g cs (λz=>by subst z;exact hij (EG hm hk hk')) hs hs'
  · rcases T e1 with z|⟨k,hk,hs⟩
    · cases z
    rcases T e2 with z|⟨k',hk',hs'⟩
    · cases z
    exact W.fB k k' a f as c g cs (λz=>by subst z;exact hij (EG hm hk hk')) hs hs'
  · rcases T e1 with z|⟨k,hk,hs⟩
    · cases z
    rcases T e2 with z|⟨k',hk',hs'⟩
    · subst z;exact λz=>by cases z
    exact W.cL k k' c t (λz=>by subst z;exact hij (EG hm hk hk')) hs hs' a ha
def Um(ρ:Rh)(acc:ar):Prop:=(∀(j:Nat) a f ds,ρ[j]?=some (.own a f ds)->a≠acc)/\∀(j:Nat) c,ρ[j]?=some (.cu c)->acc∉c.F
def jH(G:Gx)(dg:Rh)(n:Nat)(it:Nat->PyData->Prop)(fi:Bool)(gt:TG)(tc:TT)(te:TE)(Θ:Bool->List PyData->Prop):Prop:=
 ∃(fl:Bool) (I:Nat->List PyData->Prop),I 0 []/\(∀i d ds,it i d->ds.length<=i->I i ds->Gv G dg gt fi d λc=>Wk dg c/\Tv G c tc λb=>if b=true then Ev G c te λf e=>(fl=true->f=true)/\I (i+1) (ds++[e]) else I (i+1) ds)/\
  ∀ds,ds.length<=n->I n ds->Θ (fl||fE ds) ds
theorem Gz{x:V}{fi fl:Bool}{N:qr->Hp->Prop}{ds:List PyData}(hn:n<=10000)(hi:i<n)
    (W:Wd G nb dg σ H) (ha:nb acc) (hN:NB G.B acc) (hno:Um dg acc) (st:Step G.B H1 H) (g:H1 acc=none) (hx:H acc=some (.lst xs)) (hd:ah (G.S nb fl) H ds xs) (hl:ds.length<=i) (l:af (G.S nb fi) H d x)
    (h:Gv G dg gt fi d λc=>Wk dg c/\Tv G c tc λb=>if b=true then Ev G c te λf e=>(fl=true->f=true)/\I (i+1) (ds++[e]) else I (i+1) ds)
    (z:∀σ' H' ds' xs',Wd G nb dg σ' H'->Step G.B H1 H'->H' acc=some (.lst xs')->ah (G.S nb fl) H' ds' xs'->ds'.length<=i+1->I (i+1) ds'->N σ' H'):
    gt x σ H λk H2=>tc k H2 λb H3=>if b=true then te k H3 λv H4=>∃ys,H4 acc=some (.lst ys)/\ys.length<sizeLine/\N k (upd H4 acc (.lst (ys++[v]))) else N k H3:=by
  refine h nb σ H x _ W l λk c ⟨wk,q⟩ W2=>q nb k H _ W2 λb H3 P Z=>?_;have QG:=Z.1 _ _ hN hx;have Rr:=hd.keep (Z.c8 (nb:=nb) (f:=fl));cases b with
  | false =>
    rw[if_neg eB] at P⊢;exact z k H3 ds xs ((W2.step Z).wk wk) (st.trans Z) QG Rr ∅ P
  | true =>
    rw[if_pos rfl] at P⊢;refine P nb k H3 _ (W2.step Z) λf v H4 e ⟨hf,hI⟩ s4 hv=>?_;have MS:=s4.1 _ _ hN QG;have hd4:=Rr.keep (s4.c8 (nb:=nb) (f:=fl));have hlen:=hd.length;refine⟨xs,MS,fX (show xs.length<10001 by omega) ⋯,?_⟩;have D:Wd G nb dg k H4:=((W2.step Z).step s4).wk wk;have bt:bC (G.S nb fl) H4 (upd H4 acc (.lst (xs++[v]))):=bC.set (.inl ha)
    have E:Wd G nb dg k (upd H4 acc (.lst (xs++[v]))):=D.write ha hN hno.1 (λj a f ds e z=>by
      subst z;obtain⟨_,_,_,_,_,ps,hp,_⟩:=D.ok j _ e;rw[MS] at hp;cases hp) hno.2
    refine z k _ (ds++[e]) (xs++[v]) E ⟨λa o n q=>?_,E.aq⟩ aV (ah.snoc ((hv.av (cg hf λ_ z=>z)).keep bt) (hd4.keep bt)) (by rw[cP,kc];omega) hI;have U:a≠acc:=λz=>by subst z;rw[g] at q;cases q
    rw[aG U];exact(st.trans (Z.trans s4)).1 a o n q
def Iu(W:Wd G nb ρ σ H)(ha:H a=none):Um ρ a:=by
 refine⟨λj c f ds e z=>?_,λj c e z=>?_⟩
 .subst z;obtain⟨x,e1,h1,h2,h3,ys,hy,_⟩:=W.ok j _ e;rw[hy] at ha;cases ha
 .obtain⟨x,e1,h1,h2,h3⟩:=W.ok j _ e;exact W.live a (h2 a z).1 ha
def Rb{f:Bool}:∀x,(G.S nb f x\/x=a)->G.S (λx=>nb x\/x=a) f x:=λx z=>by
 rcases z with (z|z|z|z)|z
 .exact .inl (.inl z)
 .exact .inr (.inl z)
 .exact .inr (.inr (.inl z))
 .exact .inr (.inr (.inr z))
 .exact .inl (.inr z)
def B7{Q:VK}{ds:List PyData}{fl:Bool}(W:Wd G nb ρ σ H)(s1:Step G.B H H1)(g:H1 acc=none)(s2:Step G.B H1 H')(hx:H' acc=some (.lst xs))(hd:ah (G.S (λx=>nb x\/x=acc) fl) H' ds xs)(p:Θ (fl||fE ds) ds)
  (z:∀f a xs H' ds,Θ f ds->Step G.B H H'->H a=none->H' a=some (.lst xs)->ah (λx=>G.S nb f x\/x=a) H' ds xs->Q (.ref a) H'):Q (.ref acc) H':=by
 refine z _ acc xs H' ds p (s1.trans s2) (W.none_of s1 g) hx ?_;cases hs:fE ds with
 |true=>exact ah.kg hs hd
 |false=>rw[qh];exact hd.av Rb
def NB.new{B:Bg}(h:ly B H)(ha:H a=none):NB B a:=jl λz=>NB.mh h z ha
namespace aD
variable{Θ:Bool->List PyData->Prop}{gt:TG}{tc:TT}{mp:List (Option Nat)}
def acI{lo:Int}{Q:VK}(W:Wd G nb ρ σ H)(s1:Step G.B H H1)(hm:(mp.filterMap id).Nodup)(y:oS mp ρ=dg)(hn:n<=10000)(h:jH G dg n (λi d=>i<n/\d= .int (lo+i)) true gt tc te Θ)
  (z:∀f a xs H' ds,Θ f ds->Step G.B H H'->H a=none->H' a=some (.lst xs)->ah (λx=>G.S nb f x\/x=a) H' ds xs->Q (.ref a) H') (acc:ar) (g:H1 acc=none):sj (lC lo n) gt tc te acc (λH'=>Q (.ref acc) H') (iY mp σ) (upd H1 acc (.lst [])):=by
 obtain⟨fl,I,h0,ht,he⟩:=h;have W0:Wd G nb dg (L2.iY mp σ) H1:=by rw[<-y];exact(W.step s1).iY hm
 have W1:=W0.more g (o:= .lst []);have hN:=NB.new s1.2 g;have hno:=Iu W0 g;have pJ:Step G.B H1 (upd H1 acc (.lst [])):= .same s1.2 (dU g);refine R.yG (λi σ H=>∃ds xs,Wd G (λx=>nb x\/x=acc) dg σ H/\Step G.B H1 H/\H acc=some (.lst xs)/\ah (G.S (λx=>nb x\/x=acc) fl) H ds xs/\ds.length<=i/\I i ds) ⟨[],[],W1,pJ,aV, .nil,aW _,h0⟩ ?_ ?_
 .rintro i σ H hi ⟨ds,xs,W,st,hx,hd,hl,hI⟩;exact Gz hn hi W (.inr rfl) hN hno st g hx hd hl (.int _) (ht i _ ds ⟨hi,rfl⟩ hl hI) λM H' b j W' l Z hd' hl' r=>⟨b,j,W',l,Z,hd',hl',r⟩
 .rintro σ H' ⟨ds,xs,W',st,hx,hd,hl,hI⟩;exact B7 W s1 g st hx hd (he ds hl hI) z
theorem nZ{t:TE}(hm:(mp.filterMap id).Nodup)(y:oS mp ρ=dg)(h:Ev G ρ t λ_ x=>∃n:Int,x= .int n/\ -10000<=n/\n<=10000/\jH G dg n.toNat (λi d=>i<n.toNat/\d= .int (0+i)) true gt tc te Θ):aD G ρ (mR (sy (aU t bK)) gt tc te mp) Θ:=λnb σ H Q W z=>
 h nb σ H _ W λf v H1 x ⟨n,ex,h1,h2,q⟩ s1 hv=>by
  subst ex;rw[hv.bT];exact⟨n,rfl,∅,∅,acI W s1 hm y ∅ q z⟩
theorem mC{t:TE}(hm:(mp.filterMap id).Nodup)(y:oS mp ρ=dg)(h:Ev G ρ t λfi x=>∃es,x= .list es/\es.length<=10000/\∀v,jH (G.hd fi (.list es) v) dg es.length (λi d=>es[i]?=some d) fi gt tc te Θ):aD G ρ (mR (qq K t) gt tc te mp) Θ:=λnb σ H Q W z=>
 h nb σ H _ W λfi v H1 x ⟨es,ex,hn,q⟩ s1 hv=>by
  subst ex;obtain⟨fl,I,h0,ht,he⟩:=q v;have W0:=(W.step s1).hd hv;obtain⟨a,xs,rfl,n,hx,hd⟩:=hv.ig;refine⟨a,rfl,⟨xs, .of hx⟩,λacc g=>?_⟩;have e:Wd (G.hd fi (.list es) (.ref a)) nb dg (L2.iY mp σ) H1:=by rw[<-y];exact W0.iY hm
  have W1:=e.more g (o:= .lst []);have hN:=NB.new s1.2 g;have hno:=Iu e g;have pJ:Step G.B H1 (upd H1 acc (.lst [])):= .same s1.2 (dU g);have c:NB G.B a:=jl λz=>n (.inr (.inr (.inl z)));refine R.QX (xs:=xs) (λi σ H=>∃ds ys,Wd (G.hd fi (.list es) (.ref a)) (λx=>nb x\/x=acc) dg σ H/\Step G.B H1 H/\H acc=some (.lst ys)/\ah (G.S (λx=>nb x\/x=acc) fl) H ds ys/\ds.length<=i/\I i ds) ⟨[],[],W1,pJ,aV, .nil,aW _,h0⟩ ?_ ?_ ?_
  .rintro i σ H hi ⟨ds,ys,W,st,_⟩;exact .of (st.1 _ _ c hx)
  .rintro i x σ H hi ⟨ds,ys,W,st,hy,hd',hl,hI⟩;obtain⟨a',j,e',_,h',d'⟩:=W.jF.2.ig;cases e';rw[st.1 _ _ c hx] at h';cases h'
   have D:i<es.length:=by have:=(bH.mp hi).1;have:=d'.length;omega
   obtain⟨u,Z,dx⟩:=d'.get (aL D);rw[hi] at Z;cases Z
   exact Gz (G:=G.hd fi (.list es) (.ref a)) hn D W (.inr rfl) hN hno st g hy hd' hl dx (ht i _ ds (aL D) hl hI) λM H' b j W' l Z hd' hl' r=>⟨b,j,W',l,Z,hd',hl',r⟩
  .rintro σ H' ⟨ds,ys,W',st,hy,hd',hl,hI⟩;rw[hd.length] at hl hI;exact B7 W s1 g st hy hd' (he ds hl hI) z
end aD
end
section
variable{ρ:Rh}{t:TS}{N:List Str}{vs:List V}{ds:List PyData}{nb:ar->Prop}{H:Hp}{Q:VK}{Φ:Pd}{b l:ar}
def l9(h:ah nb H ds xs){i:Nat}{s:Sl}(e:(ds.map (Sl.d false))[i]?=some s):∃v d,xs[i]?=some v/\s= .d false d/\af nb H d v:=by
 rw[bu] at e;obtain⟨d,hd,e⟩:=jJ.mp e;obtain⟨v,hv,q⟩:=h.get hd;exact⟨v,d,hv,e.symm,q⟩
theorem Sv.jy(hl:gZ nb H)(hd:ah nb H ds vs)(G:∀f d v H',Φ f d->dQ H H'->af (λa=>nb a\/(f=true/\H a≠none)) H' d v->Q v H')
  (y:ρ=ds.map (Sl.d false)++au (N.length-ds.length) .no) (h:Sv ⟨none,H,nb,[]⟩ ρ t {nx:=λ_=>Φ true .none,rt:=Φ}):t {nx:=λ_ H'=>Q .aN H',rt:=Q} (start N vs) H:=by
 have hlen:=hd.length;have u:∀{aA L M H'},Wd ⟨none,H,nb,[]⟩ aA L M H'->dQ H H':=λW a o e=>W.old a o (λ_ _ z=>(by cases z)) e;refine h (λ_=>False) _ H _ ⟨λ_ _ z=>(by cases z),λ_ z=>z.elim,λ_ _ _ e=>e,λ_ z=>z.elim,hl,?_,λ_ _ z=>(by cases z),λ_ m=>(by cases m),λi s e=>?_,?_,?_,?_⟩ ⟨λaA L M H' q W=>G _ _ _ _ q (u W) .aN,λ_ _ _ _ q _=>q.elim,λ_ _ _ _ q _=>q.elim,λaA L M f v H' d q W hv=>G f d v H' q (u W) (hv.av λa z=>?_),λ_ _ _ _ _ q _=>q.elim⟩;·rw[y];unfold start;simp[hlen]
 .rw[y] at e;unfold start;by_cases hi:i<ds.length
  .rw[fO (by rw[aj];exact hi)] at e;obtain⟨v,d,hv,rfl,q⟩:=l9 hd e;refine⟨some v,?_,v,rfl,q.av λa z=>?_⟩;·rw[fO (by rw[aj,hlen];exact hi),bu,hv];rfl
   .rcases z with z|z|z|z
    .exact z.elim
    .exact z
    .exact absurd (λ_ _ z=>(by cases z)) z
    .cases z.1
  .rw[fJ (by rw[aj];omega),eY] at e;split at e
   .rename_i h'
    cases e;refine⟨none,?_,trivial⟩;rw[aj] at h';rw[fJ (by rw[aj];omega),eY,if_pos (by rw[aj,hlen];exact h')]
   .cases e
 .intro i j a f as c g cs hij e1;rw[y] at e1;by_cases hi:i<ds.length
  .rw[fO (by rw[aj];exact hi)] at e1;obtain⟨_,_,_,z,_⟩:=l9 hd e1;cases z
  .rw[fJ (by rw[aj];omega),eY] at e1;split at e1<;>cases e1
 .intro i j a f as c g cs hij e1;rw[y] at e1;by_cases hi:i<ds.length
  .rw[fO (by rw[aj];exact hi)] at e1;obtain⟨_,_,_,z,_⟩:=l9 hd e1;cases z
  .rw[fJ (by rw[aj];omega),eY] at e1;split at e1<;>cases e1
 .intro i j c t hij e1;rw[y] at e1;by_cases hi:i<ds.length
  .rw[fO (by rw[aj];exact hi)] at e1;obtain⟨_,_,_,z,_⟩:=l9 hd e1;cases z
  .rw[fJ (by rw[aj];omega),eY] at e1;split at e1<;>cases e1
 .rcases z with z|z
  .exact .inr (.inl z)
  .exact .inr (.inr (.inr z))
theorem Sv.nQ(Z:dO H b l)(hl:gZ nb H)(hb:nb b)(hd:ah nb H ds vs)(G:∀f d v H',Φ f d->bC (Nb b) H H'->dO H' b l->af (λa=>nb a\/(f=true/\H a≠none)) H' d v->Q v H')
    (y:ρ= .aq::ds.map (Sl.d false)++au (N.length-(ds.length+1)) .no) (h:Sv ⟨some (b,l),H,nb,[]⟩ ρ t {nx:=λ_=>Φ true .none,rt:=Φ}):t {nx:=λ_ H'=>Q .aN H',rt:=Q} (start N (.ref b::vs)) H:=by
  have hlen:=hd.length;have C:∀a,a≠b->NB (some (b,l)) a:=λa n b' w e=>by cases e;exact n
  have k:∀a,¬NB (some (b,l)) a->a=b:=λa n=>jl λz=>n (C a z);have bt:∀{aA L M H'},Wd ⟨some (b,l),H,nb,[]⟩ aA L M H'->bC (Nb b) H H':=λW a o n e=>W.old a o (C a n) e;have p:∀{aA L M H'},Wd ⟨some (b,l),H,nb,[]⟩ aA L M H'->dO H' b l:=λW=>W.aq b l rfl;refine h (λ_=>False) _ H _ ⟨λb' w e=>(by cases e;exact Z),λ_ z=>z.elim,λ_ _ _ e=>e,λ_ z=>z.elim,hl,?_,λb' w e=>(by cases e;exact Z),λ_ m=>(by cases m),λi s e=>?_,?_,?_,?_⟩ ⟨λaA L M H' q W=>G _ _ _ _ q (bt W) (p W) .aN,λ_ _ _ _ q _=>q.elim,λ_ _ _ _ q _=>q.elim,λaA L M f v H' d q W hv=>G f d v H' q (bt W) (p W) (hv.av λa z=>?_),λ_ _ _ _ _ q _=>q.elim⟩;· rw[y];unfold start;simp[hlen]
  · rw[y] at e
    unfold start;cases i with
    |zero=>simp at e;subst e;exact⟨some (.ref b),by simp,b,l,rfl,rfl⟩
    | succ i =>
      simp only[lB,kN,bR,dM] at e⊢;by_cases hi:i<ds.length
      · rw[fO (by rw[aj];exact hi)] at e
        obtain⟨v,d,hv,rfl,q⟩:=l9 hd e;refine⟨some v,?_,v,rfl,q.av λa z=>?_⟩;· rw[fO (by rw[aj,hlen];exact hi),bu,hv];rfl
        · rcases z with z|z|z|z
          · exact z.elim
          · exact z
          · rw[k a z];exact hb
          · cases z.1
      · rw[fJ (by rw[aj];omega),eY] at e
        split at e
        · rename_i h'
          cases e;refine⟨none,?_,trivial⟩;rw[aj] at h';rw[fJ (by rw[aj];omega),eY,if_pos (by rw[aj,hlen];exact h')]
        · cases e
  · intro i j a f as c g cs hij e1
    rw[y] at e1;cases i with
    |zero=>simp at e1
    | succ i =>
      simp only[lB,kN] at e1;by_cases hi:i<ds.length
      · rw[fO (by rw[aj];exact hi)] at e1
        obtain⟨_,_,_,z,_⟩:=l9 hd e1;cases z
      · rw[fJ (by rw[aj];omega),eY] at e1
        split at e1<;>cases e1
  · intro i j a f as c g cs hij e1
    rw[y] at e1;cases i with
    |zero=>simp at e1
    | succ i =>
      simp only[lB,kN] at e1;by_cases hi:i<ds.length
      · rw[fO (by rw[aj];exact hi)] at e1
        obtain⟨_,_,_,z,_⟩:=l9 hd e1;cases z
      · rw[fJ (by rw[aj];omega),eY] at e1
        split at e1<;>cases e1
  · intro i j c t hij e1
    rw[y] at e1;cases i with
    |zero=>simp at e1
    | succ i =>
      simp only[lB,kN] at e1;by_cases hi:i<ds.length
      · rw[fO (by rw[aj];exact hi)] at e1
        obtain⟨_,_,_,z,_⟩:=l9 hd e1;cases z
      · rw[fJ (by rw[aj];omega),eY] at e1
        split at e1<;>cases e1
  · rcases z with z|z
    · exact .inr (.inl z)
    · exact .inr (.inr (.inr z))
noncomputable def Jc(b l:ar)(H:Hp):Gx:=⟨some (b,l),H,λ_=>False,[]⟩
def J9(Z:dO H b l):Wd (Jc b l H) (λ_=>False) (.raw (.ref a):: .aq::au m .no) (some (.ref a)::some (.ref b)::au m none) H:=by
  refine⟨λb' w e=>(by cases e;exact Z),λ_ z=>z.elim,λ_ _ _ e=>e,λ_ z=>z.elim,λ_ z=>z.elim,by simp,λb' w e=>(by cases e;exact Z),λ_ m=>(by cases m),λi s e=>?_,?_,?_,?_⟩
  · match i with
    |0=>simp at e;subst e;exact⟨_,rfl,rfl⟩
    |1=>simp at e;subst e;exact⟨some (.ref b),rfl,b,l,rfl,rfl⟩
    | i + 2 =>
      simp only[kN,eY] at e⊢;split at e;· rename_i h;cases e;exact⟨none,if_pos h,trivial⟩
      · cases e
  · intro i j a f as c g cs hij e1
    match i with
    |0=>simp at e1
    |1=>simp at e1
    | i + 2 =>
      simp only[kN,eY] at e1;split at e1<;>cases e1
  · intro i j a f as c g cs hij e1
    match i with
    |0=>simp at e1
    |1=>simp at e1
    | i + 2 =>
      simp only[kN,eY] at e1;split at e1<;>cases e1
  · intro i j c t hij e1
    match i with
    |0=>simp at e1
    |1=>simp at e1
    | i + 2 =>
      simp only[kN,eY] at e1;split at e1<;>cases e1
def Ev.ah1{G:Gx}{K:PySem.W.Frag}(e:ρ[i]?=some (.raw (.ref a)))(N:bL K G.H0 a (ns.map V.int))(h:Φ true (.int ns.length)):Ev G ρ (gk (fT K) (aU (br i) bK)) Φ:=λnb σ H Q W z=>by
 obtain⟨x,e1,h1⟩:=W.ok i _ e;have h1:x=some (.ref a):=h1;subst h1;have hS':bL K H a (ns.map V.int):=by
  rcases N with hr|hk
  .have hn:NB G.B a:=λb l hb z=>by
    subst z;obtain⟨_,_,_,_,_,g1,_⟩:=W.gB _ _ hb;rcases hr with hr|⟨o,hr⟩
    .rw[g1] at hr;have:=HO.lst.inj (gz hr);cases ns with
     |nil=>cases this
     |cons n r=>rw[bR] at this;cases (xG this).1
    .rw[g1] at hr;cases hr
   rcases hr with hr|⟨o,hr⟩
   .exact .inl (.inl (W.old _ _ hn hr))
   .exact .inl (.inr ⟨o,W.old _ _ hn hr⟩)
  .exact .inr hk
 refine⟨.ref a,e1,a,_,rfl, .inl hS',?_⟩;rw[aj];exact z true _ H _ h (.refl W.aq) (.int _)
def Xd{D:Ends}(h2:∀H,D.rt (.bl true) H):yt (Jc b l H) {nx:=λ_=>False,rt:=λ_ d=>d= .bool true} D:=
 ⟨λ_ _ _ _ q _=>q.elim,λ_ _ _ _ q _=>q.elim,λ_ _ _ _ q _=>q.elim,λ_ _ _ f v H d q _ hv=>by subst q;unfold af at hv;subst hv;exact h2 H,λ_ _ _ _ _ q _=>q.elim⟩
end
namespace R
def di{P:Int->Prop}{i:Int}(h:P i):∃j,ba i= .int j/\P j:=⟨i,rfl,h⟩
def db{P:Bool->Prop}{i:Bool}(h:P i):∃j,o3 i= .bool j/\P j:=⟨i,rfl,h⟩
def dl{P:List PyData->Prop}{i:List PyData}(h:P i):∃j,fI i= .list j/\P j:=⟨i,rfl,h⟩
def dt{P:List PyData->Prop}{i:List PyData}(h:P i):∃j,gL i= .tuple j/\P j:=⟨i,rfl,h⟩
def YL{P:List PyData->Prop}{i:List PyData}(h:P i):∃j,(fI i= .list j\/fI i= .tuple j)/\P j:=⟨i, .inl rfl,h⟩
def Vu{P:List PyData->Prop}{i:List PyData}(h:P i):∃j,(gL i= .list j\/gL i= .tuple j)/\P j:=⟨i, .inr rfl,h⟩
def ahO{P:Bool->Prop}{i j:Int}(h:P (decide (i=j))):∃b,jS (.int i) (.int j) b/\P b:=⟨_, .ii i j,h⟩
def VR{P:Bool->Prop}{x y:Bool}(h:P (x==y)):∃b,jS (.bool x) (.bool y) b/\P b:=⟨_, .bb x y,h⟩
def at_{k:Int}{e:PyData}{P:PyData->Prop}(h:cI ds k=some e)(q:P e):∃e,cI ds k=some e/\P e:=⟨e,h,q⟩
def acf{A:Prop}(q:A):([]:List Fd).length<=10000/\A:=⟨⋯,q⟩
def VZ{C A:Prop}(c:C)(q:A):C/\A:=⟨c,q⟩
end R
def jP{F:DF}{Q:VK}{E:XK}(h:cG n F vs H Q E):∃(nb:ar->Prop) (ds:List PyData) (Φ:Pd),gZ nb H/\ah nb H ds vs/\(∀f d v H',Φ f d->dQ H H'->af (λa=>nb a\/(f=true/\H a≠none)) H' d v->Q v H')/\F ds Φ:=by
 obtain⟨_,nb,ds,h1,h2,h3⟩:=h;exact⟨nb,ds,_,h1,h2,λf d v H' q=>q v H',h3⟩
def nj{F:DF}{Q:VK}{E:XK}(h:fV n F vs H Q E):∃(b l:ar) (ws:List V) (nb:ar->Prop) (ds:List PyData) (Φ:Pd),vs= .ref b::ws/\dO H b l/\gZ nb H/\nb b/\ah nb H ds ws/\(∀f d v H',Φ f d->bC (Nb b) H H'->dO H' b l->af (λa=>nb a\/(f=true/\H a≠none)) H' d v->Q v H')/\F ds Φ:=by
 obtain⟨_,b,l,ws,nb,ds,e,Z,h1,hb,h2,h3⟩:=h;exact⟨b,l,ws,nb,ds,_,e,Z,h1,hb,h2,λf d v H' q=>q v H',h3⟩
noncomputable abbrev aB:=List (Int×Int)
noncomputable abbrev Wo:=List (Option Int)
noncomputable abbrev cy(prs:aB):PyData:= .list (prs.map xl)
noncomputable abbrev fL(wd:Wo):PyData:= .list (wd.map aT)
noncomputable abbrev c5(p n:Int)(cs:List aB):PyData:= .tuple [.int p, .int n, .list (cs.map cy)]
def tK(prs:aB)(m:Nat):Prop:=∀pr∈prs,0<=pr.1/\pr.1<m/\Sm pr.2
def jj(wd:Wo):Prop:=∀x,some x∈wd->Sm x
theorem zx{g:Type}{xs:List α}(φ:α->g){k:Int}{m:Nat}(h0:0<=k)(h1:k<m)(hm:m=xs.length):∃x,xs[k.toNat]?=some x/\cI (xs.map φ) k=some (φ x):=by
 have hk:k.toNat<xs.length:=∅
 exact⟨xs[k.toNat],aL hk,jT h0 (by rw[bu,aL hk];rfl)⟩
def fY{α g:Type}{xs:List α}{φ:α->g}{d:g}(h:(xs.map φ)[i]?=some d):∃x,xs[i]?=some x/\d=φ x:=by
 rw[bu] at h;obtain⟨x,hx,e⟩:=jJ.mp h;exact⟨x,hx,e.symm⟩
def xj{α:Type}{xs:List α}{x:α}(h:xs[i]?=some x):xs.take (i+1)=xs.take i++[x]:=by
 rw[EO,h];rfl
def Ej(o:Option Int):ue (aT o)=o.isNone:=by cases o<;>rfl
structure Eu(p b L lt r t:Int):Prop where
 l0:0<L
 r0:0<=r
 lp:L<=p
 rp:r<=p
 lc:∃k,L=lt*b+p*k
 rc:∃k,r=t*b+p*k
 dv:∀d,d∣L->d∣r->d∣p/\d∣b%p
 sz:(t.natAbs:Int)*L+(lt.natAbs:Int)*r<=p
theorem Eu.start{b:Int}(hp:2<=p):Eu p b p 0 (b%p) 1:=by
 have m1:=jM b (show p≠0 by omega);have m2:=jK b (show 0<p by omega);refine⟨∅,m1,Int.le_refl _,∅,⟨1,by rw[um,Int.zero_add,BI]⟩,⟨-(b/p),?_⟩,λd h1 h2=>⟨h1,h2⟩,?_⟩
 .have:=pM b p;rw[vf,vi];omega
 .show(1:Int)*p+0*(b%p)<=p;rw[vf,um];omega
theorem Eu.tb{b L lt r t:Int}(h:Eu p b L lt r t): -p<=t/\t<=p:=by
 have h1:(t.natAbs:Int)*1<=(t.natAbs:Int)*L:=w5 (by have:=h.l0;omega) ∅;have h2:0<=(lt.natAbs:Int)*r:=p6 ∅ h.r0;have:=h.sz;omega
theorem Eu.next{b L lt r t:Int}(h:Eu p b L lt r t)(hr:0<r):Eu p b r t (L-L/r*r) (lt-L/r*t)/\L-L/r*r<r:=by
 have e:=pM L r;have m1:=jM L (show r≠0 by omega);have m2:=jK L hr;have e':L-L/r*r=L%r:=by rw[qd (L/r) r];omega
 have q0:0<=L/r:=vF (by have:=h.l0;omega) ∅;obtain⟨k1,c1⟩:=h.lc;obtain⟨k2,c2⟩:=h.rc;refine⟨⟨hr,∅,h.rp,by have:=h.rp;omega,h.rc,⟨k1-L/r*k2,?_⟩,λd d1 X=>?_,?_⟩,∅⟩
 .rw[A9,oR];generalize L/r=q at*;have z:q*r=q*(t*b)+q*(p*k2):=by rw[<-AV,<-c2]
  have l:q*(t*b)=q*t*b:=(lG q t b).symm;have z2:q*(p*k2)=p*(q*k2):=by rw[<-lG,qd q p,lG]
  omega
 .have a:d∣L:=by
   have z:d∣(L-L/r*r)+L/r*r:=Int.dvd_add X (Int.dvd_mul_of_dvd_right d1);have z2:(L-L/r*r)+L/r*r=L:=∅
   rwa[z2] at z
  exact h.dv d a d1
 .generalize L/r=q at*;have a1:((lt-q*t).natAbs:Int)<=(lt.natAbs:Int)+q*(t.natAbs:Int):=by
   have b1:(lt-q*t).natAbs<=lt.natAbs+(q*t).natAbs:=∅
   have b2:((q*t).natAbs:Int)=q*(t.natAbs:Int):=by
    rw[Iv];have:(q.natAbs:Int)=q:=∅
    rw[o7,this]
   omega
  have a2:((lt-q*t).natAbs:Int)*r<=((lt.natAbs:Int)+q*(t.natAbs:Int))*r:=Int.mul_le_mul_of_nonneg_right a1 ∅;have C:((lt.natAbs:Int)+q*(t.natAbs:Int))*r=(lt.natAbs:Int)*r+q*(t.natAbs:Int)*r:=vk _ _ _;have c:(t.natAbs:Int)*(L-q*r)=(t.natAbs:Int)*L-q*(t.natAbs:Int)*r:=by
   rw[oR,<-lG,qd (t.natAbs:Int) q]
  have:=h.sz;omega
def QH{α:Type}{us:List α}(h:us.length=1):∃a,us=[a]:=by
  cases us with
  |nil=>cases h
  | cons a us =>
    cases us with
    |nil=>exact⟨a,rfl⟩
    |cons _ _=>cases h
def ln2{α:Type}{us:List α}(h:us.length=2):∃a b,us=[a,b]:=by
  cases us with
  |nil=>cases h
  | cons a us =>
    obtain⟨b,rfl⟩:=QH (us:=us) (zC h);exact⟨a,b,rfl⟩
def Sx{α:Type}{us:List α}(h:us.length=3):∃a b c,us=[a,b,c]:=by
  cases us with
  |nil=>cases h
  | cons a us =>
    obtain⟨b,c,rfl⟩:=ln2 (us:=us) (zC h);exact⟨a,b,c,rfl⟩
def N8{α:Type}{us:List α}(h:us.length=4):∃a b c d,us=[a,b,c,d]:=by
  cases us with
  |nil=>cases h
  | cons a us =>
    obtain⟨b,c,d,rfl⟩:=Sx (us:=us) (zC h);exact⟨a,b,c,d,rfl⟩
def Yu{α:Type}{us:List α}(h:us.length=5):∃a b c d e,us=[a,b,c,d,e]:=by
  cases us with
  |nil=>cases h
  | cons a us =>
    obtain⟨b,c,d,e,rfl⟩:=N8 (us:=us) (zC h);exact⟨a,b,c,d,e,rfl⟩
def mU(xs:Array Nat):Prop:=∀(i j x y:Nat),i<j->xs[i]?=some x->xs[j]?=some y->x<y
theorem Fw{xs:Array Nat}{q:Nat}(hr:mU xs):∀(f lo hi:Nat),hi<=xs.size->lo<=hi->hi-lo<=f->(∀i x,i<lo->xs[i]?=some x->x<q)->(∀i x,hi<=i->xs[i]?=some x->q<=x)->
    lo<=eL xs q f lo hi/\eL xs q f lo hi<=hi/\(∀i x,i<eL xs q f lo hi->xs[i]?=some x->x<q)/\(∀i x,eL xs q f lo hi<=i->xs[i]?=some x->q<=x):=by
  intro f;induction f with
  | zero =>
    intro lo hi h1 h2 h3 h4 h5;have e:lo=hi:=∅
    subst e;exact⟨aW _,aW _,h4,h5⟩
  | succ f ih =>
    intro lo hi h1 h2 h3 h4 h5;unfold eL;by_cases hlt:lo<hi
    · rw[if_pos hlt]
      have hm:(lo+hi)/2<xs.size:=∅
      have hg:xs[(lo+hi)/2]?=some xs[(lo+hi)/2]:=nB hm;have l:xs.getD ((lo+hi)/2) q=xs[(lo+hi)/2]:=by rw[ES,hg];rfl
      dsimp only;rw[l];by_cases hc:xs[(lo+hi)/2]<q
      · rw[if_pos hc]
        obtain⟨a1,a2,C,c⟩:=ih ((lo+hi)/2+1) hi h1 ∅ ∅ (λi x g e=>by
          rcases tq i ((lo+hi)/2) with z|z
          · exact xH (hr i _ x _ z e hg) hc
          · have:i=(lo+hi)/2:=∅
            subst this;rw[hg] at e;cases e;exact hc) h5
        exact⟨∅,a2,C,c⟩
      · rw[if_neg hc]
        obtain⟨a1,a2,C,c⟩:=ih lo ((lo+hi)/2) ∅ ∅ ∅ h4 (λi x g e=>by
          rcases tq ((lo+hi)/2) i with z|z
          · exact lV (qi (Kh hc) (hr _ i _ x z hg e))
          · have:i=(lo+hi)/2:=∅
            subst this;rw[hg] at e;cases e;exact Kh hc)
        exact⟨a1,∅,C,c⟩
    · rw[if_neg hlt]
      have e:lo=hi:=∅
      subst e;exact⟨aW _,aW _,h4,h5⟩
theorem below_at{xs:Array Nat}{q:Nat}(hr:mU xs):SetTable.below xs q<=xs.size/\(∀i x,i<SetTable.below xs q->xs[i]?=some x->x<q)/\(∀i x,SetTable.below xs q<=i->xs[i]?=some x->q<=x):=by
 obtain⟨_,h2,h3,h4⟩:=Fw (q:=q) hr xs.size 0 xs.size (aW _) (iP _) ∅ (λi x h=>absurd h (J6 _)) (λi x h e=>by
  have:=(uF.mp e).1;omega)
 exact⟨h2,h3,h4⟩
theorem afW{α:Type}{xs:Array α}{p:Nat}{x:α}(hp:p<=xs.size)(i:Nat):(hM xs p x)[i]?=if i<p then xs[i]? else if i=p then some x else xs[i-1]?:=by
 unfold hM;rw[Array.getElem?_append];have e1:((xs.extract 0 p).push x).size=p+1:=by rw[Array.size_push,DL];omega
 rw[e1];by_cases h1:i<p
 .rw[if_pos (show i<p+1 by omega),if_pos h1,OE,if_neg (by rw[DL];omega),Nt ∅];simp
 .rw[if_neg h1];by_cases h2:i=p;·rw[if_pos (show i<p+1 by omega),if_pos h2,OE,if_pos (by rw[DL];omega)]
  .rw[if_neg (show¬i<p+1 by omega),if_neg h2];by_cases h3:i-(p+1)<xs.size-p;·rw[Nt ∅,<-nB,show p+(i-(p+1))=i-1 by omega]
   .rw[Et (by rw[DL];omega),Et ∅]
theorem mU.insert{xs:Array Nat}{q:Nat}(hr:mU xs)(hq:xs[SetTable.below xs q]?≠some q):mU (hM xs (SetTable.below xs q) q):=by
 obtain⟨h1,h2,h3⟩:=below_at (q:=q) hr;have d:∀i x,SetTable.below xs q<=i->xs[i]?=some x->q<x:=λi x hi e=>by
  rcases J3 (h3 i x hi e) with z|z
  .exact z
  .subst z;rcases J3 hi with z|z
   .have hb:SetTable.below xs q<xs.size:=fX z (lV (uF.mp e).1);have hg:xs[SetTable.below xs q]?=some xs[SetTable.below xs q]:=nB hb;have:=hr _ i _ q z hg e;have:=h3 _ _ (aW _) hg;omega
   .rw[<-z] at e;exact absurd e hq
 intro i j x y hij ex r;rw[afW h1] at ex r;by_cases a:i<SetTable.below xs q
 .rw[if_pos a] at ex;by_cases b:j<SetTable.below xs q;·rw[if_pos b] at r;exact hr i j x y hij ex r
  .rw[if_neg b] at r;by_cases c:j=SetTable.below xs q;·rw[if_pos c] at r;cases r;exact h2 i x a ex
   .rw[if_neg c] at r;exact hr i (j-1) x y ∅ ex r
 .rw[if_neg a] at ex;by_cases c:i=SetTable.below xs q
  .rw[if_pos c] at ex;cases ex
   rw[if_neg ∅,if_neg ∅] at r;exact d (j-1) y ∅ r
  .rw[if_neg c] at ex;rw[if_neg ∅,if_neg ∅] at r;exact hr (i-1) (j-1) x y ∅ ex r
def K6{t:ei}{h:Int}:∀(f:Nat) (p:qa) (j:Nat) (a:Option Nat),(∀d,p.dummy=some d->t.slot d= .dummy)->hQ t ha h f p=some (.empty j a)->t.slot j= .empty/\∀d,a=some d->t.slot d= .dummy:=by
  intro f;induction f with
  |zero=>intro p j a _ e;unfold hQ at e;cases e
  | succ f ih =>
    intro p j a hd e;have b:∀p:qa,(t.advance p).dummy=p.dummy:=λp=>by unfold SetTable.advance;split<;>rfl
    unfold hQ at e;cases hs:t.slot p.j with
    |empty=>rw[hs] at e;cases e;exact⟨hs,hd⟩
    |dummy=>rw[hs] at e;exact ih _ j a (λd h'=>by rw[b] at h';cases h';exact hs) e
    | live i =>
      rw[hs] at e;dsimp only at e;split at e;· cases e
      · exact ih _ j a (λd h'=>by rw[b] at h';exact hd d h') e
def Qo{t:ei}{h:Int}{wd:Bool}(e:t.freeSlot h=some (j,wd)):∀i,t.slot j≠ .live i:=by
 unfold SetTable.freeSlot SetTable.probe at e;intro i z;split at e
 .rename_i j0 dm he
  obtain⟨h1,h2⟩:=K6 (10*SetTable.turns t.mask) (t.probeStart h) j0 dm (λd h'=>by unfold SetTable.probeStart at h';cases h') he;cases dm with
  |none=>cases e;simp at z;rw[h1] at z;cases z
  |some d=>cases e;simp at z;rw[h2 d rfl] at z;cases z
 .cases e
structure gp(bt:Bool)(t:ei):Prop where
 led:bt=false->t.led=true
 GV:t.plain=true->mU t.place
theorem gp.standIn{bt:Bool}{t:ei}(h:gp bt t)(n:Nat):gp bt (t.standIn n):=⟨h.led,λz=>by cases z⟩
def gp.off{t:ei}(h:gp bt t):gp bt {t with plain:=false}:=⟨h.led,λz=>by cases z⟩
theorem gp.put{bt:Bool}{t:ei}{j:Nat}(h:gp bt t)(O:∀i,t.slot j≠ .live i):gp bt (t.put j).1:=by
 refine⟨h.led,λz=>?_⟩;refine mU.insert (h.GV z) λe=>O (SetTable.below t.place j) ?_;unfold SetTable.slot;dsimp only;rw[if_pos (by rw[e];exact beq_self_eq_true _)]
theorem gp.layNew{bt:Bool}{t:ei}{es:Array (Int×ag)}{h:Int}{x:ag}(ok:gp bt t):gp bt (layNew t es h x).2.1:=by
 unfold PySem.layNew;split
 .rename_i slot wd e
  dsimp only;unfold SetTable.orStandIn;split;·exact ok.put (Qo e)
  .exact(ok.put (Qo e)).standIn _
 .exact ok.standIn _
def F6(n:Nat)(φ:Nat->Option Nat):mU (((a4 n).filterMap λj=>(φ j).map (j,·)).map (·.1)).toArray:=by
  have hp:(((a4 n).filterMap λj=>(φ j).map (j,·)).map (·.1)).Pairwise (· < ·):=by
    have hs:List.Sublist (((a4 n).filterMap λj=>(φ j).map (j,·)).map (·.1)) (a4 n):=by
      induction a4 n with
      |nil=>simp
      | cons a r ih =>
        rw[lF];cases φ a with
        |none=>exact ih.cons a
        |some y=>exact ih.cons₂ a
    exact La.sublist hs
  intro i j x y hij ex ey;rw[Uw] at ex ey;obtain⟨hi,rfl⟩:=bH.mp ex;obtain⟨O,rfl⟩:=bH.mp ey;exact tP.mp hp i j hi O hij
def gp.acH{t:ei}(ok:gp bt t):gp bt (kf t es n).2.1:=by
  unfold kf;split
  · rename_i t' order e
    dsimp only;split
    · unfold SetTable.relaid SetTable.laid at e
      cases hl:SetTable.layClean (SetTable.sizeAbove n-1) (es.map (·.1)) with
      |none=>rw[hl] at e;cases e
      | some owner =>
        rw[hl] at e;cases e;exact⟨ok.led,λ_=>F6 _ _⟩
    · exact ok.standIn _
  · exact ok.standIn _
theorem gp.fresh{bt:Bool}:gp bt (.fresh 0 0 (!bt)):=⟨λh=>by rw[h];rfl,λ_ i j x y _ e=>by simp[SetTable.fresh] at e⟩
def ju(bt:Bool)(h:eh)(a:ar):Prop:=∀o es ep t,h.get? a=some o->o.data= .set es ep t->gp bt t
def ju.of{t:ei}(e:h.get? a=some o)(d:o.data= .set es ep t)(k:gp bt t):ju bt h a:=λo' es' f t' e' d'=>by
 rw[e] at e';cases e';rw[d] at d';cases d';exact k
def ju.keep(k:ju bt h a)(e:h.get? a=some o)(e':h'.get? a=some o):ju bt h' a:=λo1 es ep t x d=>by
 rw[e'] at x;cases x;exact k o es ep t e d
section
variable{prog:bo}{w:cx}{A:c4}{E:ag->aw->Prop}{s:aw}{a:ar}{bt:Bool}
noncomputable abbrev IK(prog:bo)(w:cx):=intKind prog w
def Ve{es':Array (Int×ag)}{t t':ei}{T:Int->Bool}(g1:h.get? a=some o)(g2:o.ExactSet)(X:o.data= .set es ep t)(l1:ElemsOf (IK prog w) es'.toList)
  (l2:∀k,T k=true↔∃e∈es'.toList,(IK prog w).is k e.2=true) (i:es'.size<fb) (r:t'.fits es'.size=true) (tk:gp bt t'):
  (∃o',(h.update a (lL es' t')).get? a=some o'/\o'.ExactSet/\o'.data= .set es' (ep+1) t')/\(h.update a (lL es' t')).SetOf (IK prog w) a T es'.size/\ju bt (h.update a (lL es' t')) a:=by
 obtain⟨J,M⟩:=SetOf_store (knd:=IK prog w) (es':=es') (t':=t') (S':=T) g1 g2 X l1 l2 i r;exact⟨⟨_,J,g2,rfl⟩,M, .of J rfl tk⟩
def LV{j:Bool->Sem Unit}(l:∀(b:Bool) (s₁:aw) (Q₁:Unit->aw->Prop),Q₁ () s₁->wpAny (bj prog w) A (j b) Q₁ E s₁){o:Obj}{es:Array (Int×ag)}{ep:Nat}{t:ei}
    (g1:s.heap.get? a=some o) (g2:o.ExactSet) (X:o.data= .set es ep t) {d:Array (Int×ag)} {y:ei} {T:Int->Bool} (l1:ElemsOf (IK prog w) d.toList) (l2:∀k,T k=true↔∃e∈d.toList,(IK prog w).is k e.2=true)
    (i:d.size<fb) (r:y.fits d.size=true) (tk:gp bt y) {wd:Bool} {R:Option Bool->aw->Prop}
    (fin:∀h',eu a s.heap h'->h'.SetOf (IK prog w) a T d.size->ju bt h' a->R (some true) {s with heap:=h'}):
    wpAny (bj prog w) A (do storeSet a d y
                               if(!wd && y.tooFull)=true then do
                                 j (kf y d (et d.size)).2.2
                                 storeSet a (kf y d (et d.size)).1 (kf y d (et d.size)).2.1
                                 pure (some true)
                               else pure (some true)) R E s:=by
  obtain⟨⟨o1,k1,k2,k3⟩,J,M⟩:=Ve (T:=T) g1 g2 X l1 l2 i r tk;have sb:=jq s.heap a (lL d y);refine ae (lS g1 X ?_ (fP i));by_cases c:(!wd && y.tooFull)=true
  · rw[if_pos c]
    have pp:=relayAll_perm y d (et d.size);have pf:=relayAll_fits y d (et d.size);have pt:=tk.acH (es:=d) (n:=et d.size);generalize kf y d (et d.size)=Z at pp pf pt⊢;obtain⟨h,t3,v⟩:=Z;dsimp only at pp pf pt⊢;have sz:h.size=d.size:=by have:=pp.length_eq;rwa[mj,mj] at this
    have f:∀k,T k=true↔∃e∈h.toList,(IK prog w).is k e.2=true:=λk=>(l2 k).trans ⟨λ⟨e,m,z⟩=>⟨e,pp.mem_iff.mpr m,z⟩,λ⟨e,m,z⟩=>⟨e,pp.mem_iff.mp m,z⟩⟩;obtain⟨_,g,O⟩:=Ve (T:=T) k1 k2 k3 (l1.perm pp) f (by rw[sz];exact i) pf pt;refine ae (l _ _ _ (ae (lS k1 k3 ?_ (fP (by rw[sz];exact i)))));rw[sz] at g;exact a3 (fin _ (sb.trans (jq _ a _)) g O)
  · rw[if_neg c]
    exact a3 (fin _ sb J M)
def Tx{S:Int->Bool}{k:Int}{x:ag}{Q:Bool->aw->Prop}(hx:(IK prog w).is k x=true)(sc:x.scannable=true)(N:s.heap.SetOf (IK prog w) a S n)(hT:ju bt s.heap a)(g:n+1<fb)
    (fin:∀h',eu a s.heap h'->h'.SetOf (IK prog w) a (λj=>S j||decide (j=k)) (if S k then n else n+1)->ju bt h' a->Q (!S k) {s with heap:=h'}):
    wpAny (bj prog w) A (setAddHashed a x ((IK prog w).hash k)) Q E s:=by
  obtain⟨o,es,ep,t,g1,g2,X,l1,l2,i,r,sz⟩:=N;have tk:=hT o es ep t g1 X;unfold setAddHashed setAddHashedIn;refine dA (ae (dq g1 X r ?_));dsimp only;rw[if_pos (byScan_of sc i l1)];unfold setAddByScan;refine ae (ae (l3 (ae (wpAny_setScan_of hx g1 X r l1 ?_))));cases C:List.findIdx? (λe=>(IK prog w).is k e.2) es.toList with
  | some j =>
    obtain⟨O,pj,_⟩:=List.findIdx?_eq_some_iff_getElem.mp C;have f:S k=true:=(l2 k).mpr ⟨_,jB O,pj⟩
    have z:=fin s.heap (.refl a s.heap) ⟨o,es,ep,t,g1,g2,X,l1,λj=>by
      rw[Bool.or_eq_true,decide_eq_true_eq,<-l2 j];exact⟨λq=>q.elim id λe=>e▸f, .inl⟩,i,r,by rw[if_pos f];exact sz⟩ hT
    rw[f] at z;exact a3 (a3 z)
  | none =>
    have no:S k=false:=by
      cases q:S k with
      |false=>rfl
      | true =>
        obtain⟨e,m,p⟩:=(l2 k).mp q;rw[List.findIdx?_eq_none_iff.mp C e m] at p;cases p
    have pp:=layNew_perm t es ((IK prog w).hash k) x;have pf:=layNew_fits t es ((IK prog w).hash k) x;have pt:=tk.layNew (es:=es) (h:=(IK prog w).hash k) (x:=x);dsimp only;generalize layNew t es ((IK prog w).hash k) x=Z at pp pf pt⊢;obtain⟨d,l,wd,v⟩:=Z;dsimp only at pp pf pt⊢;rw[l4] at pp;have y:d.size=n+1:=by have:=pp.length_eq;rw[cP,mj,mj,sz] at this;exact this
    have c:∀h',eu a s.heap h'->h'.SetOf (IK prog w) a (λj=>S j||decide (j=k)) d.size->ju bt h' a->Q true {s with heap:=h'}:=λh' M Y u=>by
      have:=fin h' M;rw[no,if_neg eB] at this;rw[y] at Y;exact this Y u
    have B:∀(b:Bool) (s₁:aw) (Q₁:Unit->aw->Prop),Q₁ () s₁->wpAny (bj prog w) A (match b with|true=>rule "set.scan.the-table-gave-way" |false=>pure ()) Q₁ E s₁:=λb s₁ Q₁ q=>by
      cases b;· exact a3 q
      · exact l3 q
    refine ae (B _ _ _ ?_);have e1:=(l1.push hx sc).perm pp;have e2:=mem_push_iff hx l2 pp;have e3:d.size<fb:=by rw[y];exact g
    by_cases pl:l.plain=true
    · rw[if_pos pl,hashByValue_scannable 8 sc]
      refine ae (a3 ?_);refine LV B g1 g2 X e1 e2 e3 ?_ ?_ λh' M Y u=>a3 (c h' M Y u)
      · split
        · exact pf
        · exact SetTable.fits_plain_off pf
      · split
        · exact pt
        · exact pt.off
    · rw[if_neg pl]
      refine ae (a3 ?_);rw[if_pos rfl];exact LV B g1 g2 X e1 e2 e3 pf pt λh' M Y u=>a3 (c h' M Y u)
end
section
variable{prog:bo}{w:cx}{A:c4}{R:Result->aw->Prop}{I:ar}{fp wr:List ar}{G:Array oi->Array oi->Prop}{n:Nat}{P:Nat->ag->Prop}{qr:Nat->aw->Prop}{bt:Bool}
noncomputable abbrev met(val:Nat->Int)(i:Nat):Int->Bool:=λk=>(fe val i).any (· ==k)
theorem WV(W:WalksS prog w A.in1 I fp wr G n P qr)(C:ar)(x:C∉fp)(val:Nat->Int)(hv:∀i v,P i v->∃t,v= .int (val i) t)(g:n+1<fb)(c:Nat):
    ∀(i:Nat) (s:Shared),n-i=c->i<=n->qr i s->s.heap.SetOf (IK prog w) C (met val i) (firstMet val i).length->ju bt s.heap C->
      (∀s',Moved (C::wr) G s s'->s'.heap.SetOf (IK prog w) C (met val n) (fe val n).length->ju bt s'.heap C->R (.ok (.ret .none)) s')->
      codeAny (bj prog w) A (.builtin "set.update.loop" ⟨[.ref C, .ref I],[]⟩) R s:=by
  have B:C∉wr:=λz=>x (W.sub _ z);have up:∀b∈wr,b∈C::wr:=λb z=>bV _ z;have mv:∀{s s':aw} {T:Int->Bool} {m:Nat},Moved wr G s s'->s.heap.SetOf (IK prog w) C T m->ju bt s.heap C->s'.heap.SetOf (IK prog w) C T m/\ju bt s'.heap C:=λd q a=>by
    obtain⟨o,es,ep,t,U,r⟩:=q;exact⟨⟨o,es,ep,t,d.heap C _ B U,r⟩,a.keep U (d.heap C _ B U)⟩
  induction c with
  | zero =>
    intro i s e1 e2 st q a fin;obtain rfl:i=n:=∅
    refine du hX ?_;rw[qu Ir _];refine ae (W.done s _ _ st λs' d=>?_);exact a3 (fin s' (d.mono up) (mv d q a).1 (mv d q a).2)
  | succ c ih =>
    intro i s e1 e2 st q a fin;have lt:i<n:=∅
    refine du hX ?_;rw[qu Ir _];refine ae (W.item i s _ _ lt st λv s' Z l d=>?_);obtain⟨tok,rfl⟩:=hv i v Z;obtain⟨D,u⟩:=mv d q a;show wpAny _ A.in1 (holding [gd (val i) tok] (setAdd C (.int (val i) tok))>>=_) _ _ s';unfold setAdd;refine ae (dA (dA (ae ((IK prog w).pyHash (k:=val i) (rQ _ _ _ _) ?_))));refine Tx (bt:=bt) (s:={s' with toks:=s'.toks+1}) (rQ _ _ _ _) rfl D u (by have:=firstMet_length_le val i;omega) λh' sb M f=>?_;have q3:h'.SetOf (IK prog w) C (met val (i+1)) (fe val (i+1)).length:=SetOf_congr M (λj=>by unfold met;rw[kj,step_any]) (by rw[kj,step_length]);refine a3 ⟨fg Ir _,ih (i+1) _ ∅ lt (W.frame _ s' _ _ l (xD _) λb hb o e=>?_) q3 f λs2 p y h=>?_⟩;· rw[sb.2 b λz:b=C=>x (z▸hb)];exact e
    · refine fin s2 (Moved.trans W.gtrans ((d.mono up).then_heap (xD _) λb o hb e=>?_) p) y h
      rw[sb.2 b λz:b=C=>hb (z▸bZ)];exact e
end
section
variable{prog:bo}{w:cx}{A:c4}{E:ag->aw->Prop}{s:aw}
noncomputable abbrev iC(w:cx):Bool:=w.params.followText "set-order"
noncomputable abbrev nG(w:cx):Obj:={cls:= .type "set",dict:=none,data:= .set #[] 0 (.fresh 0 0 (!iC w))}
def Y7(a:ag){Q₁:ag->aw->Prop}(fin:Q₁ (.ref s.heap.objs.size) {s with heap:=s.heap.push (nG w)}):codeAny (bj prog w) A (.call (.builtin "set.__new__") ⟨[.type "set",a],[]⟩) (wants Q₁ E) s:=by
 refine pa ?_;show wpAny _ A.in1 (do checkBuiltinCall "set.__new__" ⟨[.type "set",a],[]⟩;again (.builtin "set.__new__" ⟨[.type "set",a],[]⟩)) _ _ s;refine ae (wpAny_of_eq (F.newCall_set_1 a) (a3 ⟨fg pb _,du F.entry_set_new ?_⟩));rw[qu pb _];unfold g8.«set.__new__» p1;have hsub:=sub_set_self;obtain⟨hp,g,d,tk,os⟩:=s;dsimp only at fin⊢
 wp_walk
 refine eo (a3 ?_);dsimp only;simp only[newObj];exact ae (wpAny_alloc (a3 (a3 fin)))
theorem aa5{l:ar}(L:A.handled=none)(hl:s.heap.IsList l items)(hi:fH items.toList ns)(g:items.size+1<fb)
    (fin:∀(h':eh) (tk:Nat),h'.SetOf (IK prog w) s.heap.objs.size (met (λi=>ns.getD i 0) items.size) (fe (λi=>ns.getD i 0) items.size).length->ju (iC w) h' s.heap.objs.size->
      (∀b o,b<s.heap.objs.size->s.heap.get? b=some o->h'.get? b=some o)->Q (.ref s.heap.objs.size) {s with heap:=h',toks:=tk}):wpAny (bj prog w) A (call (.type "set") [.ref l]) Q E s:=by
  obtain⟨c,tl,G⟩:=pI.mro;have hmade:=pI.made;have hsub:=pI.sub;have h1:=pI.notType;have h2:=pI.canCreate;have hct:=F.typeCall_set_1 (.ref l);refine ru (pa ?_);show wpAny _ _ (callAny (.type "set") _) _ _ _;refine a3 ⟨Code.quiet_builtin _ (by decide+kernel),du F.entry_type_call ?_⟩;rw[Around.under_plain (weight_type_call_type "set" [.ref l] []) rfl]
  repeat (any_goals (first|assumption|wp_step))
  refine gw (Y7 (.ref l) (E:=E) (Q₁:=λobj s₁=>obj= .ref s.heap.objs.size/\s₁={s with heap:=s.heap.push (nG w)}) ⟨rfl,rfl⟩) λr s₁ hr=>?_;cases r with
  |error e=>exact hr
  | ok fl =>
    cases fl with
    | ret obj =>
      obtain⟨rfl,rfl⟩:=hr;have N:(s.heap.push (nG w)).get? s.heap.objs.size=some (nG w):=iH _ rfl;have hT:Shared.TypeIs {s with heap:=s.heap.push (nG w)} (.ref s.heap.objs.size) "set":=⟨_,N,rfl⟩;have hli:=pI.init.lookup;have hbi:=pI.init.bind (.ref s.heap.objs.size)
      repeat (any_goals (first|assumption|wp_step))
      refine gw (codeAny_call_builtin (R:=wants (λr d=>r= .none/\∃h' tk,d={s with heap:=h',toks:=tk}/\h'.SetOf (IK prog w) s.heap.objs.size (met (λi=>ns.getD i 0) items.size) (fe (λi=>ns.getD i 0) items.size).length/\ju (iC w) h' s.heap.objs.size/\
          (∀b o,b<s.heap.objs.size->s.heap.get? b=some o->h'.get? b=some o)) E) pI.init.plain F.entry_set_init (check_set_init_1 hT ?_)) λm d n=>?_
      · obtain⟨C,D,hcl,nl,T⟩:=hl
        obtain⟨p,u,x,B⟩:=C;simp only at hcl T;subst hcl;subst T;have adi:=dz (nG w) D;have ail:=F.sub_list_set;have aia:=F.sub_list_frozenset;have U:(ea "list"==ea "dict")=false:=⋯
        have h:(s.heap.push (nG w)).IsList l items:=⟨_,adi,rfl,nl,rfl⟩;unfold g8.«set.__init__» noKeywords oo;generalize t:v5=PI
        wp_walk
        subst t;refine hH h (ae (i1 ?_));have k:l<s.heap.objs.size:=cT D;have y:(s.heap.push (nG w)).objs.size=s.heap.objs.size+1:=mY ..;have n1:l≠(s.heap.push (nG w)).objs.size:=by rw[y];exact fM (qY k)
        have n2:s.heap.objs.size∉[(s.heap.push (nG w)).objs.size,l]:=by
          rw[y];intro z;rcases aM.mp z with z|z
          · exact absurd z (fM (oQ _))
          · exact absurd (aF.mp z) (sV k)
        have h3:A.in1.in1.in1.handled=none:=by simp[L]
        have hS':=dz ({cls:= .type "list_iterator",data:= .fields #[.ref l, .int 0 0]}:Obj) N
        refine WV (bt:=iC w) ((wC h3 _ l n1 items).toS) s.heap.objs.size n2 (λi=>ns.getD i 0) (λi v e=>IntsAre.int_at hi i v (by rw[qy];exact e)) g (items.size-0) 0 _ ∅ (iP _)
          ⟨⟨_,iH _ rfl,rfl,rfl⟩,(h.push _)⟩ (SetOf_congr ((setObjOf_fresh (knd:=IK prog w) (!iC w)).setOf hS' (by unfold fb;omega)) (λ_=>rfl) rfl) (.of hS' rfl .fresh) ?_
        intro s' mo q tt;obtain⟨h',g',d',f,a⟩:=s';obtain rfl:g'=s.gens:=mo.gens;obtain rfl:d'=s.drawn:=mo.drawn;obtain rfl:a=s.os:=mo.os;refine a3 (a3 ⟨rfl,h',f,rfl,q,tt,λb o hb e=>?_⟩);refine mo.heap b o (λz=>?_) (dz _ (dz _ e));rcases aM.mp z with z|z
        · exact absurd z (fM hb)
        · rw[y] at z;exact absurd (aF.mp z) (fM (qY hb))
      · cases m with
        |error e=>exact n
        | ok j =>
          cases j with
          | ret r =>
            obtain⟨rfl,h',tk,rfl,J,M,P⟩:=n
            repeat (any_goals (first|assumption|wp_step))
            exact fin _ _ J M P
          |_=>exact n.elim
    |_=>exact hr.elim
end
def lq:Slot "set_iterator" "__next__" "set_iterator.__next__":= .of (owner:="set_iterator") (n:="__next__") (by rw[il,gN];kernel_rfl) (by decide+kernel) (by decide+kernel) (by decide+kernel) (by first|exact .inl (by decide+kernel)|exact .inr (by decide+kernel)) (by rw[hu];kernel_rfl)
def yv:wj table "set_iterator.__next__"=some g8.«set_iterator.__next__» :=entryFor_of_tree (by kernel_rfl)
def Cq(a:ag):r3 "set_iterator.__next__" ⟨[a],[]⟩:=by unfold r3;kernel_rfl
def PL:Slot "set" "__iter__" "set.__iter__":= .of (owner:="set") (n:="__iter__") (by rw[il,gN];kernel_rfl) (by decide+kernel) (by decide+kernel) (by decide+kernel) (by first|exact .inl (by decide+kernel)|exact .inr (by decide+kernel)) (by rw[hu];kernel_rfl)
def ZQ:wj table "set.__iter__"=some g8.«frozenset.__iter__» :=qc (id':="frozenset.__iter__") (by kernel_rfl) rfl (by decide+kernel) (by kernel_rfl)
def acW(a:ag):r3 "set.__iter__" ⟨[a],[]⟩:=by unfold r3;kernel_rfl
def rN:Slot "set_iterator" "__iter__" "set_iterator.__iter__":= .of (owner:="set_iterator") (n:="__iter__") (by rw[il,gN];kernel_rfl) (by decide+kernel) (by decide+kernel) (by decide+kernel) (by first|exact .inl (by decide+kernel)|exact .inr (by decide+kernel)) (by rw[hu];kernel_rfl)
def IU:wj table "set_iterator.__iter__"=some g8.«dict_keyiterator.__iter__» :=qc (id':="dict_keyiterator.__iter__") (by kernel_rfl) rfl (by decide+kernel) (by kernel_rfl)
def E9(a:ag):r3 "set_iterator.__iter__" ⟨[a],[]⟩:=by unfold r3;kernel_rfl
section
variable{prog:bo}{w:cx}{A:c4}{E:ag->aw->Prop}{s:aw}{a it tp:ar}{o:Obj}{es:Array (Int×ag)}{ep:Nat}{t:ei}
theorem E7{α:Type}:∀{l:List α} {i:Nat} (h:i<l.length),(l[i]::l.eraseIdx i).Perm l
  |b::r,0,_=>by simp
  | b :: r, i + 1, h => by
    have:=E7 (l:=r) (i:=i) (by simpa using h);simp only[List.getElem_cons_succ,List.eraseIdx_cons_succ];exact(xf b _ _).trans (this.cons b)
theorem Jg(nx:Nat->Nat):∀(f k:Nat) (l:List α) (out:Array α),l.length<=f->(mM nx f k l out).toList.Perm (out.toList++l):=by
  intro f;induction f with
  | zero =>
    intro k l out h;have:l=[]:=qb.mp ∅;subst this;unfold mM;simp
  | succ f ih =>
    intro k l out h;unfold mM;cases l with
    |nil=>simp
    | cons b r =>
      have hlt:nx k%(b::r).length<(b::r).length:=A0 _ (by simp);rw[aL hlt];dsimp only;refine(ih (k+1) _ _ (by rw[Mx hlt];omega)).trans ?_;rw[l4,u9];refine tx _ ?_;exact E7 hlt
def Se(bt:iC w=true)(g1:s.heap.get? a=some o)(X:o.data= .set es ep t)(u:t.fits es.size=true){i sl:Nat}{Q:Option (ag×Nat)->aw->Prop}
  (h:Q (((ee (w.params.setOrder a ep) es)[i]?).map λe=>(e.2,sl)) s):wpAny (bj prog w) A (ma a sl i ep) Q E s:=by
 unfold ma;refine ae (dq g1 X u ?_);dsimp only;unfold mc;refine ae (ae (eo (a3 ?_)));show wpAny _ _ (if iC w=true then _ else _) _ _ _;rw[if_pos bt];rw[if_neg (by simp)];refine ae ?_;unfold setWalk;refine ae (dq g1 X u ?_);dsimp only;unfold mc;refine ae (ae (eo (a3 ?_)));show wpAny _ _ (if iC w=true then _ else _) _ _ _;rw[if_pos bt];refine ae (eo (a3 ?_));exact a3 h
theorem Ni(bt:iC w=false)(g1:s.heap.get? a=some o)(X:o.data= .set es ep t)(u:t.fits es.size=true)(tk:gp (iC w) t)(pl:t.plain=true\/es.size<=1){i sl:Nat}{Q:Option (ag×Nat)->aw->Prop}
  (h:Q (match es[SetTable.below t.place sl]?,t.place[SetTable.below t.place sl]? with|some (_,x),some j=>some (x,j+1)|_,_=>none) s):wpAny (bj prog w) A (ma a sl i ep) Q E s:=by
 unfold ma;refine ae (dq g1 X u ?_);dsimp only;unfold mc;refine ae (ae (eo (a3 ?_)));show wpAny _ _ (if iC w=true then _ else _) _ _ _;rw[bt,if_neg eB];show wpAny _ _ (if(!t.plain && decide (es.size>1))=true then _ else _) _ _ _
 rw[if_neg (by
  intro z;rw[fF,Bool.not_eq_true',decide_eq_true_eq] at z;rcases pl with p|p
  .rw[p] at z;cases z.1
  .omega)]
 refine ae ?_;show wpAny _ _ (if(!t.led && !es.isEmpty)=true then _ else _) _ _ _;rw[if_neg (by rw[tk.led bt];simp)];refine a3 ?_;exact a3 h
def FR(g1:s.heap.get? a=some o)(X:o.data= .set es ep t)(u:t.fits es.size=true){pl:Nat}{hx:Int}{x:ag}{Q:ag->aw->Prop}(e:es[pl]?=some (hx,x))(h:Q x s):wpAny (bj prog w) A (mN a pl ep) Q E s:=by
 unfold mN;refine ae (dq g1 X u ?_);dsimp only;rw[if_neg (by simp)];rw[e];exact a3 h
def lN(h:eh)(it a:ar)(first:ag)(i n ep:Nat):Prop:=∃o,h.get? it=some o/\o.cls= .type "set_iterator" /\o.data= .fields #[first, .int i 0, .ref a, .int n 0, .int ep 0]
def lN.ty{first:ag}(h:lN s.heap it a first i n ep):s.TypeIs (.ref it) "set_iterator":=let ⟨o,e,c,_⟩:=h;⟨o,e,c⟩
def Cz{first:ag}{b:ag->aw->Prop}(c:lN s.heap it a first i n ep)(g1:s.heap.get? a=some o)(X:o.data= .set es ep t)(u:t.fits es.size=true)(hn:es.size=n)
    (h:wpAny (bj prog w) A (match first with
      | .int slot _ => (do
        match<-ma a slot.toNat i ep with
        | some (x, next) => do
          kk (.ref it) 0 (cf next)
          kk (.ref it) 1 (cf ((i:Int)+1))
          ret x
        | none => do
          kk (.ref it) 2 .none
          sT (<-newExc (.type "StopIteration") []))
      | _ => (do
        let some places<-seqItems? first|g4 "internal:set_iterator"
        match places[i]? with
        | some (.int place _) => do
          let x<-mN a place.toNat ep
          kk (.ref it) 1 (cf ((i:Int)+1))
          ret x
        |some _=>g4 "internal:set_iterator"
        | none => do
          kk (.ref it) 0 (cf 0)
          kk (.ref it) 2 .none
          sT (<-newExc (.type "StopIteration") []))) QQ b s):wpAny (bj prog w) A (g8.«set_iterator.__next__» ⟨[.ref it],[]⟩) QQ b s:=by
  obtain⟨f,U,hc,hd⟩:=c;unfold g8.«set_iterator.__next__»;refine ae (a3 ?_);refine ae (wpAny_fieldsOf U hd ?_);dsimp only;refine ae (js g1 X u ?_);rw[if_neg (by rw[hn];simp)];cases first<;>exact h
def za{first:ag}{i n k:Nat}{x:ag}{f:Obj}{vs:Array ag}(U:h.get? it=some f)(hc:f.cls= .type "set_iterator")(hd:f.data= .fields vs):
  (h.update it (hZ (·.setIfInBounds k x))).get? it=some (hZ (·.setIfInBounds k x) f)/\(hZ (·.setIfInBounds k x) f).cls= .type "set_iterator" /\(hZ (·.setIfInBounds k x) f).data= .fields (vs.setIfInBounds k x):=by
 refine⟨DY _ U (Obj.isFreed_of_fields (kl hd _)),(Obj.cls_mapFields ..).trans hc,kl hd _⟩
def NS{sl nx:Nat}{x:ag}{Q:Option ag->aw->Prop}(c:lN s.heap it a (.int sl 0) i n ep)(g1:s.heap.get? a=some o)(X:o.data= .set es ep t)(u:t.fits es.size=true)(hn:es.size=n)
  (hN:∀(Q:Option (ag×Nat)->aw->Prop) (E:ag->aw->Prop),Q (some (x,nx)) s->wpAny (bj prog w) A.in1 (ma a sl i ep) Q E s)
  (J:∀h',lN h' it a (.int nx 0) (i+1) n ep->(∀b,b≠it->h'.get? b=s.heap.get? b)->Q (some x) {s with heap:=h'}):wpAny (bj prog w) A (i0 (.ref it)) Q E s:=by
 obtain⟨f,U,hc,hd⟩:=id c;unfold i0;refine ae (h7 (ej (name:=dc "__next__") c.ty lq (cv lq c.ty yv ?_ (Cq _))));refine Cz c g1 X u hn ?_;dsimp only;refine ae (hN _ _ ?_);dsimp only;obtain⟨u1,u2,j⟩:=za (first:= .none) (i:=0) (n:=0) (k:=0) (x:=cf nx) U hc hd;obtain⟨R,L,g⟩:=za (first:= .none) (i:=0) (n:=0) (k:=1) (x:=cf ((i:Int)+1)) u1 u2 j;refine ae (eM U hd (by simp) ?_);refine ae (eM u1 j (by simp) ?_);refine a3 ⟨x,rfl,a3 (J _ ⟨_,R,L,?_⟩ λb hb=>?_)⟩;·rw[g];simp[cf]
 .exact((ny _ _ (cY hb))).trans (ny _ _ (cY hb))
def OD{B:c4}{Q:Option ag->aw->Prop}(L:B.handled=none)(J:∀o1 o2,Q none {s with heap:=(s.heap.push o1).push o2}):wpAny (bj prog w) B (do sT (<-newExc (.type "StopIteration") [])) QQ
  (λe s'=>wpAny (bj prog w) A (do if<-isInstance e (.type "StopIteration") then pure none else throw e) Q E s') s:=by
 refine ae ?_;simp only[newExc,newTuple];refine ae (df ?_ (by size_fits));refine ae (m:=qf _ _) (wpAny_of_eq (a:=fo) (by first|rfl|(simp only[qf];rfl)) (df ?_ (by size_fits)));simp only[sT];refine ae (wpAny_handled ?_);rw[L];refine ae (a3 (wpAny_throw ?_));refine ae (ia (b:=true) (T:="StopIteration") ⟨_,iH _ rfl,rfl⟩ isSubtype_stop ?_);exact a3 (J _ _)
def Ro{sl:Nat}{Q:Option ag->aw->Prop}(L:A.handled=none)(c:lN s.heap it a (.int sl 0) i n ep)(g1:s.heap.get? a=some o)(X:o.data= .set es ep t)(u:t.fits es.size=true)(hn:es.size=n)
  (hN:∀(Q:Option (ag×Nat)->aw->Prop) (E:ag->aw->Prop),Q none s->wpAny (bj prog w) A.in1 (ma a sl i ep) Q E s)
  (J:∀h',(∀b o,b≠it->s.heap.get? b=some o->h'.get? b=some o)->Q none {s with heap:=h'}):wpAny (bj prog w) A (i0 (.ref it)) Q E s:=by
 obtain⟨f,U,hc,hd⟩:=id c;unfold i0;refine ae (h7 (ej (name:=dc "__next__") c.ty lq (cv lq c.ty yv ?_ (Cq _))));refine Cz c g1 X u hn ?_;dsimp only;refine ae (hN _ _ ?_);dsimp only;refine ae (eM U hd (by simp) ?_);exact OD (B:=A.in1) L λo1 o2=>J _ λb o hb e=>dz _ (dz _ ((ny _ _ (cY hb)).trans e))
def I7{pl:Nat}{hx:Int}{x:ag}{p:Array ag}{Q:Option ag->aw->Prop}(c:lN s.heap it a (.ref tp) i n ep)(g1:s.heap.get? a=some o)(X:o.data= .set es ep t)(u:t.fits es.size=true)(hn:es.size=n)
  (h:∃d m,s.heap.get? tp=some d/\d.data= .seq p m) (hp:p[i]?=some (.int pl 0)) (he:es[pl]?=some (hx,x))
  (J:∀h',lN h' it a (.ref tp) (i+1) n ep->(∀b,b≠it->h'.get? b=s.heap.get? b)->Q (some x) {s with heap:=h'}):wpAny (bj prog w) A (i0 (.ref it)) Q E s:=by
 obtain⟨f,U,hc,hd⟩:=id c;obtain⟨d,m,l,y⟩:=h;unfold i0;refine ae (h7 (ej (name:=dc "__next__") c.ty lq (cv lq c.ty yv ?_ (Cq _))));refine Cz c g1 X u hn ?_;dsimp only;refine ae (qj l y ?_);dsimp only;rw[hp];dsimp only;refine ae (FR g1 X u (by simpa using he) ?_);obtain⟨R,L,g⟩:=za (first:= .none) (i:=0) (n:=0) (k:=1) (x:=cf ((i:Int)+1)) U hc hd;refine ae (eM U hd (by simp) (a3 ⟨x,rfl,a3 (J _ ⟨_,R,L,?_⟩ λb hb=>ny _ _ (cY hb))⟩));rw[g];simp[cf]
def TB{p:Array ag}{Q:Option ag->aw->Prop}(L:A.handled=none)(c:lN s.heap it a (.ref tp) i n ep)(g1:s.heap.get? a=some o)(X:o.data= .set es ep t)(u:t.fits es.size=true)(hn:es.size=n)
  (h:∃d m,s.heap.get? tp=some d/\d.data= .seq p m) (hp:p[i]?=none)
  (J:∀h',(∀b o,b≠it->s.heap.get? b=some o->h'.get? b=some o)->Q none {s with heap:=h'}):wpAny (bj prog w) A (i0 (.ref it)) Q E s:=by
 obtain⟨f,U,hc,hd⟩:=id c;obtain⟨d,m,l,y⟩:=h;unfold i0;refine ae (h7 (ej (name:=dc "__next__") c.ty lq (cv lq c.ty yv ?_ (Cq _))));refine Cz c g1 X u hn ?_;dsimp only;refine ae (qj l y ?_);dsimp only;rw[hp];dsimp only;obtain⟨u1,u2,j⟩:=za (first:= .none) (i:=0) (n:=0) (k:=0) (x:=cf 0) U hc hd;refine ae (eM U hd (by simp) (ae (eM u1 j (by simp) ?_)));exact OD (B:=A.in1) L λo1 o2=>J _ λb o hb e=>dz _ (dz _ ((ny _ _ (cY hb)).trans ((ny _ _ (cY hb)).trans e)))
end
noncomputable def slotAt(xs:Array Nat):Nat->Nat
 |0=>0
 |i+1=>xs.getD i 0+1
def Wi(xs:Array Nat):slotAt xs 0=0:=rfl
def R6(xs:Array Nat)(i:Nat):slotAt xs (i+1)=xs.getD i 0+1:=rfl
theorem M6{xs:Array Nat}(hr:mU xs){i:Nat}(hi:i<=xs.size):SetTable.below xs (slotAt xs i)=i:=by
  obtain⟨h1,h2,h3⟩:=below_at (q:=slotAt xs i) hr;have g:∀{j:Nat},j<xs.size->∃y,xs[j]?=some y/\xs.getD j 0=y:=λ{j} O=>⟨xs[j],nB O,by rw[ES,nB O];rfl⟩;rcases HQ (SetTable.below xs (slotAt xs i)) i with z|z|z
  · obtain⟨y,e,_⟩:=g (fX z hi)
    have:=h3 _ y (aW _) e;cases i with
    |zero=>omega
    | succ i =>
      obtain⟨a,e',d'⟩:=g (j:=i) ∅;have es:=R6 xs i;rw[d'] at es;rcases J3 (Nat.le_of_lt_succ z) with z|z
      · have:=hr _ _ _ _ z e e';omega
      · rw[z,e'] at e;cases e;omega
  · exact z
  · obtain⟨y,e,d⟩:=g (j:=i) ∅
    have:=h2 i y z e;cases i with
    |zero=>rw[Wi] at this;omega
    | succ i =>
      obtain⟨a,e',d'⟩:=g (j:=i) ∅;rw[R6,d'] at this;have:=hr i (i+1) _ _ ∅ e' e;omega
section
variable{prog:bo}{w:cx}{a I tp:ar}{o:Obj}{es:Array (Int×ag)}{ep:Nat}{t:ei}
def To(h:t.fits es.size=true):t.place.size=es.size:=by
 unfold SetTable.fits at h;rw[fF] at h;exact eq_of_beq h.1
theorem xt(L:A.handled=none)(bt:iC w=true)(X:o.data= .set es ep t)(u:t.fits es.size=true)(U:a≠I):
  Walks prog w A I [I,a] [I] es.size (λi v=>((ee (w.params.setOrder a ep) es).toList.map (·.2))[i]?=some v) (λi h=>lN h I a (.int (0:Nat) 0) i es.size ep/\h.get? a=some o) where
 sub:=λb hb=>by simp at hb;simp[hb]
 frame:=λi h h' st hk=>by
  obtain⟨⟨f,h1,h2,h3⟩,h4⟩:=st;exact⟨⟨f,hk I (by simp) _ h1,h2,h3⟩,hk a (by simp) _ h4⟩
 item:=λi s Q E hi st J=>by
  have hsz:(ee (w.params.setOrder a ep) es).toList.length=es.size:=by
   have:=(Jg (w.params.setOrder a ep) es.size 0 es.toList #[] (by simp)).length_eq;simpa[ee] using this
  have hlt:i<(ee (w.params.setOrder a ep) es).toList.length:=∅
  have e1:(ee (w.params.setOrder a ep) es)[i]?=some (ee (w.params.setOrder a ep) es).toList[i]:=by rw[<-qy];exact aL hlt
  refine NS st.1 st.2 X u rfl (x:=(ee (w.params.setOrder a ep) es).toList[i].2) (nx:=0) (λQ E q=>Se bt st.2 X u (by rw[e1];exact q)) λh' M Y=>?_;refine J _ h' s.toks (by rw[bu,aL hlt];rfl) ⟨M,(Y a U).trans st.2⟩ λb o' hb e=>(Y b (λz=>hb (by simp[z]))).trans e
 done:=λs Q E st J=>by
  have hsz:(ee (w.params.setOrder a ep) es).toList.length=es.size:=by
   have:=(Jg (w.params.setOrder a ep) es.size 0 es.toList #[] (by simp)).length_eq;simpa[ee] using this
  refine Ro L st.1 st.2 X u rfl (λQ E q=>Se bt st.2 X u (by rw[<-qy,eO ∅];exact q)) λh' M=>J h' s.toks λb o' hb e=>M b o' (λz=>hb (by simp[z])) e
 self:=λi s Q E st J=>by
  refine gb st.1.ty rN (cv rN st.1.ty IU ?_ (E9 _));exact a3 ⟨_,rfl,"set_iterator",_,st.1.ty,lq.lookup,J⟩
theorem R8(L:A.handled=none)(bt:iC w=false)(X:o.data= .set es ep t)(u:t.fits es.size=true)(tk:gp (iC w) t)(pl:t.plain=true\/es.size<=1)(U:a≠I):
  Walks prog w A I [I,a] [I] es.size (λi v=>(es.toList.map (·.2))[i]?=some v) (λi h=>lN h I a (.int (slotAt t.place i) 0) i es.size ep/\h.get? a=some o) where
 sub:=λb hb=>by simp at hb;simp[hb]
 frame:=λi h h' st hk=>by
  obtain⟨⟨f,h1,h2,h3⟩,h4⟩:=st;exact⟨⟨f,hk I (by simp) _ h1,h2,h3⟩,hk a (by simp) _ h4⟩
 item:=λi s Q E hi st J=>by
  have hps:=To u;have hr:mU t.place:=by
   rcases pl with p|p
   .exact tk.GV p
   .intro i j x y hij ex ey;have:=(uF.mp ey).1;omega
  have hlt:i<es.toList.length:=by simpa using hi
  have e1:es[i]?=some es.toList[i]:=by rw[<-qy];exact aL hlt
  have e2:t.place[i]?=some (t.place.getD i 0):=by rw[ES,nB ∅];rfl
  refine NS st.1 st.2 X u rfl (x:=es.toList[i].2) (nx:=slotAt t.place (i+1)) (λQ E q=>Ni bt st.2 X u tk pl (by rw[M6 hr ∅,e1,e2];exact q)) λh' M Y=>?_;refine J _ h' s.toks (by rw[bu,aL hlt];rfl) ⟨M,(Y a U).trans st.2⟩ λb o' hb e=>(Y b (λz=>hb (by simp[z]))).trans e
 done:=λs Q E st J=>by
  have hps:=To u;have hr:mU t.place:=by
   rcases pl with p|p
   .exact tk.GV p
   .intro i j x y hij ex ey;have:=(uF.mp ey).1;omega
  refine Ro L st.1 st.2 X u rfl (λQ E q=>Ni bt st.2 X u tk pl (by rw[M6 hr ∅,Et (aW _)];exact q)) λh' M=>J h' s.toks λb o' hb e=>M b o' (λz=>hb (by simp[z])) e
 self:=λi s Q E st J=>by
  refine gb st.1.ty rN (cv rN st.1.ty IU ?_ (E9 _));exact a3 ⟨_,rfl,"set_iterator",_,st.1.ty,lq.lookup,J⟩
theorem aeQ{ks:List Nat}(L:A.handled=none)(X:o.data= .set es ep t)(u:t.fits es.size=true)(hk:ks.Perm (a4 es.size))(U:a≠I)(C:tp≠I):
    Walks prog w A I [I,a,tp] [I] es.size (λi v=>((ks.filterMap (es[·]?)).map (·.2))[i]?=some v) (λi h=>lN h I a (.ref tp) i es.size ep/\h.get? a=some o/\∃d m,h.get? tp=some d/\d.data= .seq (ks.map λ(k:Nat)=>cf k).toArray m) where
  sub:=λb hb=>by simp at hb;simp[hb]
  frame:=λi h h' st hk=>by
    obtain⟨⟨f,h1,h2,h3⟩,h4,d,m,h5,h6⟩:=st;exact⟨⟨f,hk I (by simp) _ h1,h2,h3⟩,hk a (by simp) _ h4,d,m,hk tp (by simp) _ h5,h6⟩
  item:=λi s Q E hi st J=>by
    have hlen:ks.length=es.size:=by rw[hk.length_eq];simp
    have B:∀k∈ks,k<es.size:=λk m=>by simpa using hk.mem_iff.mp m
    have g:i<ks.length:=∅
    have hki:=B ks[i] (jB g);have e1:es[ks[i]]?=some es[ks[i]]:=nB hki;have c:∀(l:List Nat),(∀k∈l,k<es.size)->∀j (O:j<l.length),(l.filterMap (es[·]?))[j]?=es[l[j]]?:=by
      intro l;induction l with
      |nil=>intro _ j O;simp at O
      | cons b r ih =>
        intro hl j O;have hb:=hl b (bZ ..);rw[lF,nB hb];cases j with
        |zero=>simp[nB hb]
        |succ j=>simpa using ih (λk m=>hl k (bV _ m)) j (by simpa using O)
    refine I7 st.1 st.2.1 X u rfl st.2.2 (pl:=ks[i]) (hx:=es[ks[i]].1) (x:=es[ks[i]].2) (by simp[aL g,cf]) e1 λh' M Y=>?_;obtain⟨d,m,t1,y⟩:=st.2.2;refine J _ h' s.toks ?_ ⟨M,(Y a U).trans st.2.1,d,m,(Y tp C).trans t1,y⟩ λb o' hb e=>(Y b (λz=>hb (by simp[z]))).trans e;rw[bu,c ks B i g,e1];rfl
  done:=λs Q E st J=>by
    have hlen:ks.length=es.size:=by rw[hk.length_eq];simp
    exact TB L st.1 st.2.1 X u rfl st.2.2 (by simp;omega) λh' M=>J h' s.toks λb o' hb e=>M b o' (λz=>hb (by simp[z])) e
  self:=λi s Q E st J=>by
    refine gb st.1.ty rN (cv rN st.1.ty IU ?_ (E9 _));exact a3 ⟨_,rfl,"set_iterator",_,st.1.ty,lq.lookup,J⟩
end
section
variable{prog:bo}{w:cx}{A:c4}{E:ag->aw->Prop}{s:aw}{a:ar}{o:Obj}{es:Array (Int×ag)}{ep:Nat}{t:ei}
theorem M9{α:Type}:∀l:List α,(a4 l.length).filterMap (λi=>l[i]?)=l
  |[]=>rfl
  | x :: l => by
    have:=M9 l;rw[dM,KL,lF,List.filterMap_map];simpa[md] using this
def Rw{a:Source}{Q:Nat->aw->Prop}(hn:n≠0)(h:∀i d',i<n->Q i {s with drawn:=d'}):wpAny (bj prog w) A (choose a n) Q E s:=λΓ p _=>⟨hn,h _ _ (A0 _ (km hn))⟩
theorem Qh{α:Type}:∀(n:Nat) (xs:List α) (s:aw) (Q:List α->aw->Prop),xs.length<=n->(∀ks d',ks.Perm xs->Q ks {s with drawn:=d'})->wpAny (bj prog w) A (pd n xs) Q E s
  | 0, xs, s, Q, hl, h => by
    have:xs=[]:=qb.mp ∅;subst this;unfold pd;exact a3 (h [] s.drawn .nil)
  | n + 1, [], s, Q, hl, h => by
    unfold pd;exact a3 (h [] s.drawn .nil)
  | n + 1, x :: xs, s, Q, hl, h => by
    unfold pd;refine ae (Rw (by simp) λi d' hi=>?_);rw[aL hi];dsimp only;refine ae (Qh n _ _ _ (by rw[Mx hi];simp at hl⊢;omega) λks X hk=>?_);exact a3 (h _ X ((hk.cons _).trans (E7 hi)))
def Xh(g1:s.heap.get? a=some o)(X:o.data= .set es ep t)(u:t.fits es.size=true){Q:Bool->aw->Prop}(h:Q (!iC w &&(!t.plain && decide (es.size>1))) s):wpAny (bj prog w) A (setDrawn a) Q E s:=by
 unfold setDrawn;refine ae (dq g1 X u ?_);dsimp only;unfold mc;refine ae (ae (eo (a3 ?_)));exact a3 h
def Rx(g1:s.heap.get? a=some o)(X:o.data= .set es ep t)(u:t.fits es.size=true){Q:Nat->aw->Prop}(h:Q ep s):wpAny (bj prog w) A (setEpoch a) Q E s:=by
 unfold setEpoch;exact ae (dq g1 X u (a3 h))
theorem xZ(hb:es.size<fb)(g1:s.heap.get? a=some o)(g2:o.ExactSet)(X:o.data= .set es ep t)(u:t.fits es.size=true)(tk:gp (iC w) t)
    (J:∀(I:ar) (h':eh) d' (items:List ag) (fp:List ar) (qr:Nat->eh->Prop),(∀b o,s.heap.get? b=some o->h'.get? b=some o)->s.heap.objs.size<=I->(∀b∈fp,b=a\/s.heap.objs.size<=b)->I∈fp->(∀b∈fp,b<h'.objs.size)->items.Perm (es.toList.map (·.2))->
      (∀B:c4,B.handled=none->Walks prog w B I fp [I] items.length (λi v=>items[i]?=some v) qr)->qr 0 h'->Q (.ref I) {s with heap:=h',drawn:=d'}):wpAny (bj prog w) A (v5 (.ref a)) Q E s:=by
  have hT:s.TypeIs (.ref a) "set":=⟨o,g1,g2.1⟩;have hlt:=cT g1;refine gb hT PL (cv PL hT ZQ ?_ (acW _));unfold g8.«frozenset.__iter__»;unfold td slotArgs;simp only[List.isEmpty_nil,Bool.not_true,kn,↓reduceIte,bind_assoc,ph,bne_self_eq_false];unfold r4 r7;refine ae (a3 ?_)
  try dsimp only
  refine ae (a3 ?_);refine ae (ae (js g1 X u (a3 ?_)));refine ae (Xh g1 X u ?_);by_cases c:(!iC w &&(!t.plain && decide (es.size>1)))=true
  · rw[if_pos c]
    refine ae (Qh es.size (a4 es.size) s _ (by simp) λks d' hk=>?_);unfold newTuple;refine ae (df ?_ ?_)
    rotate_left
    · have f:ks.length=es.size:=by rw[hk.length_eq];simp
      show(dj (λ(i:Nat)=>cf i) ks).toArray.size<=sizeLine;rw[fk,aj,f];exact fP hb
    have vH:=dz ({cls:= .type "tuple",data:= .seq (ks.map λ(i:Nat)=>cf i).toArray}:Obj) g1;refine ae (Rx (s:={s with heap:=_,drawn:=d'}) vH X u ?_);unfold newFields;refine ae (df ?_);have f:ks.length=es.size:=by rw[hk.length_eq];simp
    have fin:=J;clear J;have y:(s.heap.push ({cls:= .type "tuple",data:= .seq (ks.map λ(i:Nat)=>cf i).toArray}:Obj)).objs.size=s.heap.objs.size+1:=mY ..;have h:(s.heap.push ({cls:= .type "tuple",data:= .seq (ks.map λ(i:Nat)=>cf i).toArray}:Obj)).get? s.heap.objs.size=some {cls:= .type "tuple",data:= .seq (ks.map λ(i:Nat)=>cf i).toArray}:=iH _ rfl;have j:∀b o,s.heap.get? b=some o->(s.heap.push ({cls:= .type "tuple",data:= .seq (ks.map λ(i:Nat)=>cf i).toArray}:Obj)).get? b=some o:=λb o e=>dz _ e;generalize g:s.heap.push ({cls:= .type "tuple",data:= .seq (ks.map λ(i:Nat)=>cf i).toArray}:Obj)=h1 at vH y h j⊢;have gI:(h1.push ({cls:= .type "set_iterator",data:= .fields #[.ref s.heap.objs.size,cf 0, .ref a,cf es.size,cf ep]}:Obj)).get? h1.objs.size=some {cls:= .type "set_iterator",data:= .fields #[.ref s.heap.objs.size,cf 0, .ref a,cf es.size,cf ep]}:=iH _ rfl;have gS:=dz ({cls:= .type "set_iterator",data:= .fields #[.ref s.heap.objs.size,cf 0, .ref a,cf es.size,cf ep]}:Obj) vH;have WD:=dz ({cls:= .type "set_iterator",data:= .fields #[.ref s.heap.objs.size,cf 0, .ref a,cf es.size,cf ep]}:Obj) h;have l:(h1.push ({cls:= .type "set_iterator",data:= .fields #[.ref s.heap.objs.size,cf 0, .ref a,cf es.size,cf ep]}:Obj)).objs.size=h1.objs.size+1:=mY ..;subst g;refine a3 ⟨_,rfl,"set_iterator",_,⟨_,gI,rfl⟩,lq.lookup,?_⟩;have pp:(ks.filterMap (es[·]?)).Perm es.toList:=by
      have:=hk.filterMap (es[·]?);have e:(a4 es.size).filterMap (es[·]?)=es.toList:=by
        have:=M9 es.toList;simpa using this
      rwa[e] at this
    have hn:((ks.filterMap (es[·]?)).map (·.2)).length=es.size:=by rw[aj,pp.length_eq];simp
    have uD:=Gf (oQ s.heap.objs.size) y.symm;refine fin _ _ d' ((ks.filterMap (es[·]?)).map (·.2)) [_,a,s.heap.objs.size] _ (λb o e=>dz _ (j b o e)) (lV uD) (λb m=>?_) (bZ ..) (λb m=>?_) (pp.map _) (λB Z=>by rw[hn];exact aeQ Z X u hk (fM (xH hlt uD)) (fM uD)) ?_
    · rcases aM.mp m with e|m
      · exact .inr (by rw[e];exact lV uD)
      · rcases aM.mp m with e|m
        · exact .inl e
        · exact .inr (vS (aF.mp m).symm)
    · refine Gf ?_ l.symm
      rcases aM.mp m with e|m
      · rw[e];exact oQ _
      · rcases aM.mp m with e|m
        · rw[e];exact qY (xH hlt uD)
        · rw[aF.mp m];exact qY uD
    · exact⟨⟨_,gI,rfl,rfl⟩,gS,_,_,WD,rfl⟩
  · rw[if_neg c]
    refine ae (a3 ?_);refine ae (Rx g1 X u ?_);unfold newFields;refine ae (df ?_);have gI:(s.heap.push ({cls:= .type "set_iterator",data:= .fields #[cf 0,cf 0, .ref a,cf es.size,cf ep]}:Obj)).get? s.heap.objs.size=some {cls:= .type "set_iterator",data:= .fields #[cf 0,cf 0, .ref a,cf es.size,cf ep]}:=iH _ rfl;have gS:=dz ({cls:= .type "set_iterator",data:= .fields #[cf 0,cf 0, .ref a,cf es.size,cf ep]}:Obj) g1;have d:∀b∈[s.heap.objs.size,a],b=a\/s.heap.objs.size<=b:=λb m=>by
      rcases aM.mp m with e|m
      · exact .inr (vS e.symm)
      · exact .inl (aF.mp m)
    have hsz:(s.heap.push ({cls:= .type "set_iterator",data:= .fields #[cf 0,cf 0, .ref a,cf es.size,cf ep]}:Obj)).objs.size=s.heap.objs.size+1:=mY ..;have k:∀b∈[s.heap.objs.size,a],b<(s.heap.push ({cls:= .type "set_iterator",data:= .fields #[cf 0,cf 0, .ref a,cf es.size,cf ep]}:Obj)).objs.size:=λb m=>by
      rw[hsz];rcases aM.mp m with e|m
      · rw[e];exact oQ _
      · rw[aF.mp m];exact qY hlt
    refine a3 ⟨_,rfl,"set_iterator",_,⟨_,gI,rfl⟩,lq.lookup,?_⟩;cases bt:iC w with
    | true =>
      have pp:(ee (w.params.setOrder a ep) es).toList.Perm es.toList:=by simpa[ee] using Jg (w.params.setOrder a ep) es.size 0 es.toList #[] (by simp)
      have hn:((ee (w.params.setOrder a ep) es).toList.map (·.2)).length=es.size:=by rw[aj,pp.length_eq];simp
      refine J _ _ s.drawn ((ee (w.params.setOrder a ep) es).toList.map (·.2)) [s.heap.objs.size,a] _ (λb o e=>dz _ e) (aW _) d (by simp) k (pp.map _) (λB Z=>by rw[hn];exact xt Z bt X u (fM hlt)) ?_;exact⟨⟨_,gI,rfl,rfl⟩,gS⟩
    | false =>
      have pl:t.plain=true\/es.size<=1:=by
        rw[bt,qk,Ju] at c;cases hp:t.plain with
        |true=>exact .inl rfl
        | false =>
          rw[hp,qk,Ju,decide_eq_true_eq] at c;exact .inr ∅
      have hn:(es.toList.map (·.2)).length=es.size:=by simp
      refine J _ _ s.drawn (es.toList.map (·.2)) [s.heap.objs.size,a] _ (λb o e=>dz _ e) (aW _) d (by simp) k (.refl _) (λB Z=>by rw[hn];exact R8 Z bt X u tk pl (fM hlt)) ?_;exact⟨⟨_,gI,rfl,rfl⟩,gS⟩
end
section
variable{prog:bo}{w:cx}{A:c4}{E:ag->aw->Prop}{s:aw}{a:ar}{o:Obj}{es:Array (Int×ag)}{ep:Nat}{t:ei}
def Hk{Q:Bool->aw->Prop}(hT:s.TypeIs (.ref a) "set")(h:Q false s):wpAny (bj prog w) A (g5 (.ref a)) Q E s:=by
 unfold g5;refine ae (pk hT PySem.F.slot_set_len.lookup ?_);generalize c:("set.__len__":String)=id0
 wp_delta
 rw[show splitId id0=some ("set","__len__") from by subst c;decide+kernel];subst c;refine ae (ia (b:=true) (T:="set") hT (by rw[hu];kernel_rfl) ?_);refine ip (λz=>absurd z ⋯) λ_=>ip (λ_=>?_) λz=>absurd (by decide+kernel) z;exact ae (wpAny_typeOf hT (a3 h))
theorem Nv{items:List ag}{acc:Array ag}(h:ItemsOf (λi v=>items[i]?=some v) acc items.length):acc.toList=items:=by
 apply iu;intro i;by_cases hi:i<acc.size
 .have e:acc[i]?=some acc[i]:=nB hi;rw[qy,e,h.2 i _ e]
 .have:=h.1;rw[eO (by simp;omega),eO ∅]
def IJ{Q:List ag->aw->Prop}(L:A.handled=none)(hb:es.size<fb)(g1:s.heap.get? a=some o)(g2:o.ExactSet)(X:o.data= .set es ep t)(u:t.fits es.size=true)(tk:gp (iC w) t)
  (J:∀h' d' tk' items,(∀b o,s.heap.get? b=some o->h'.get? b=some o)->s.heap.objs.size<=h'.objs.size->items.Perm (es.toList.map (·.2))->Q items {s with heap:=h',drawn:=d',toks:=tk'}):wpAny (bj prog w) A (vt (.ref a)) Q E s:=by
 have hlt:=cT g1;unfold vt;refine ae (i1 (du L5 ?_));rw[qu Lp _];show wpAny _ A.in1 (vb []>>=λl=>again (.builtin "list.__iadd__" ⟨[l, .ref a],[]⟩)) _ _ s;refine ae (df ?_);refine a3 ⟨fg Ar _,du Ot ?_⟩;rw[qu Ar _];have j:(s.heap.push ({cls:= .type "list",data:= .seq ([]:List ag).toArray}:Obj)).get? s.heap.objs.size=some {cls:= .type "list",data:= .seq ([]:List ag).toArray}:=iH _ rfl;have gA:=dz ({cls:= .type "list",data:= .seq ([]:List ag).toArray}:Obj) g1;have i:(s.heap.push ({cls:= .type "list",data:= .seq ([]:List ag).toArray}:Obj)).objs.size=s.heap.objs.size+1:=mY ..;show wpAny _ A.in1 (eC (.ref s.heap.objs.size) (.ref a) (.ref s.heap.objs.size)) _ _ {s with heap:=s.heap.push ({cls:= .type "list",data:= .seq ([]:List ag).toArray}:Obj)};have f:∀b o,s.heap.get? b=some o->(s.heap.push ({cls:= .type "list",data:= .seq ([]:List ag).toArray}:Obj)).get? b=some o:=λb o e=>dz _ e;generalize s.heap.push ({cls:= .type "list",data:= .seq ([]:List ag).toArray}:Obj)=h1 at j gA i f⊢;unfold eC;refine ae (wpAny_typeOf (T:="set") ⟨o,gA,g2.1⟩ ?_);have n1:sg (.ref s.heap.objs.size) (.ref a)=false:=by
  show(s.heap.objs.size==a)=false;exact beq_eq_false_iff_ne.mpr (sV hlt)
 have n2:(ea "set"==ea "list")=false:=⋯
 have K:(ea "set"==ea "tuple")=false:=⋯
 simp only[n1,n2,K,qh,kn,if_false];refine ae (xZ (s:={s with heap:=h1}) hb gA g2 X u tk λI h2 d' items fp qr k1 k2 k3 k k5 pp W st=>?_);have gA2:=k1 _ _ gA;have Iq:=k1 _ _ j;refine ae (dA (Hk (s:={s with heap:=h2,drawn:=d'}) ⟨o,gA2,g2.1⟩ ?_));have g:s.heap.objs.size<h1.objs.size:=Gf (oQ _) i.symm;have nS:s.heap.objs.size∉fp:=λm=>by
  rcases k3 _ m with e|e
  .exact absurd e (sV hlt)
  .exact absurd (fX g e) (lg _)
 have D:items.length<=sizeLine:=by
  rw[pp.length_eq,aj,mj];exact fP hb
 have key:∀(h3:eh) (c:Nat),qr 0 h3->(∀b o,b≠s.heap.objs.size->h2.get? b=some o->h3.get? b=some o)->h3.get? s.heap.objs.size=some {cls:= .type "list",data:= .seq #[] c}->
   codeAny (bj prog w) A (.builtin "list.extend.loop" ⟨[.ref s.heap.objs.size, .ref I, .ref s.heap.objs.size],[]⟩) (λr s'=>match r with
    | .ok (.ret v)=>wpAny (bj prog w) A (match v with| .ref x=>(do match(<-load x).data with| .seq xs _=>pure xs.toList|_=>g4 "internal:collect")|_=>g4 "internal:collect") Q E s'
    | .ok _=>False
    | .error e=>E e s') {s with heap:=h3,drawn:=d'}:=by
  intro h3 c st3 q1 q2;refine codeAny_extend_loopS ((W A.in1 L).toS) D _ nS _ items.length 0 _ #[] c rfl (iP _) st3 q2 (ItemsOf.nil _) λs' acc c' d P y=>?_;refine ae (rr P (a3 ?_));rw[Nv y,Moved.eq_with d];refine J s'.heap d' s'.toks items (λb o e=>?_) ?_ pp
  .have nb:b≠s.heap.objs.size:=fM (cT e);refine d.heap b o (λm=>?_) (q1 b o nb (k1 b o (f b o e)));rcases aM.mp m with z|z
   .exact nb z
   .have z:=aF.mp z;rw[z] at e;exact absurd (fX (xH (cT e) g) k2) (lg _)
  .exact lV (cT P)
 refine ip (λ_=>?_) λ_=>a3 ⟨fg SM _,key h2 _ st (λ_ _ _ e=>e) Iq⟩;refine ae (l3 (ae ?_));show wpAny _ A.in1 (updateSeq s.heap.objs.size (·.push .none)>>=λ_=>updateSeq s.heap.objs.size (·.pop)) _ _ _;have u1:=DY (eX (·.push fo)) Iq rfl;have u2:=DY (eX (·.pop)) u1 rfl;refine ae (pq Iq rfl (pq (hz:=by seq_fits) u1 rfl ?_));have h:∀b o,b≠s.heap.objs.size->h2.get? b=some o->((h2.update s.heap.objs.size (eX (·.push fo))).update s.heap.objs.size (eX (·.pop))).get? b=some o:=λb o nb e=>(ny _ _ (cY nb)).trans ((ny _ _ (cY nb)).trans e);exact a3 ⟨fg SM _,key _ _ ((W A.in1 L).frame 0 _ _ st λb m o e=>h b o (λz=>nS (z▸m)) e) h u2⟩
theorem Nl{ks:List Int->Prop}:∀{vs:List ag},(∀v∈vs,∃k t,v= .int k t)->∃ns,fH vs ns
  |[],_=>⟨[], .nil⟩
  | v :: vs, h => by
    obtain⟨k,t,rfl⟩:=h v (bZ ..);obtain⟨ns,hn⟩:=Nl (ks:=ks) λv m=>h v (bV _ m);exact⟨k::ns, .cons k t hn⟩
theorem QJ:∀{vs:List ag} {ns:List Int},fH vs ns->∀k,k∈ns↔∃t, .int k t∈vs
  |_,_, .nil,k=>by simp
  | _, _, .cons j t h, k => by
    rw[aM,QJ h k];constructor
    · rintro(rfl|⟨t',m⟩)
      · exact⟨_,bZ ..⟩
      · exact⟨t',bV _ m⟩
    · rintro⟨t',m⟩
      rcases aM.mp m with e|m
      · cases e;exact .inl rfl
      · exact .inr ⟨t',m⟩
theorem Xu{S:Int->Bool}(L:A.handled=none)(N:s.heap.SetOf (IK prog w) a S n)(hT:ju (iC w) s.heap a)(d:n<64)
  (h : ∀ h' d' f (l : Addr) (out : List Value) (ns : List Int) (e : Nat), (∀ b o, s.heap.get? b = some o -> h'.get? b = some o) -> s.heap.objs.size <= l -> h'.get? l = some (seqObj "list" out.toArray e) -> IntsAre out ns -> ns.Pairwise (· <= ·) -> (∀ k, S k = true ↔ k ∈ ns) -> ns.length = n ->
   Q (.ref l) {s with heap:=h',drawn:=d',toks:=f}):wpAny (bj prog w) A (call (.builtin "sorted") [.ref a]) Q E s:=by
 obtain⟨o,es,ep,t,g1,g2,X,l1,l2,i,r,sz⟩:=N;refine S6 kind_sorted plain_sorted entry_sorted (args_sorted1 _) ?_;unfold g8.«sorted»;refine ae (m:=checkCount "sorted" 1 1 _) (a3 (ae ?_));refine IJ (A:=A.in1) L i g1 g2 X r (hT o es ep t g1 X) λh1 d1 p items k1 k2 pp=>?_;have c:∀v∈items,∃k t,v= .int k t:=λv m=>by
  obtain⟨e,R,rfl⟩:=cM.mp (pp.mem_iff.mp m);obtain⟨⟨k,hk,_⟩,_⟩:=l1 e R;obtain⟨t,ht⟩:=xW hk;exact⟨k,t,ht⟩
 obtain⟨ns,hI⟩:=Nl (ks:=λ_=>True) c;have hlen:items.length=n:=by rw[pp.length_eq,aj,mj,sz]
 refine ae (tf ?_);have j:(h1.push (tz "list" items.toArray 0)).get? h1.objs.size=some (tz "list" items.toArray 0):=iH _ rfl;refine ae (dA (cv ql ⟨_,j,rfl⟩ px (qs j hI ∅ λout g a1 a2 C=>⟨_,rfl,?_⟩) (qw _)));obtain⟨e,he⟩:=ti (out:=out) j;refine a3 ⟨_,rfl,h _ d1 p h1.objs.size out.toList g e (λb o q=>?_) k2 (by simpa using he) a1 C (λk=>?_) ?_⟩
 .have lb:=cT (k1 b o q);rw[qx (fM lb) (by rw[mY];exact qY lb)];exact dz _ (k1 b o q)
 .rw[a2.mem_iff,QJ hI,l2 k];constructor
  .rintro⟨e,m,q⟩;obtain⟨t,ht⟩:=xW q;exact⟨t,pp.mem_iff.mpr (ht▸cM.mpr ⟨e,m,rfl⟩)⟩
  .rintro⟨t,m⟩;obtain⟨e,R,q⟩:=cM.mp (pp.mem_iff.mp m);exact⟨e,R,by rw[q];exact rQ _ _ _ _⟩
 .rw[a2.length_eq,<-hI.length,hlen]
end
noncomputable def wW(P:bo)(w:cx)(a:ar)(S:Int->Bool)(n:Nat):HO:= .ext λh=>h.SetOf (IK P w) a S n/\ju (iC w) h a
def Inv.dr(I:Inv X pins σ H s)(d:Drawn):Inv X pins σ H {s with drawn:=d}:=
 ⟨I.ok,I.os,I.bare,I.base,I.loc,I.cell,I.free,I.lH,I.pin,I.hok,I.len⟩
theorem Fz:∀{ns:List Int} {us:List ag},Vals (ns.map V.int) us->fH us ns
  |[],_, .nil=> .nil
  | n :: ns, _, .cons r t => by
    obtain⟨k,rfl⟩:=r;exact .cons n k (Fz t)
theorem Im:∀{us:List ag} {ns:List Int},fH us ns->Vals (ns.map V.int) us
 |_,_, .nil=> .nil
 |_,_, .cons k t h=> .cons ⟨t,rfl⟩ (Im h)
def aaB{σ:List Int}{k:Int}(h:σ.Nodup):(step_dedup σ k).Nodup:=by
 unfold step_dedup;split;·exact h
 .rename_i q
  rw[mF];refine⟨h,by simp,λx hx y hy=>?_⟩;rw[aF.mp hy];intro e;subst e;exact q (by simp[hx])
theorem Lh(val:Nat->Int):∀i,(fe val i).Nodup
 |0=>qP
 |i+1=>by rw[kj];exact aaB (Lh val i)
theorem Pw:∀{ds ns:List Int},ds.Nodup->(∀k∈ds,k∈ns)->ns.length<=ds.length->ds.Perm ns
  | [], ns, _, _, hl => by
    have:ns=[]:=qb.mp (by simpa using hl);rw[this]
  | d :: ds, ns, hd, hs, hl => by
    have hm:=hs d (bZ ..);obtain⟨h1,h2⟩:=gf.mp hd;have hp:=List.perm_cons_erase hm;refine(xh d (Pw h2 (λk hk=>?_) ?_)).trans hp.symm
    · rcases aM.mp (hp.mem_iff.mp (hs k (bV _ hk))) with e|e
      · subst e;exact absurd hk h1
      · exact e
    · have:=hp.length_eq;simp at this hl⊢;omega
def Ad(P:bo)(w:cx)(K:PySem.W.Frag):List V->Hp->VK->Prop:=λxs H Q=>∃p,∃ns:List Int,xs=[.ref p]/\bL K H p (ns.map V.int)/\ns.length<=4000/\∀a (ms:List Int),H a=none->ms.Nodup->(∀k,k∈ms↔k∈ns)->Q (.ref a) (upd H a (wW P w a (λk=>ms.any (· ==k)) ms.length))
def Ao(P:bo)(w:cx):List V->Hp->VK->Prop:=λxs H Q=>∃a,∃ms:List Int,xs=[.ref a]/\H a=some (wW P w a (λk=>ms.any (· ==k)) ms.length)/\ms.Nodup/\ms.length<64/\
 ∀l (rs:List Int),H l=none->rs.Pairwise (· < ·)->(∀k,k∈rs↔k∈ms)->Q (.ref l) (upd H l (.lst (rs.map V.int)))
section
variable{X:Cx}
theorem x8(hc:X.calm=true):iK X (.type "set") (Ad X.prog X.w X.K):=by
 intro pins s σ H xs us Q I rv h;obtain⟨p,ns,rfl,hp,hn,q⟩:=h;obtain⟨u,rfl,D⟩:=vals1 rv;cases D;obtain⟨its,rs,c,hz⟩:=I.list hp;have hI:=Fz rs;have hlen:=hI.length;refine aa5 (I.ok.hd hc) c.isList (by simpa using hI) (by rw[fk];unfold fb;omega) λh' tk J M P=>?_;have L:∀k,k∈fe (λi=>ns.getD i 0) its.toArray.size↔k∈ns:=λk=>by
  have e:=firstMet_any (λi=>ns.getD i 0) its.toArray.size k;have e2:(a4 its.toArray.size).map (λi=>ns.getD i 0)=ns:=by
   rw[fk,hlen];apply List.ext_getElem;·simp
   .intro i h1 h2;simp[iM,aL h2]
  rw[e2] at e;have a1:∀(l:List Int),(l.any (· ==k))=true↔k∈l:=λl=>by
   rw[tE];exact⟨λ⟨x,m,z⟩=>(beq_iff_eq.mp z)▸m,λm=>⟨k,m,beq_self_eq_true _⟩⟩
  rw[<-a1,<-a1,e]
 have kp:∀b u,s.heap.get? b=some u->h'.get? b=some u:=λb u e=>P b u (cT e) e;have new:dJ X.prog X.w (upd H s.heap.objs.size (wW X.prog X.w s.heap.objs.size (λk=>(fe (λi=>ns.getD i 0) its.toArray.size).any (· ==k)) (fe (λi=>ns.getD i 0) its.toArray.size).length)) h' s.heap.objs.size (wW X.prog X.w s.heap.objs.size (λk=>(fe (λi=>ns.getD i 0) its.toArray.size).any (· ==k)) (fe (λi=>ns.getD i 0) its.toArray.size).length):=by
  refine⟨⟨J,M⟩,?_,λh1 h2 z k=>?_⟩;·obtain⟨o,_,_,_,U,_⟩:=J;exact⟨o,U⟩
  .obtain⟨⟨o,es,ep,t,U,r⟩,a⟩:=z;exact⟨⟨o,es,ep,t,k o U,r⟩,a.keep U (k o U)⟩
 exact⟨.ref s.heap.objs.size,_,I.laid (t':=tk) kp (aW _) new,rfl,q _ _ (I.hok.fresh (aW _)) (Lh _ _) L⟩
theorem Xe(hc:X.calm=true):iK X (.builtin "sorted") (Ao X.prog X.w):=by
 intro pins s σ H xs us Q I rv h;obtain⟨a,ms,rfl,p,nd,d,q⟩:=h;obtain⟨u,rfl,D⟩:=vals1 rv;cases D;obtain⟨⟨J,M⟩,_,_⟩:=I.hok a _ p;refine Xu (I.ok.hd hc) J M d λh' d' f l out ns e kp hl b hI pw hm hn=>?_;have a1:∀k,(ms.any (· ==k))=true↔k∈ms:=λk=>by
  rw[tE];exact⟨λ⟨x,m,z⟩=>(beq_iff_eq.mp z)▸m,λm=>⟨k,m,beq_self_eq_true _⟩⟩
 have hm':∀k,k∈ns↔k∈ms:=λk=>by rw[<-hm k,a1]
 have pp:=Pw nd (λk m=>(hm' k).mpr m) (vS hn);have c:ns.Nodup:=pp.nodup_iff.mp nd;have lt:ns.Pairwise (· < ·):=by
  have:=pw.and c;exact this.imp λ⟨x,y⟩=>∅
 have new:dJ X.prog X.w (upd H l (.lst (ns.map V.int))) h' l (.lst (ns.map V.int)):=by
  refine⟨?_,out,e,Im hI,b⟩;rw[aj,hn];exact cU (lV d) ⋯
 exact⟨.ref l,_,(I.laid (t':=f) kp hl new).dr d',rfl,q _ _ (I.hok.fresh hl) lt hm'⟩
end
theorem aD.aah{G:Gx}{ρ:Rh}{P:bo}{K:PySem.W.Frag}(h:Ev G ρ te λ_ x=>∃ns:List Int,x= .list (ns.map .int)/\ns.length<64/\∀rs:List Int,rs.Pairwise (· < ·)->(∀k,k∈rs↔k∈ns)->Θ true (rs.map .int)):
  aD G ρ (gk (Ao P w) (aU (gk (Ad P w K) (aU te bK)) bK)) Θ:=λnb σ H Q W z=>
 h nb σ H _ W λf v H1 x ⟨ns,ex,hn,q⟩ s1 hv=>by
  subst ex;obtain⟨a,xs,rfl,na,hx,hd⟩:=hv.ig;have e:=vO hd;subst e;refine⟨a,ns,rfl, .of hx,∅,λb ms hb nd hm=>?_⟩;have O:ms.length<=ns.length:=AK nd λk m=>(hm k).mp m;refine⟨b,ms,rfl,aV,nd,∅,λl rs hl lt hm'=>?_⟩;have s2:Step G.B H1 (upd H1 b (wW P w b (λk=>ms.any (· ==k)) ms.length)):= .same s1.2 (dU hb);exact aD.fin (f:=true) W (s1.trans s2) hl (vQ rs) (q rs lt λk=>(hm' k).trans (hm k)) z
theorem acS{ms:List Int}{m:Int}(nd:ms.Nodup)(h:∀k∈ms,0<=k/\k<m):ms.length<=m.toNat:=by
 have:=AK nd (l₂:=(a4 m.toNat).map λ(i:Nat)=>(i:Int)) λk hk=>by
  have:=h k hk;exact cM.mpr ⟨k.toNat,qW.mpr ∅,∅⟩
 rwa[aj,gC] at this
section
variable{prog:bo}{w:cx}{A:c4}{E:ag->aw->Prop}{s:aw}{st:wq}
def Js(st l:wq):Prop:=kindOf l=kindOf st/\arrOf l=arrOf st/\pendingOf l=pendingOf st/\failedOf l=failedOf st
def Mg(a b:Array Keyed)(i j:Nat)(out:Array Keyed):Prop:=out.toList.Perm (a.toList.take i++b.toList.take j)
def LP(a b:Array Keyed)(pJ:wq)(B:Nat)(r:Option (Array Keyed))(out:Array Keyed)(d c:Nat)(l:wq):Prop:=
 Js pJ l/\(match r with|some z=>z.toList.Perm (a.toList++b.toList)|none=>Mg a b d c out/\d+1<a.size/\c<b.size/\B<=d+c)
variable{pJ:wq}
end
def MR:List V->Hp->VK->Prop:=λxs H Q=>∃j:Int,xs=[.int j]/\∀a,H a=none->Q (.ref a) (upd H a (.p8 0 j))
def S3:List V->Hp->VK->Prop:=λxs H Q=>∃(a:ar) (lo hi:Int),xs=[.ref a]/\H a=some (.p8 lo hi)/\(-10000<=lo/\lo<=10000/\ -10000<=hi/\hi<=10000)/\∀l,H l=none->Q (.ref l) (upd H l (.lst (((a4 (hi-lo).toNat).map λ(i:Nat)=>lo+(i:Int)).map V.int)))
def GW(K:PySem.W.Frag):List V->Hp->VK->Prop:=λxs H Q=>∃p,∃ns:List Int,xs=[.ref p]/\bL K H p (ns.map V.int)/\Q (.int ns.sum) H
def ID(K:PySem.W.Frag):List V->Hp->VK->Prop:=λxs H Q=>∃p,∃bs:List Bool,xs=[.ref p]/\bL K H p (bs.map V.bl)/\Q (.bl (bs.all id)) H
section
variable{X:Cx}
def Wy:iK X (.type "range") MR:=by
 intro pins s σ H xs us Q I rv h;obtain⟨j,rfl,q⟩:=h;obtain⟨u,rfl,D⟩:=vals1 rv;obtain⟨t,rfl⟩:=D;refine call_range_1 ?_;exact⟨.ref s.heap.objs.size,_,I.laid (t':=s.toks+1+1) (o:= .p8 0 j) (λb o e=>dz _ e) (aW _) ⟨_,_,_,iH _ rfl⟩,rfl,q _ (I.hok.fresh (aW _))⟩
theorem Zx(hc:X.calm=true):iK X (.type "list") S3:=by
  intro pins s σ H xs us Q I rv h;obtain⟨a,lo,hi,rfl,p,hb,q⟩:=h;obtain⟨u,rfl,D⟩:=vals1 rv;cases D;obtain⟨t,u,v,e⟩:=(show dJ X.prog X.w H s.heap a (.p8 lo hi) from I.hok a _ p);refine call_list_range (n:=(hi-lo).toNat) (I.ok.hd hc) (show IsRange s.heap a lo hi 1 t u v from e) (small_one ∅ ∅ ∅ ∅) (rangeSize_nat lo hi) ∅ λh' tk acc c' kp hl g=>?_;have c:Vals (((a4 (hi-lo).toNat).map λ(i:Nat)=>lo+(i:Int)).map V.int) acc.toList:=by
    have key:∀(n:Nat) (l:List ag),l.length=n->∀b:Int,(∀(j:Nat) (v:ag),l[j]?=some v->∃t,v=gd (b+(j:Int)) t)->Vals (((a4 n).map λ(i:Nat)=>b+(i:Int)).map V.int) l:=by
      intro n;induction n with
      |zero=>intro l hl b _;rw[qb.mp hl];exact .nil
      | succ n ih =>
        intro l hl b hv;cases l with
        |nil=>cases hl
        | cons x r =>
          obtain⟨t,e⟩:=hv 0 x rfl;rw[KL,bR,bR];refine .cons ⟨t,by simpa using e⟩ ?_
          have:=ih r (by simpa using hl) (b+1) (λj v e=>by
            obtain⟨t,z⟩:=hv (j+1) v (by simpa using e);exact⟨t,by rw[z];congr 1;omega⟩)
          rw[l7] at this⊢;rw[l7];have e:∀i:Nat,((V.int∘λ(i:Nat)=>b+(i:Int))∘Nat.succ) i=(V.int∘λ(i:Nat)=>b+1+(i:Int)) i:=λi=>by
            show V.int (b+((i+1:Nat):Int))=V.int (b+1+(i:Int));congr 1;omega
          rw[r6 λi _=>e i];exact this
    refine key _ _ (by rw[mj];exact g.1) lo λj v e=>?_;obtain⟨t,z⟩:=g.2 j v (by rw[<-qy];exact e);exact⟨t,by rw[z];congr 1;omega⟩
  refine⟨.ref s.heap.objs.size,_,I.laid (t':=tk) (o:= .lst (((a4 (hi-lo).toNat).map λ(i:Nat)=>lo+(i:Int)).map V.int)) kp (aW _) ⟨?_,acc.toList,c',c,by simpa using hl⟩,rfl,q _ (I.hok.fresh (aW _))⟩;rw[aj,aj,gC];exact cU (show(hi-lo).toNat<=20000 by omega) ⋯
def Z3(hc:X.calm=true):iK X (.builtin "sum") (GW X.K):=by
 intro pins s σ H xs us Q I rv h;obtain⟨p,ns,rfl,hp,q⟩:=h;obtain⟨u,rfl,D⟩:=vals1 rv;cases D;obtain⟨its,rs,c,hz⟩:=I.list hp;have hI:=Fz rs;obtain⟨ys,e⟩:=hI.allInts.items;have hn:=hI.numsOf;refine sum_intListG (xs:=ys) (I.ok.hd hc) (by rw[<-e];exact c.isList) λh' tk t' kp=>?_;have e2:preSum (numAt ys) ys.size=ns.sum:=by
  rw[preSum_eq,qp (by simp),<-nums_intItems,<-e,<-hn]
 rw[e2];exact⟨.int ns.sum,H,I.kept kp,⟨_,rfl⟩,q⟩
theorem Vz(hc:X.calm=true):iK X (.builtin "all") (ID X.K):=by
  intro pins s σ H xs us Q I rv h;obtain⟨p,bs,rfl,hp,q⟩:=h;obtain⟨u,rfl,D⟩:=vals1 rv;cases D;obtain⟨its,rs,c,hz⟩:=I.list hp;have hl:=rs.length;have hv:∀(i:Nat) (v:ag),its.toArray[i]?=some v->v= .bool (bs.getD i false):=λi v e=>by
    have hi:i<bs.length:=by
      have:=(uF.mp e).1;rw[aj] at hl;simp at this;omega
    obtain⟨u,Y,D⟩:=rs.get (i:=i) (x:= .bl bs[i]) (by rw[bu,aL hi];rfl);rw[Uw,Y] at e;cases e;rw[iM,aL hi];exact D
  have ll:=c.isList;have hlt:p<s.heap.objs.size:=by obtain⟨o,e,_⟩:=ll;exact cT e
  refine call_all_walk (hH ll ⟨s.heap.objs.size,_,_,_,_,_,λi=>bs.getD i false,rfl,wC (A:=X.A.in1) (I.ok.hd hc) _ p (fM hlt) its.toArray,⟨⟨_,iH _ rfl,rfl,rfl⟩,ll.push _⟩,λi v s Q E Z J=>?_,λh' tk kp=>?_⟩);· rw[hv i v Z];exact ft J
  · have e:(a4 its.toArray.size).all (λi=>bs.getD i false)=bs.all id:=by
      have hs:its.toArray.size=bs.length:=by rw[aj] at hl;simp;omega
      rw[hs];clear hv hl rs q hp hs hz;induction bs with
      |nil=>rfl
      | cons b r ih =>
        rw[dM,KL,qE,qE,List.all_map];simpa[md] using congrArg (b && ·) ih
    rw[e];refine⟨.bl (bs.all id),H,I.kept λb o q=>kp b o (λm=>?_) (dz _ q),rfl,q⟩;have:=aF.mp m;rw[this] at q;exact absurd (cT q) (lg _)
end
section
variable{G:Gx}{ρ:Rh}{te:TE}{K:PySem.W.Frag}{Φ:Pd}
theorem aD.Mo(h:Ev G ρ te λ_ x=>∃n:Int,x= .int n/\ -10000<=n/\n<=10000/\Θ true (((a4 n.toNat).map λ(i:Nat)=>(0:Int)+(i:Int)).map .int)):aD G ρ (gk S3 (aU (gk MR (aU te bK)) bK)) Θ:=λnb σ H Q W z=>
 h nb σ H _ W λf v H1 x ⟨n,ex,h1,h2,q⟩ s1 hv=>by
  subst ex;rw[hv.bT];refine⟨n,rfl,λa ha=>⟨a,0,n,rfl,aV,∅,λl hl=>?_⟩⟩;rw[xx];exact aD.fin (f:=true) W (s1.trans (.same s1.2 (dU ha))) hl (vQ _) q z
theorem Ev.sum(h:Ev G ρ te λ_ x=>∃ns:List Int,x= .list (ns.map .int)/\Φ true (.int ns.sum)):Ev G ρ (gk (GW K) (aU te bK)) Φ:=λnb σ H Q W z=>
 h nb σ H _ W λf v H1 x ⟨ns,ex,q⟩ s1 hv=>by
  subst ex;obtain⟨a,xs,rfl,na,hx,hd⟩:=hv.ig;have e:=vO hd;subst e;exact⟨a,ns,rfl, .of hx,z true _ H1 _ q s1 (.int _)⟩
theorem Tf{nb:ar->Prop}{H:Hp}:∀{is:List Bool} {xs:List V},ah nb H (is.map o3) xs->xs=is.map V.bl
  |[],_,h=>by unfold dj ah at h;exact h
  | i :: is, _, h => by
    rw[bR] at h;unfold ah at h;obtain⟨y,ys,rfl,h1,h2⟩:=h;unfold af at h1;rw[bR,h1,Tf h2]
theorem Ev.all(h:Ev G ρ te λ_ x=>∃bs:List Bool,x= .list (bs.map .bool)/\Φ true (.bool (bs.all id))):Ev G ρ (gk (ID K) (aU te bK)) Φ:=λnb σ H Q W z=>
 h nb σ H _ W λf v H1 x ⟨bs,ex,q⟩ s1 hv=>by
  subst ex;obtain⟨a,xs,rfl,na,hx,hd⟩:=hv.ig;have e:=Tf hd;subst e;exact⟨a,bs,rfl, .of hx,z true _ H1 _ q s1 (.bl _)⟩
end
noncomputable def k8:PyData->String->Bool
 | .bool _,T=>T=="bool" ||T=="int"
 | .int _,T=>T=="int"
 | .str _,T=>T=="str"
 | .list _,T=>T=="list"
 | .tuple _,T=>T=="tuple"
 |_,_=>false
noncomputable def Ih:PyData->String
 | .none=> "NoneType" | .bool _=> "bool" | .int _=> "int" | .str _=> "str" | .list _=> "list" | .tuple _=> "tuple" | .dict _=> "dict"
def L4(ds:List PyData):k8 (.list ds) "list"=true/\k8 (.list ds) "tuple"=false:=⟨rfl,rfl⟩
def Pa(ds:List PyData):k8 (.tuple ds) "list"=false/\k8 (.tuple ds) "tuple"=true:=⟨rfl,rfl⟩
def Fk{K:PySem.W.Frag}{v:V}(h:af nb H d v):kF K H v (.type (Ih d)):=by
 cases d<;>unfold af at h;·subst h;exact .aN
 .subst h;exact .bl _
 .subst h;exact .int _
 .subst h;exact .str _
 .obtain⟨a,xs,rfl,_,e,_⟩:=h;exact .lst e
 .obtain⟨a,xs,rfl,_,e,_⟩:=h;exact .tup e
 .obtain⟨a,xs,rfl,_,e,_⟩:=h;exact e.elim .dK λ⟨_,e⟩=> .TU e
def sZ(T:String):Prop:=T="int" \/T="bool" \/T="list" \/T="tuple" \/T="str"
def MI{K:PySem.W.Frag}(hT:sZ T):PySem.W.kitOne K (.type (Ih d)) (.type T)=some (k8 d T):=by
 rcases hT with rfl|rfl|rfl|rfl|rfl<;>cases d<;>(with_unfolding_all rfl)
theorem Tj{K:PySem.W.Frag}{d:PyData}:∀{b:List String},(∀T∈b,sZ T)->PySem.W.kitAny K (.type (Ih d)) (b.map ea)=some (b.any (k8 d))
  |[],_=>rfl
  | T :: r, h => by
    rw[bR];unfold PySem.W.kitAny;rw[MI (h T (bZ ..)),oE];cases k8 d T with
    |true=>rfl
    |false=>exact Tj λT m=>h T (bV _ m)
def DO:List V->Hp->VK->Prop:=λxs H Q=>∃(x:V) (tp:ar) (b:List String) (nb:ar->Prop) (d:PyData),xs=[x, .ref tp]/\H tp=some (.tup (b.map V.ty))/\af nb H d x/\(∀T∈b,sZ T)/\Q (.bl (b.any (k8 d))) H
theorem UA:∀{b:List String} {us:List ag},Vals (b.map V.ty) us->us=b.map ea
 |[],_, .nil=>rfl
 |T::r,_, .cons h t=>by rw[bR,UA t,show _=ea T from h]
section
variable{X:Cx}
def T8:iK X (.builtin "isinstance") DO:=by
 intro pins s σ H xs us Q I rv h;obtain⟨x,tp,b,nb,d,rfl,ht,hd,h5,q⟩:=h;obtain⟨u,v,rfl,D,rv⟩:=rv.two;cases (show v=cc tp from rv);obtain⟨_,its,f,o,U,hc,n,c⟩:=(show dJ X.prog X.w H s.heap tp (.tup (b.map V.ty)) from I.hok tp _ ht);have e:=UA f;subst e;obtain⟨c0,d0,dt,sl⟩:=o;dsimp only at hc c;subst hc c;have fin:∀tk,EP X pins σ Q (.bool (b.any (k8 d))) {s with toks:=tk}:=λtk=>⟨.bl _,H,I.tok tk,rfl,q⟩;have ka:=Tj (K:=X.K) (d:=d) h5;cases d<;>unfold af at hd;·subst hd;cases (show u=fo from D);exact qR PySem.W.kitx_none I.eE de U ka (λz=>nomatch z) fin
 .subst hd;cases (show u=ix _ from D);exact qR PySem.W.kitx_bool I.eE de U ka (λz=>nomatch z) fin
 .subst hd;obtain⟨t,rfl⟩:=(show∃t,u=gd _ t from D);exact qR PySem.W.kitx_int I.eE de U ka (λz=>nomatch z) fin
 .subst hd;obtain⟨t,rfl⟩:=(show∃t,u=hG _ t from D);exact qR PySem.W.kitx_str I.eE de U ka (λz=>nomatch z) fin
 .obtain⟨a,ys,rfl,_,L,_⟩:=hd;cases (show u=cc a from D);obtain⟨_,_,n,_,h1⟩:=(show dJ X.prog X.w H s.heap a (.lst ys) from I.hok a _ L);exact qR JB I.eE ⟨_,h1,rfl⟩ U ka (λz=>nomatch z) fin
 .obtain⟨a,ys,rfl,_,L,_⟩:=hd;cases (show u=cc a from D);obtain⟨_,_,_,o',h1,h2,_⟩:=(show dJ X.prog X.w H s.heap a (.tup ys) from I.hok a _ L);exact qR PySem.W.kitx_tuple I.eE ⟨o',h1,h2⟩ U ka (λz=>nomatch z) fin
 .obtain⟨a,ys,rfl,_,L,_⟩:=hd;cases (show u=cc a from D);obtain⟨_,_,vs,_,dd⟩:=(show dJ X.prog X.w H s.heap a (.dK ys) from L.ok I.hok);exact qR Dt I.eE dd.typeIs U ka (λz=>nomatch z) fin
end
section
variable{G:Gx}{ρ:Rh}{ta tb te:TE}{K:PySem.W.Frag}{Φ:Pd}{T U:String}
def Ev.isi(hT:sZ T)(h:Ev G ρ te λ_ x=>Φ true (.bool (k8 x T))):Ev G ρ (gk (nH K) (aU te (aU (tC (.ty T)) bK))) Φ:=λnb σ H Q W z=>
 h nb σ H _ W λf v H1 d q s1 hv=>⟨v,T,_,_,rfl,Fk hv,MI hT,z true _ H1 _ q s1 (.bl _)⟩
def Ev.aaL(hT:sZ T)(a:sZ U)(h:Ev G ρ te λ_ x=>Φ true (.bool (k8 x T||k8 x U))):Ev G ρ (gk DO (aU te (aU (qA (aU (tC (.ty T)) (aU (tC (.ty U)) bK))) bK))) Φ:=λnb σ H Q W z=>
 h nb σ H _ W λf v H1 d q s1 hv=>by
  refine⟨by show 2<=sizeLine;decide,λp hp=>⟨v,p,[T,U],G.S nb f,d,rfl,aV,hv.keep (bC.of (dU hp)),λS m=>?_,?_⟩⟩
  .rcases aM.mp m with e|m
   .rw[e];exact hT
   .rw[aF.mp m];exact a
  .rw[oE,oE,tI,qh];exact z true _ _ _ q (s1.trans (.same s1.2 (dU hp))) (.bl _)
def Ev.CP(h:Ev G ρ te λ_ x=>∃ds,(x= .list ds\/x= .tuple ds)/\Φ true (.int ds.length)):Ev G ρ (gk (fT K) (aU te bK)) Φ:=λnb σ H Q W z=>
 h nb σ H _ W λf v H1 d ⟨ds,e,q⟩ s1 hv=>by
  rcases e with e|e
  .subst e;obtain⟨a,xs,rfl,n,hx,hd⟩:=hv.ig;exact⟨a,xs,rfl, .inl (.of hx),by rw[hd.length];exact z true _ H1 _ q s1 (.int _)⟩
  .subst e;obtain⟨a,xs,rfl,n,hx,hd⟩:=hv.ofT;exact⟨a,xs,rfl, .inr (.of hx),by rw[hd.length];exact z true _ H1 _ q s1 (.int _)⟩
def Ev.KA(h:Ev G ρ ta λf x=>∃ds,(x= .list ds\/x= .tuple ds)/\Ev G ρ tb λ_ y=>∃k,y= .int k/\∃e,cI ds k=some e/\Φ f e):Ev G ρ (er (yI K) ta tb) Φ:=
 Ev.lX (h.mono λf x ⟨ds,ex,q⟩=>q.mono λg y ⟨k,r,e,he,p⟩ nb σ H u v Q W Y hv z=>by
  subst r;rcases ex with ex|ex
  .subst ex;obtain⟨a,xs,rfl,n,hx,hd⟩:=Y.ig;obtain⟨w,hw,O⟩:=hd.cI he;exact .inl ⟨a,xs,k,w,rfl,hv.bT, .of hx,hw,z f _ H _ p (.refl W.aq) O⟩
  .subst ex;obtain⟨a,xs,rfl,n,hx,hd⟩:=Y.ofT;obtain⟨w,hw,O⟩:=hd.cI he;exact .inr (.inl ⟨a,xs,k,w,rfl,hv.bT, .of hx,hw,z f _ H _ p (.refl W.aq) O⟩))
end
def Callee.void{P:bo}{K:PySem.W.Frag}{st:el}{k:Nat}{ps:List Str}{f:ar}(F:bI K x x st f fd)(b:Binds K fd ps [])(m:mg x=some (.ref f))(hv:∀vs H Q E,¬sp vs H Q E):Callee P w K mg base x k ps sp:=
 ⟨f,fd,⟨λvs H Q E h=>(hv vs H Q E h).elim,λA outer s H args us vs Q E _ _ _ _ h=>(hv vs H Q E h).elim⟩,b,F.kp,m⟩
section
variable{G:Gx}{ρ dg:Rh}{te:TE}{gt:TG}{n i:Nat}{it:Nat->PyData->Prop}{fi:Bool}{Θ:Bool->List PyData->Prop}{E:DE}
def YE(os:List Int):fE (os.map ba)=true:=by
 unfold fE;rw[pZ];intro x hx;obtain⟨y,_,rfl⟩:=cM.mp hx
 rfl
def jH.ints(P:Int->Prop)(ht:∀i d,it i d->Gv G dg gt fi d λc=>Wk dg c/\Ev G c te λ_ e=>∃r:Int,e= .int r/\P r)(h:∀os:List Int,os.length=n->(∀x∈os,P x)->Θ true (os.map .int)):jH G dg n it fi gt pD te Θ:=by
 refine⟨false,λi ds=>ds.length=i/\∃os:List Int,ds=os.map .int/\∀x∈os,P x,⟨rfl,[],rfl,λ_ h=>nomatch h⟩,?_,?_⟩
 .rintro i d ds hd hl ⟨hl2,os,rfl,ho⟩;refine λnb σ H v Q W hv z=>ht i d hd nb σ H v Q W hv λM L ⟨w,q⟩ W'=>z M L ⟨w,Tv.vp (zN (q.mono λf e ⟨r,a,hr⟩=>⟨λz=>(by cases z),?_,os++[r],?_,λx hx=>?_⟩))⟩ W';·rw[cP,kc,hl2]
  .rw[a];simp
  .rcases fN.mp hx with h|h
   .exact ho x h
   .rw[aF.mp h];exact hr
 .rintro ds hl ⟨hl2,os,rfl,ho⟩;rw[YE,tJ];exact h os (by rw[aj] at hl2;exact hl2) ho
theorem jH.rel(φ:α->PyData)(fl:Bool)(P:Nat->α->Prop)(ht:∀i d,it i d->Gv G dg gt fi d λc=>Wk dg c/\Ev G c te λf e=>(fl=true->f=true)/\∃r:α,e=φ r/\P i r)
  (h:∀os:List α,os.length=n->(∀(i:Nat) x,os[i]?=some x->P i x)->Θ (fl||fE (os.map φ)) (os.map φ)):jH G dg n it fi gt pD te Θ:=by
 refine⟨fl,λi ds=>ds.length=i/\∃os:List α,ds=os.map φ/\∀(i:Nat) x,os[i]?=some x->P i x,⟨rfl,[],rfl,λj x e=>by simp at e⟩,?_,?_⟩
 .rintro i d ds hd hl ⟨hl2,os,rfl,ho⟩;refine λnb σ H v Q W hv z=>ht i d hd nb σ H v Q W hv λM L ⟨w,q⟩ W'=>z M L ⟨w,Tv.vp (zN (q.mono λf e ⟨hf,r,a,hr⟩=>⟨hf,?_,os++[r],?_,λj x O=>?_⟩))⟩ W';·rw[cP,kc,hl2]
  .rw[a];simp
  .rw[aj] at hl2;rcases HQ j os.length with h|h|h
   .exact ho j x (by rwa[fO h] at O)
   .subst h;simp at O;subst O;rw[hl2];exact hr
   .rw[eO (by rw[cP,kc];omega)] at O;cases O
 .rintro ds hl ⟨hl2,os,rfl,ho⟩;exact h os (by rw[aj] at hl2;exact hl2) ho
def Sv.AJ(h:∀a,E.nx (ρ.set i (.own a true []))):Sv G ρ (gu (oX bK) (gh i)) E:=Sv.DW (aD.lst (Av.nil ⟨⋯,λa=>h a⟩))
end
def adM:R2:=λx y H Q=>∃a b:Bool,x= .bl a/\y= .bl b/\Q (.bl (a==b)) H
def Ev.isB{G:Gx}{ρ:Rh}{Φ:Pd}(h:Ev G ρ ta λ_ x=>∃a,x= .bool a/\Φ true (.bool (a==b))):Ev G ρ (er adM ta (tC (.bl b))) Φ:=λnb σ H Q W z=>
 h nb σ H _ W λf v H1 d ⟨a,e,q⟩ s1 hv=>by
  subst e;unfold af at hv;subst hv;exact⟨a,b,rfl,rfl,z true _ H1 _ q s1 (.bl _)⟩
def qK{X:Cx}{K:PySem.W.Frag}{a:ek}{ta:TE}(b:X.K=K)(ha:PE X a ta)(he:∀whole,isTrue a X.env whole=(do let v<-whole;standAt a.pos;holding [v] (truthy v))):PT X a (GL K ta):=by
 subst b;exact xC ha he
def k9{X:Cx}{K:PySem.W.Frag}{es:List ek}{k:Nat}{t:kE}{n:Nat}{pos:Pos}(b:X.K=K)(hc:X.calm=true)(h:vI X es t)(hn:(fv es X.env).length=n:=by rfl)(p:(fv es X.env).findIdx? (·.1)=none:=by rfl):PG X (.Tuple es k pos) (rT K n t):=by
 subst b;exact PZ hc h hn p
def agn(ds:List PyData):e6 (.list ds) (.list [])=ds.isEmpty:=by cases ds<;>simp[e6,kq]
theorem Xk(cs:List aB):bX (cs.map cy)<=2/\be (cs.map cy)=true:=by
  induction cs with
  |nil=>simp[bX,be]
  | cons a r ih =>
    have h:=KE a;simp[bX,dC,be,cq,ih.2,h.2.2];have:=ih.1;have:=h.2.1;omega
def Sv.Pg{G:Gx}{ρ:Rh}{s:TS}{E:DE}(I:Rh->Prop)(h:Sv G ρ s {E with nx:=I})(hI:∀L,I L->E.nx L):Sv G ρ s E:=λnb σ H D W K=>h nb σ H D W ⟨λnb ρ σ H q W=>K.nx nb ρ σ H (hI ρ q) W,K.bk,K.ct,K.rt,K.rw⟩
theorem pick{k:Int}(h0:0<=k)(h1:k<L.length)(P:Int->Prop)(Z:∀x∈L,P x):∃x,cI (L.map ba) k=some (.int x)/\P x:=by
 have y:k.toNat<L.length:=∅
 exact⟨L[k.toNat],jT h0 (by rw[bu,aL y];rfl),Z _ (jB y)⟩
def Nk(a b:aB)(wd:Wo):dG (a++b) wd=dG a wd+dG b wd:=by
 unfold dG;rw[cX,JD]
def Vf(a:Int×Int)(b:aB)(wd:Wo):dG (a::b) wd=mT wd a+dG b wd:=by
 unfold dG;rw[bR,List.sum_cons]
theorem fit{S r y:Int}(hp:0<p)(h:∃k,y*r=1+p*k):(S+((0-S%p)*r%p)*y)%p=0:=by
 obtain⟨k,hk⟩:=h;have e1:=pM S p;have e2:=pM ((0-S%p)*r) p;refine Pp ⟨S/p-S%p*k-(0-S%p)*r/p*y,?_⟩;generalize S%p=R at*;generalize S/p=s at*;generalize (0-R)*r/p=q at*;generalize hf:(0-R)*r%p=f at*;have e3:f*y=(0-R)*r*y-p*q*y:=by rw[<-A9];congr 1;omega
 have e4:(0-R)*r*y= -R-R*(p*k):=by
  rw[lG,qd r y,hk,AV,BI,A9,um];omega
 rw[e3,e4,oR,oR,<-lG p R k,qd p R,lG R p k,<-lG p q y];omega
def shaped_ints(xs:List Int):cn (.list (xs.map .int))=true:=by
 have h:=Zo (xs.map some);have e:(xs.map some).map aT=xs.map ba:=by rw[l7];rfl
 rw[e] at h;unfold cn;simp[cq,dC,h.1,h.2]
def Wz{w:List Int}{x:Int}(h:w[pr.1.toNat]?=some x):mT (w.map some) pr=pr.2*x:=by
 unfold mT;rw[bu,h];rfl
def Mb(K:PySem.W.Frag)(te:TE)(ts:TO):TE:=λσ H Q=>te σ H λx H1=>ts σ H1 λk H2=>k=some (-1)/\∃a xs,x= .ref a/\bL K H2 a xs/\∀p,H2 p=none->Q (.ref p) (upd H2 p (.lst xs.reverse))
theorem ah.rev{nb:ar->Prop}{H:Hp}:∀{ds:List PyData} {xs:List V},ah nb H ds xs->ah nb H ds.reverse xs.reverse
  |[],xs,h=>by unfold ah at h;subst h;exact .nil
  | d :: ds, xs, h => by
    unfold ah at h;obtain⟨y,ys,e,h1,h2⟩:=h;subst e;rw[IQ,IQ];exact ah.append (ah.rev h2) (.cons h1 .nil)
section
variable{G:Gx}{ρ:Rh}{Φ:Pd}{ta tb te:TE}{K:PySem.W.Frag}
theorem aD.rev{ts:TO}{Θ:Bool->List PyData->Prop}(h:Ev G ρ te λf x=>∃ds,x= .list ds/\Ov G ρ ts λo=>o=some (-1)/\Θ (f||fE ds.reverse) ds.reverse):aD G ρ (Mb K te ts) Θ:=λnb σ H Q W z=>
 h nb σ H _ W λf v H1 d ⟨ds,e,q⟩ s1 hv=>q nb σ H1 _ (W.step s1) λo H2 ⟨b,M⟩ s2=>by
  subst e;obtain⟨a,xs,rfl,n,hx,hd⟩:=(hv.keep s2.c8).ig;exact⟨b,a,xs,rfl, .of hx,λp hp=>aD.fin W (s1.trans s2) hp hd.rev M z⟩
theorem Ev.rev{ts:TO}(h:Ev G ρ te λf x=>∃ds,x= .list ds/\Ov G ρ ts λo=>o=some (-1)/\Φ (f||fE ds.reverse) (.list ds.reverse)):Ev G ρ (Mb K te ts) Φ:=(aD.rev (Θ:=λf ds=>Φ f (.list ds)) h).ev
def Ev.inI(h:Ev G ρ ta λ_ x=>∃k:Int,x= .int k/\Ev G ρ tb λ_ y=>∃ns:List Int,y= .list (ns.map .int)/\Φ true (.bool (decide (k∈ns) !=b))):Ev G ρ (er (N2 K b) ta tb) Φ:=λnb σ H Q W z=>
 h nb σ H _ W λf v H1 d ⟨k,e,q⟩ s1 hv=>q nb σ H1 _ (W.step s1) λg u H2 X ⟨ns,e2,p⟩ s2 Y=>by
  subst e e2;have hk:=hv.bT;subst hk;obtain⟨a,xs,rfl,na,hx,hd⟩:=Y.ig;have ex:=vO hd;subst ex;refine⟨a,ns.map V.int,rfl, .inl (.of hx),rfl,?_,?_⟩
  .rw[pZ];intro x hx;obtain⟨o,_,rfl⟩:=cM.mp hx
   rfl
  .have e:rP (V.int k) (ns.map V.int)=decide (k∈ns):=by
    unfold rP;rw[List.any_map,t9,tE,decide_eq_true_eq];constructor
    .rintro⟨o,m,h⟩;have:o=k:=eq_of_beq h;exact this▸m
    .intro m;exact⟨k,m,beq_self_eq_true k⟩
   have e2:(if b=true then !rP (V.int k) (ns.map V.int) else rP (V.int k) (ns.map V.int))=(decide (k∈ns) !=b):=by
    rw[e];cases b<;>simp
   rw[e2];exact z true _ H2 _ p (s1.trans s2) (.bl _)
end
def rY(p n:Int)(prs:aB):Prop:=prs≠[]/\(prs.Pairwise λa b=>a.1<b.1)/\∀pr∈prs,0<=pr.1/\pr.1<n/\1<=pr.2/\pr.2<p
end L2
variable{cs:List L2.aB}{wd:L2.Wo}{prs:L2.aB}{ρ:L2.Rh}{G:L2.Gx}{J:Nat->L2.Cu->List PyData->Prop}{cs':List L2.Cu}{Φ:L2.Pd}
namespace PC
def aQ(n:Nat):Prop:=2<=n/\∀d,d∣n->d=1\/d=n
noncomputable def tr(q:Nat):Nat->Nat->Bool
 |0,_=>false
 |f+1,d=>if q<d*d then true else if q%d=0 then false else tr q f (d+1)
theorem UE{q:Nat}:∀{f d:Nat},tr q f d=true->∀e,d<=e->e*e<=q->q%e≠0
  |0,_,h=>by simp[tr] at h
  | f + 1, d, h => by
    intro e hde hee;unfold tr at h;by_cases h1:q<d*d
    · have:=ra hde hde
      omega
    · rw[if_neg h1] at h
      by_cases h2:q%d=0;· rw[if_pos h2] at h;cases h
      · rw[if_neg h2] at h
        by_cases h3:d=e;· rw[<-h3];exact h2
        · exact UE h e ∅ hee
theorem OV{q:Nat}(h2:2<=q)(h:∀e,2<=e->e*e<=q->q%e≠0):aQ q:=by
 refine⟨h2,λd hd=>?_⟩;obtain⟨e,he⟩:=hd;by_cases d1:d=1;·exact .inl d1
 by_cases e1:e=1;·right;rw[he,e1,Ei]
 exfalso;have d0:d≠0:=λz=>by rw[z,Ka] at he;omega
 have O:e≠0:=λz=>by rw[z,t2] at he;omega
 by_cases l:d<=e
 .refine h d ∅ (by rw[he];exact Nat.mul_le_mul_left d l) ?_;rw[he];exact Nat.mul_mod_right d e
 .refine h e ∅ (by rw[he];exact Nat.mul_le_mul_right e ∅) ?_;rw[he];exact Nat.mul_mod_left d e
def dD(f:Nat){q:Nat}(h2:2<=q)(h:tr q f 2=true):aQ q:=OV h2 (UE h)
noncomputable def pw(N:Nat):Nat->Nat->Nat->Nat->Nat
 |0,_,_,acc=>acc
 |f+1,e,g,acc=>pw N f (e/2) (g*g%N) (if e%2=1 then acc*g%N else acc)
theorem Nf{N:Nat}:∀(f e g acc:Nat),e<2^f->pw N f e g acc%N=acc*g^e%N
  | 0, e, g, acc, h => by
    have:e=0:=by simp at h;exact h
    subst this;simp[pw]
  | f + 1, e, g, acc, h => by
    have h2:e/2<2^f:=by rw[Nat.pow_succ] at h;omega
    unfold pw;rw[Nf f _ _ _ h2];have e2:g^e=(g*g)^(e/2)*g^(e%2):=by
      conv=>lhs;rw[<-Fj e 2]
      rw[BR,vv,Nat.pow_two]
    have m1:(g*g%N)^(e/2)%N=(g*g)^(e/2)%N:=(vx _ _ _).symm;rw[e2];by_cases U:e%2=1
    · rw[if_pos U,U,Nat.pow_one,o5,m1,EA,<-o5]
      congr 1
      rw[ve,rO g]
    · have d:e%2=0:=∅
      rw[if_neg U,d,t4,Ei,o5,m1,<-o5]
def ahq{P:Nat->Prop}:∀n,P n->∃m,P m/\∀k,k<m->¬P k:=by
  intro n;induction n using Nat.strongRecOn with
  | _ n ih =>
    intro h;by_cases hk:∃k,k<n/\P k
    · obtain⟨k,E,b⟩:=hk
      exact ih k E b
    · exact⟨n,h,λk E b=>hk ⟨k,E,b⟩⟩
theorem PY:∀(n:Nat) (f:Nat->Nat),(∀i,i<n+1->f i<n)->∃i j,i<j/\j<n+1/\f i=f j
  |0,f,h=>absurd (h 0 ∅) ∅
  | n + 1, f, h => by
    by_cases he:∃i,i<n+1/\f i=f (n+1)
    · obtain⟨i,h1,h2⟩:=he
      exact⟨i,n+1,h1,∅,h2⟩
    · have U:∀i,i<n+1->f i≠f (n+1):=λi hi e=>he ⟨i,hi,e⟩
      have jI:=h (n+1) ∅
      obtain⟨i,j,h1,h2,h3⟩:=PY n (λi=>if f i=n then f (n+1) else f i) (λi hi=>by
        have g1:=h i ∅;have g2:=U i hi;by_cases c:f i=n
        · simp only[c,if_true]
          have:f (n+1)≠n:=λz=>g2 (c.trans z.symm);omega
        · simp only[c,if_false]
          omega)
      refine⟨i,j,h1,∅,?_⟩;have gi:=U i ∅;have gj:=U j ∅;by_cases b:f i=n
      · by_cases a:f j=n
        · rw[b,a]
        · simp only[b,a,if_true,if_false] at h3
          exact absurd h3.symm gj
      · by_cases a:f j=n
        · simp only[b,a,if_true,if_false] at h3
          exact absurd h3 gi
        · simpa only[b,a,if_false] using h3
noncomputable def mL:List (Nat×Nat)->Nat
 |[]=>1
 |qe::r=>Nat.lcm (qe.1^qe.2) (mL r)
theorem TQ{o:Nat}:∀{fs:List (Nat×Nat)},(∀qe∈fs,qe.1^qe.2∣o)->mL fs∣o
 |[],_=>⟨o,by simp[mL]⟩
 |qe::r,h=>Nat.lcm_dvd (h qe bZ) (TQ λx hx=>h x (bV _ hx))
def ZF{q:Nat}(hq:aQ q)(h:¬q∣m):h8 q m:=by
 rcases hq.2 _ (Nat.gcd_dvd_left q m) with e|e
 .exact e
 .exact absurd (e▸Nat.gcd_dvd_right q m) h
def Vy{q:Nat}(h:h8 q m)(e:Nat):h8 (q^e) m:=uM e h
def Jj(a b c d:Nat):(a%d)*(b%d)%d*(c%d)%d=a*b*c%d:=by
 rw[<-o5 a b,<-o5 (a*b) c]
theorem NQ{N g d:Nat}{fs:List (Nat×Nat)}(hN:2<=N)(hd:d∣N)(d1:1<d)(h1:g^(N-1)%N=1%N)
  (hq:∀qe∈fs,aQ qe.1/\qe.1^qe.2∣N-1/\vy (g^((N-1)/qe.1)%N+(N-1)) N=1):mL fs<d:=by
 have p:∀{a b:Nat},a%N=b%N->a%d=b%d:=λ{a b} e=>by
  rw[<-FE a hd,e,FE b hd]
 have one:1%d=1:=nz d1;have B:g^(N-1)%d=1:=by rw[p h1,one]
 obtain⟨o,⟨C,o1⟩,x⟩:=ahq (P:=λk=>0<k/\g^k%d=1) (N-1) ⟨∅,B⟩;have n:∀q r:Nat,g^(o*q+r)%d=g^r%d:=λq r=>by
  rw[BR,vv,o5,vx,o1,Nat.one_pow,one,HN,EA]
 have t:∀k,g^k%d=1->o∣k:=λk hk=>by
  have e:=Fj k o;rw[<-e,n] at hk;by_cases h0:k%o=0;·exact P0 h0
  .exact absurd ⟨∅,hk⟩ (x (k%o) (A0 _ C))
 have od:=t _ B;have h:mL fs∣o:=TQ λqe s=>by
  obtain⟨A,⟨c,hc⟩,E⟩:=hq qe s;obtain⟨m,hm⟩:=od;by_cases y:qe.1∣m
  .exfalso;obtain⟨R,hm'⟩:=y;have q0:0<qe.1:=by have:=A.1;omega
   have I:(N-1)/qe.1=o*R:=by
    rw[hm,hm',show o*(qe.1*R)=qe.1*(o*R) by rw[<-ve,rO o,ve],Nat.mul_div_cancel_left _ q0]
   have e1:g^((N-1)/qe.1)%d=1:=by
    have:=n R 0;rw[Nat.add_zero,t4,one] at this;rw[I];exact this
   have e2:d∣g^((N-1)/qe.1)%N+(N-1):=by
    have e3:(g^((N-1)/qe.1)%N)%d=1:=by rw[FE _ hd];exact e1
    obtain⟨k,hk⟩:=hd;have e4:=Fj (g^((N-1)/qe.1)%N) d;rw[e3] at e4;refine⟨(g^((N-1)/qe.1)%N)/d+k,?_⟩;rw[Nat.mul_add,<-hk];omega
   have e5:=Nat.dvd_gcd e2 hd;rw[E] at e5;have:=EU ∅ e5;omega
  .have cp:=Vy (ZF A y) qe.2;have v:qe.1^qe.2∣o*m:=⟨c,by rw[<-hm];exact hc⟩;exact cp.dvd_of_dvd_mul_right v
 have F:o<d:=by
  refine Nat.lt_of_not_le λl=>?_;have f:∀i,i<=N-1->(g^i%d)*(g^(N-1-i)%d)%d=1:=λi hi=>by
   rw[<-o5,<-BR,show i+(N-1-i)=N-1 by omega];exact B
  have D:o<=N-1:=EU ∅ od;have pos:∀i,i<o->0<g^i%d:=λi hi=>by
   refine km λz=>?_;have:=f i ∅;rw[z,Ka,Nat.zero_mod] at this;cases this
  obtain⟨i,j,h1,h2,h3⟩:=PY (d-1) (λi=>g^i%d-1) (λi hi=>by
   have a1:=pos i ∅;have a2:=A0 (g^i) (show d>0 by omega);omega)
  have pi:=pos i ∅;have pj:=pos j ∅;have e:g^i%d=g^j%d:=∅
  have G:g^j=g^i*g^(j-i):=by rw[<-BR,show i+(j-i)=j by omega]
  have u:=f i ∅;have k1:g^(j-i)%d=1:=by
   have w:(g^i%d)*(g^(N-1-i)%d)%d*(g^(j-i)%d)%d=(g^j%d)*(g^(N-1-i)%d)%d:=by
    rw[Jj,<-o5 (g^j),G]
    congr 1
    rw[ve,ve,rO (g^(N-1-i))]
   rw[u,HN,EA,<-e,u] at w;exact w
  exact x (j-i) ∅ ⟨∅,k1⟩
 exact qi (EU C h) F
theorem ZC{N g:Nat}(fs:List (Nat×Nat))(hN:2<=N)(h1:g^(N-1)%N=1%N)
  (hq:∀qe∈fs,aQ qe.1/\qe.1^qe.2∣N-1/\vy (g^((N-1)/qe.1)%N+(N-1)) N=1) (hF:N<(mL fs+1)*(mL fs+1)):aQ N:=by
 refine⟨hN,λd hd=>?_⟩;obtain⟨e,he⟩:=id hd;by_cases d1:d=1;·exact .inl d1
 by_cases e1:e=1;·right;rw[he,e1,Ei]
 exfalso;have d0:d≠0:=λz=>by rw[z,Ka] at he;omega
 have O:e≠0:=λz=>by rw[z,t2] at he;omega
 have b1:=NQ hN hd ∅ h1 hq;have b2:=NQ hN ⟨d,by rw[he,rO]⟩ (show 1<e by omega) h1 hq;have:=ra (show mL fs+1<=d from b1) (show mL fs+1<=e from b2);omega
noncomputable def Pe(N g:Nat)(fs:List (Nat×Nat)):Bool:=
 decide (2<=N) && decide (N<2^140) &&(pw N 140 (N-1) g 1%N==1) && fs.all (λqe=>((N-1)%qe.1^qe.2==0) &&(vy (pw N 140 ((N-1)/qe.1) g 1%N+(N-1)) N==1)) && decide (N<(mL fs+1)*(mL fs+1))
theorem eU{N:Nat}(g:Nat)(fs:List (Nat×Nat))(hp:∀qe∈fs,aQ qe.1)(h:Pe N g fs=true):aQ N:=by
 unfold Pe at h;simp only[fF,decide_eq_true_eq,beq_iff_eq,pZ] at h;obtain⟨⟨⟨⟨h1,h2⟩,h3⟩,h4⟩,h5⟩:=h;have P:∀e,e<=N-1->pw N 140 e g 1%N=g^e%N:=λe he=>by
  rw[Nf 140 e g 1 ∅,HN]
 refine ZC (g:=g) fs h1 (by rw[<-P _ (aW _),h3,nz ∅]) (λqe s=>?_) h5;obtain⟨g1,g2⟩:=h4 qe s;refine⟨hp qe s,P0 g1,?_⟩;rw[<-P _ (Nat.div_le_self _ _)];exact g2
def JO:aQ 2:=dD 4 ⋯ (by decide+kernel)
def YI:aQ 3:=dD 4 ⋯ (by decide+kernel)
def TZ:aQ 5:=dD 5 ⋯ (by decide+kernel)
def Fv:aQ 7:=dD 5 ⋯ (by decide+kernel)
def GD:aQ 11:=dD 6 ⋯ (by decide+kernel)
def VS:aQ 101:=dD 13 ⋯ (by decide+kernel)
def Xv:aQ 10007:=dD 103 ⋯ (by decide+kernel)
def Vq:aQ 65537:=dD 259 ⋯ (by decide+kernel)
def aeu:aQ 1000003:=dD 1003 ⋯ (by decide+kernel)
def ae3:aQ 17:=dD 7 ⋯ (by decide+kernel)
def F1:aQ 998244353:=eU 3 [(17,1),(7,1),(2,23)] (λqe h=>by
 simp only[aM,dX,or_false] at h;rcases h with rfl|rfl|rfl
 .exact ae3
 .exact Fv
 .exact JO) (by decide+kernel)
def y8:aQ 148721:=dD 388 ⋯ (by decide+kernel)
def FD:aQ 500000003:=eU 2 [(148721,1)] (λqe h=>by
 simp only[aM,dX,or_false] at h;subst h;exact y8) (by decide+kernel)
def Yf:aQ 1000000007:=eU 2 [(500000003,1)] (λqe h=>by
 simp only[aM,dX,or_false] at h;subst h;exact FD) (by decide+kernel)
def QZ:aQ 331:=dD 21 ⋯ (by decide+kernel)
def RI:aQ 151:=dD 15 ⋯ (by decide+kernel)
def agf:aQ 2147483647:=eU 3 [(331,1),(151,1)] (λqe h=>by
 simp only[aM,dX,or_false] at h;rcases h with rfl|rfl
 .exact QZ
 .exact RI) (by decide+kernel)
def Gr:aQ 250049:=dD 503 ⋯ (by decide+kernel)
def ack:aQ 26005097:=eU 2 [(250049,1)] (λqe h=>by
 simp only[aM,dX,or_false] at h;subst h;exact Gr) (by decide+kernel)
def ahT:aQ 1000000000039:=eU 2 [(26005097,1)] (λqe h=>by
 simp only[aM,dX,or_false] at h;subst h;exact ack) (by decide+kernel)
def adB:aQ 234931:=dD 487 ⋯ (by decide+kernel)
def afg:aQ 8740842787:=eU 2 [(234931,1)] (λqe h=>by
 simp only[aM,dX,or_false] at h;subst h;exact adB) (by decide+kernel)
def KN:aQ 52445056723:=eU 2 [(8740842787,1)] (λqe h=>by
 simp only[aM,dX,or_false] at h;subst h;exact afg) (by decide+kernel)
def ahl:aQ 1000000000000000003:=eU 2 [(52445056723,1)] (λqe h=>by
 simp only[aM,dX,or_false] at h;subst h;exact KN) (by decide+kernel)
def Ha:aQ 15331:=dD 126 ⋯ (by decide+kernel)
def aae:aQ 2131:=dD 49 ⋯ (by decide+kernel)
def WO:aQ 5594472617641:=eU 2 [(15331,1),(2131,1)] (λqe h=>by
 simp only[aM,dX,or_false] at h;rcases h with rfl|rfl
 .exact Ha
 .exact aae) (by decide+kernel)
def EL:aQ 18446744073709551557:=eU 2 [(5594472617641,1)] (λqe h=>by
 simp only[aM,dX,or_false] at h;subst h;exact WO) (by decide+kernel)
def JV:aQ 1321:=dD 39 ⋯ (by decide+kernel)
def U2:aQ 61:=dD 10 ⋯ (by decide+kernel)
def PH:aQ 2305843009213693951:=eU 3 [(1321,1),(331,1),(151,1),(61,1)] (λqe h=>by
 simp only[aM,dX,or_false] at h;rcases h with rfl|rfl|rfl|rfl
 .exact JV
 .exact QZ
 .exact RI
 .exact U2) (by decide+kernel)
def ae1:aQ 8707:=dD 96 ⋯ (by decide+kernel)
def V8:aQ 1913:=dD 46 ⋯ (by decide+kernel)
def abn:aQ 2931542417:=eU 3 [(8707,1),(1913,1)] (λqe h=>by
 simp only[aM,dX,or_false] at h;rcases h with rfl|rfl
 .exact ae1
 .exact V8) (by decide+kernel)
def Ye:aQ 2113:=dD 48 ⋯ (by decide+kernel)
def ED:aQ 683:=dD 29 ⋯ (by decide+kernel)
def P2:aQ 618970019642690137449562111:=eU 3 [(2931542417,1),(2113,1),(683,1)] (λqe h=>by
 simp only[aM,dX,or_false] at h;rcases h with rfl|rfl|rfl
 .exact abn
 .exact Ye
 .exact ED) (by decide+kernel)
def WJ:aQ 1097:=dD 36 ⋯ (by decide+kernel)
def acs:aQ 131:=dD 14 ⋯ (by decide+kernel)
def Yd:aQ 67254877:=eU 2 [(1097,1),(131,1)] (λqe h=>by
 simp only[aM,dX,or_false] at h;rcases h with rfl|rfl
 .exact WJ
 .exact acs) (by decide+kernel)
def Dx:aQ 28059810762433:=eU 3 [(67254877,1)] (λqe h=>by
 simp only[aM,dX,or_false] at h;subst h;exact Yd) (by decide+kernel)
def aaT:aQ 53:=dD 10 ⋯ (by decide+kernel)
def VO:aQ 37:=dD 9 ⋯ (by decide+kernel)
def aaS:aQ 13:=dD 6 ⋯ (by decide+kernel)
def xv:aQ 20394401:=eU 3 [(53,1),(37,1),(13,1)] (λqe h=>by
 simp only[aM,dX,or_false] at h;rcases h with rfl|rfl|rfl
 .exact aaT
 .exact VO
 .exact aaS) (by decide+kernel)
def Xf:aQ 162259276829213363391578010288127:=eU 3 [(28059810762433,1),(20394401,1)] (λqe h=>by
 simp only[aM,dX,or_false] at h;rcases h with rfl|rfl
 .exact Dx
 .exact xv) (by decide+kernel)
def Y4:aQ 699053:=dD 839 ⋯ (by decide+kernel)
def Bn:aQ 77158673929:=eU 3 [(699053,1)] (λqe h=>by
 simp only[aM,dX,or_false] at h;subst h;exact Y4) (by decide+kernel)
def WH:aQ 649657:=dD 809 ⋯ (by decide+kernel)
def FV:aQ 92737:=dD 307 ⋯ (by decide+kernel)
def aao:aQ 170141183460469231731687303715884105727:=eU 3 [(77158673929,1),(649657,1),(92737,1)] (λqe h=>by
 simp only[aM,dX,or_false] at h;rcases h with rfl|rfl|rfl
 .exact Bn
 .exact WH
 .exact FV) (by decide+kernel)
def Rp:aQ 7963:=dD 92 ⋯ (by decide+kernel)
def NF:aQ 3011:=dD 57 ⋯ (by decide+kernel)
def Vh:aQ 575438233:=eU 2 [(7963,1),(3011,1)] (λqe h=>by
 simp only[aM,dX,or_false] at h;rcases h with rfl|rfl
 .exact Rp
 .exact NF) (by decide+kernel)
def XC:aQ 52316542391429:=eU 2 [(575438233,1)] (λqe h=>by
 simp only[aM,dX,or_false] at h;subst h;exact Vh) (by decide+kernel)
def VF:aQ 104633084782859:=eU 2 [(52316542391429,1)] (λqe h=>by
 simp only[aM,dX,or_false] at h;subst h;exact XC) (by decide+kernel)
def Kx:aQ 179:=dD 16 ⋯ (by decide+kernel)
def aeF:aQ 31:=dD 8 ⋯ (by decide+kernel)
def WR:aQ 7935071:=eU 2 [(179,1),(31,1)] (λqe h=>by
 simp only[aM,dX,or_false] at h;rcases h with rfl|rfl
 .exact Kx
 .exact aeF) (by decide+kernel)
def UP:aQ 15870143:=eU 2 [(7935071,1)] (λqe h=>by
 simp only[aM,dX,or_false] at h;subst h;exact WR) (by decide+kernel)
def Yw:aQ 401321030361983486780957614729:=eU 2 [(104633084782859,1),(15870143,1)] (λqe h=>by
 simp only[aM,dX,or_false] at h;rcases h with rfl|rfl
 .exact VF
 .exact UP) (by decide+kernel)
def afa:aQ 1000000000000000000000000000000000000003:=eU 2 [(401321030361983486780957614729,1)] (λqe h=>by
 simp only[aM,dX,or_false] at h;subst h;exact Yw) (by decide+kernel)
def Xi:aQ 25733:=dD 163 ⋯ (by decide+kernel)
def aaK:aQ 1151:=dD 36 ⋯ (by decide+kernel)
def acz:aQ 4916701379:=eU 2 [(25733,1),(1151,1)] (λqe h=>by
 simp only[aM,dX,or_false] at h;rcases h with rfl|rfl
 .exact Xi
 .exact aaK) (by decide+kernel)
def abd:aQ 83:=dD 12 ⋯ (by decide+kernel)
def ZT:aQ 23:=dD 7 ⋯ (by decide+kernel)
def VH:aQ 1676254721:=eU 5 [(83,1),(23,1),(7,3)] (λqe h=>by
 simp only[aM,dX,or_false] at h;rcases h with rfl|rfl|rfl
 .exact abd
 .exact ZT
 .exact Fv) (by decide+kernel)
def y4:aQ 149927568276670622397029177:=eU 2 [(4916701379,1),(1676254721,1)] (λqe h=>by
 simp only[aM,dX,or_false] at h;rcases h with rfl|rfl
 .exact acz
 .exact VH) (by decide+kernel)
def Pt:aQ 9999999999999999999999999999999999999983:=eU 2 [(149927568276670622397029177,1)] (λqe h=>by
 simp only[aM,dX,or_false] at h;subst h;exact y4) (by decide+kernel)
end PC
namespace L2
open PC
def gc(p:Int):Prop:=2<=p/\∀d:Int,0<d->d∣p->d=1\/d=p
theorem gV(h:aQ n):gc (n:Int):=by
 refine⟨by have:=h.1;omega,λd d0 hd=>?_⟩;obtain⟨k,rfl⟩:=Ut (Int.le_of_lt d0);rcases h.2 k (Int.natCast_dvd_natCast.mp hd) with e|e
 .left;rw[e];rfl
 .right;rw[e]
theorem Hb(h2:2<=p)(h:BE p):gc p:=by
 obtain⟨n,rfl⟩:=Ut (show 0<=p by omega);refine gV (OV ∅ λe e1 e2 e3=>?_);refine h (e:Int) ∅ (by rw[<-o7];exact Int.ofNat_le.mpr e2) ?_;have:=congrArg (Nat.cast:Nat->Int) e3;simpa using this
def Bf:∀p∈Cb,gc p:=by
 intro p hp;simp only[Cb,aM,dX,or_false] at hp;rcases hp with rfl|rfl|rfl|rfl|rfl|rfl|rfl|rfl|rfl|rfl|rfl|rfl|rfl|rfl|rfl|rfl|rfl|rfl|rfl|rfl|rfl|rfl
 .exact gV JO
 .exact gV YI
 .exact gV TZ
 .exact gV Fv
 .exact gV JO
 .exact gV GD
 .exact gV VS
 .exact gV Xv
 .exact gV Vq
 .exact gV aeu
 .exact gV F1
 .exact gV Yf
 .exact gV agf
 .exact gV ahT
 .exact gV ahl
 .exact gV EL
 .exact gV PH
 .exact gV P2
 .exact gV Xf
 .exact gV aao
 .exact gV afa
 .exact gV Pt
def MZ:Sp:=λvs H Q _=>∃p b:Int,vs=[.int p, .int b]/\gc p/\p<10^40/\b%p≠0/\∀u:Int,0<=u->u<p->(∃k,u*b=1+p*k)->Q (.int u) H
def G1:Sp:=λvs H Q _=>∃p a b:Int,vs=[.int p, .int a, .int b]/\gc p/\p<10^40/\b%p≠0/\ -(10^61)<=a/\a<=10^61/\∀x:Int,0<=x->x<p->(∃k,b*x-a=p*k)->Q (.int x) H
end L2
namespace L2
def ah.three{a b c:PyData}(h:ah nb H [a,b,c] vs):∃x y z,vs=[x,y,z]/\af nb H a x/\af nb H b y/\af nb H c z:=by
 unfold ah at h;obtain⟨x,ys,rfl,h1,h⟩:=h;unfold ah at h;obtain⟨y,zs,rfl,h2,h⟩:=h;unfold ah at h;obtain⟨z,ws,rfl,h3,h⟩:=h;unfold ah at h;subst h;exact⟨x,y,z,rfl,h1,h2,h3⟩
def Ev.over(h:Av G ρ t λes=>∃p a b:Int,es.map (·.2)=[.int p, .int a, .int b]/\gc p/\p<10^40/\b%p≠0/\ -(10^61)<=a/\a<=10^61/\∀x:Int,0<=x->x<p->(∃k,b*x-a=p*k)->Φ true (.int x)):
  Ev G ρ (jh G1 [] E0 t) Φ:=λnb σ H Q W z=>
 h nb σ H _ W λes vs H1 ⟨p,a,b,e,h1,h2,h3,h4,h5,q⟩ s1 J=>by
  have hd:=J.all (f:=false) (λz=>by cases z);rw[e] at hd;obtain⟨x,y,w,rfl,d1,X,c⟩:=hd.three;rw[d1.bT,X.bT,c.bT];exact⟨p,a,b,rfl,h1,h2,h3,h4,h5,λx M Y u=>z true _ H1 _ (q x M Y u) s1 (.int x)⟩
theorem Fh{a b:Int}(hp:gc p)(h:p∣a*b)(ha:¬p∣a):p∣b:=by
 have p2:=hp.1;have g1:((h9 a p:Nat):Int)∣p:=me ..;have g2:((h9 a p:Nat):Int)∣a:=nC ..;have g0:0<((h9 a p:Nat):Int):=by
  have:h9 a p≠0:=λz=>by have:=(Q0.mp z).2;omega
  omega
 rcases hp.2 _ g0 g1 with e|e
 .have c:h8 p.natAbs a.natAbs:=by
   show vy p.natAbs a.natAbs=1;have:h9 a p=1:=∅
   rw[Nat.gcd_comm];exact this
  have h':p.natAbs∣b.natAbs*a.natAbs:=by rw[rO,<-Iv];exact Ci.mpr h
  exact Ci.mp (c.dvd_of_dvd_mul_right h')
 .rw[e] at g2;exact absurd g2 ha
theorem Yb{a b:Int}(ha:0<=a)(d:a<p)(hb:0<=b)(c:b<p)(h:p∣a-b):a=b:=by
 obtain⟨k,e⟩:=h;rcases mf k 0 with z|z|z
 .have:p*k<=p*(-1):=w5 ∅ ∅;omega
 .subst z;omega
 .have:p*1<=p*k:=w5 ∅ ∅;omega
section
variable{G:Gx}{ρ:Rh}{Φ:Pd}{te:TE}{t:TA}{i n:Nat}{f:Bool}{ds:List PyData}{Θ:List PyData->Prop}
def Ev.tupS(h:Av G ρ t λes=>es.length<=10000/\Φ (kG es||fE (es.map (·.2))) (.tuple (es.map (·.2)))):Ev G ρ (qA t) Φ:=λnb σ H Q W z=>
 h nb σ H _ W λes vs H1 ⟨hl,p⟩ s1 J=>⟨cU (by rw[J.len];exact hl) ⋯,λa ha=>z _ _ _ _ p (s1.trans (.same (W.step s1).aq (dU ha))) (by
  cases hs:fE (es.map (·.2)) with
  |true=>rw[tJ];exact .tup ((W.step s1).fresh ha) aV ((J.all (f:=false) λz=>by cases z).kg hs)
  |false=>rw[qh];exact .tup ((W.step s1).fresh ha) aV ((J.all λz=>z).keep (bC.of (dU ha))))⟩
theorem Ev.NC(h:Ev G ρ te λ_ x=>∃n:Int,x= .int n/\2<=n/\n<=10002/\∀r:Int,gc r->r<10^40->Φ true (.int r)):Ev G ρ (jh JN [] E0 (aU te bK)) Φ:=λnb σ H Q W z=>
 h nb σ H _ W λf v H1 d ⟨n,e,h1,h2,p⟩ s1 hv=>by
  subst e;exact⟨n,by rw[hv.bT];rfl,h1,h2,λr H' u g O m=>z true _ H' _ (p r (Hb g m) ∅) (s1.trans (.same (W.step s1).aq u)) (.int r)⟩
theorem Ev.str{x:Str}(h:Φ true (.str x)):Ev G ρ (tC (.str x)) Φ:=λnb σ H Q W z=>z true _ H _ h (.refl W.aq) (by unfold af;rfl)
end
theorem Eu.fin{b L lt t:Int}(h:Eu p b L lt 0 t)(hp:gc p)(hb:b%p≠0):∃k,lt%p*b=1+p*k:=by
 obtain⟨g1,g2⟩:=h.dv L (Int.dvd_refl L) (Int.dvd_zero L);have m1:=jM b (show p≠0 by have:=hp.1;omega);have m2:=jK b (show 0<p by have:=hp.1;omega);have y:L=1:=by
  rcases hp.2 L h.l0 g1 with e|e
  .exact e
  .exfalso;rw[e] at g2;have:=IC ∅ g2;omega
 obtain⟨k,hk⟩:=h.lc;have e:=pM lt p;refine⟨-k-lt/p*b,?_⟩;have e2:lt%p=lt-p*(lt/p):=∅
 rw[e2,A9,oR,vi,lG];omega
noncomputable def sol(p b a:Int):Int:=open Classical in if h:∃x,0<=x/\x<p/\∃k,b*x-a=p*k then n3 h else 0
theorem QL{b a x:Int}(hp:gc p)(hb:b%p≠0)(h0:0<=x)(h1:x<p)(hx:∃k,b*x-a=p*k):x=sol p b a:=by
 have ex:∃x,0<=x/\x<p/\∃k,b*x-a=p*k:=⟨x,h0,h1,hx⟩;unfold sol;rw[dif_pos ex];obtain⟨g0,g1,t,hk'⟩:=S1 ex;generalize n3 ex=y at*;obtain⟨k,hk⟩:=hx;refine Yb h0 h1 g0 g1 (Fh hp (a:=b) ⟨k-t,?_⟩ λz=>hb (Pp z));rw[oR,oR];omega
theorem SK{b a:Int}(hp:0<p):0<=sol p b a/\sol p b a<p:=by
 unfold sol;split
 .rename_i h
  obtain⟨g0,g1,_⟩:=S1 h;exact⟨g0,g1⟩
 .omega
noncomputable def cA(wd:Wo)(prs:aB):aB:=prs.filter λpr=>wd[pr.1.toNat]?==some none
def P6:cA wd (prs++[pr])=if wd[pr.1.toNat]?=some none then cA wd prs++[pr] else cA wd prs:=by
 unfold cA;rw[mS];by_cases c:wd[pr.1.toNat]?=some none;·rw[if_pos c,qD (by rw[c];rfl)];rfl
 .rw[if_neg c,pW (by simpa using c)];simp
noncomputable def cQ(p:Int)(prs:aB)(rest:Int)(wd:Wo):Option (Int×Int):=match cA wd prs with
 |[pr]=>some (pr.1,sol p pr.2 (rest-dG prs wd%p))
 |_=>none
noncomputable def Qu:Option (Int×Int)->PyData
 |none=> .none
 |some pr=>xl pr
def EW(p:Int)(prs:aB):Prop:=∀pr∈prs,pr.2%p≠0
def j3(p:Int)(cs:List aB)(m:Nat):Prop:=gc p/\p<10^40/\cs.length<=1000/\∀prs∈cs,prs.length<=1000/\tK prs m/\EW p prs
theorem j3.at{c:Int}(h:j3 p cs m)(h0:0<=c)(h1:c<cs.length):∃prs,cs[c.toNat]?=some prs/\cs.getD c.toNat []=prs/\prs.length<=1000/\tK prs m/\EW p prs:=by
 have hc:c.toNat<cs.length:=∅
 refine⟨cs[c.toNat],aL hc,?_,h.2.2.2 _ (jB hc)⟩;rw[iM,aL hc];rfl
noncomputable abbrev cN:=Int×Int×Int
noncomputable abbrev xX(m:cN):PyData:= .tuple [.int m.1, .int m.2.1, .int m.2.2]
noncomputable def vM(p:Int)(cs:List aB)(wd:Wo)(m:cN):PyData:=
 if m.2.1<0\/(cs.length:Int)<=m.2.1 then .str "check" else match cQ p (cs.getD m.2.1.toNat []) 0 wd with
 |none=> .str "place"
 |some (a,x)=>if a≠m.1 then .str "place" else if x≠m.2.2 then .str "letter" else .none
noncomputable def xk(wd:Wo)(ms:List cN):Wo:=ms.foldl (λw m=>w.set m.1.toNat (some m.2.2)) wd
def xr{ms:List cN}{m:cN}:xk wd (ms++[m])=(xk wd ms).set m.1.toNat (some m.2.2):=by
 unfold xk;rw[pN];rfl
def Yn(p:Int)(cs:List aB)(wd:Wo)(ms:List cN)(j:Nat):Prop:=∃m,ms[j]?=some m/\vM p cs (xk wd (ms.take j)) m= .none
def R7(h:pr∈cA wd prs):pr∈prs/\wd[pr.1.toNat]?=some none:=by
 unfold cA at h;have:=iN.mp h;exact⟨this.1,by simpa using this.2⟩
def Bw{rest:Int}{a x:Int}(hp:0<p)(h:cQ p prs rest wd=some (a,x)):∃pr∈prs,pr.1=a/\wd[a.toNat]?=some none/\0<=x/\x<p:=by
 unfold cQ at h;split at h
 .rename_i pr e
  cases h;have:=R7 (wd:=wd) (prs:=prs) (pr:=pr) (by rw[e];simp);exact⟨pr,this.1,rfl,this.2,SK hp⟩
 .cases h
def wR{k:Int}(h0:0<=k)(h1:k<n):ji n k=some k.toNat:=by
 unfold ji;rw[if_pos h0,if_pos h1]
def nW{ms:List cN}:(xk wd ms).length=wd.length:=by
 unfold xk;induction ms generalizing wd with
 |nil=>rfl
 |cons m r ih=>rw[tQ,ih,gR]
def gH{K:PySem.W.Frag}{l:ek}(b:X.K=K)(hl:PE X l tl):PI X tg l (qq K tl):=by subst b;exact W4 hl
def QW(p:Int)(cs:List aB)(wd:Wo)(ms:List cN):Prop:=∀j<ms.length,Yn p cs wd ms j
theorem Kj{m:cN}(h:vM p cs wd m= .none):0<=m.2.1/\m.2.1<cs.length/\cQ p (cs.getD m.2.1.toNat []) 0 wd=some (m.1,m.2.2):=by
 unfold vM at h;split at h;·cases h
 rename_i c
 split at h;·cases h
 rename_i a x e
 split at h;·cases h
 rename_i u
 split at h;·cases h
 rename_i r
 have u:a=m.1:=∅
 have r:x=m.2.2:=∅
 subst u r;exact⟨∅,∅,e⟩
def F9{a x:Int}(h:cQ p prs 0 wd=some (a,x)):∃pr,cA wd prs=[pr]/\pr.1=a/\x=sol p pr.2 (0-dG prs wd%p):=by
 unfold cQ at h;split at h
 .rename_i pr e
  cases h;exact⟨pr,e,rfl,rfl⟩
 .cases h
theorem YG{a c x:Int}(h0:0<=c)(h1:c<cs.length)(h:cQ p (cs.getD c.toNat []) 0 wd=some (a,x)):vM p cs wd (a,c,x)= .none:=by
 unfold vM;rw[if_neg (by show¬(c<0\/(cs.length:Int)<=c);omega)];show(match cQ p (cs.getD c.toNat []) 0 wd with|none=>_|some (a',x')=>_)=_;rw[h];simp
noncomputable def cnt(wd:Wo):Nat:=wd.countP λo=>o.isNone
theorem RY:∀{wd:Wo} {k:Nat} {x:Int},wd[k]?=some none->cnt (wd.set k (some x))+1=cnt wd
  |[],k,x,h=>by simp at h
  | o :: wd, 0, x, h => by
    simp at h;subst h;simp[cnt]
  | o :: wd, k + 1, x, h => by
    have ih:=RY (wd:=wd) (k:=k) (x:=x) (by simpa using h);unfold cnt at ih⊢;rw[List.set_cons_succ,n4,n4];omega
theorem N3{p:Int}{cs:List aB}{wd:Wo}{ms:List cN}(hp:0<p)(h1:QW p cs wd ms):∀j,j<=ms.length->cnt (xk wd (ms.take j))+j=cnt wd
  |0,_=>by simp[xk]
  | j + 1, O => by
    have ih:=N3 hp h1 j ∅;obtain⟨m,e1,e2⟩:=h1 j ∅;rw[xj e1,xr];obtain⟨c0,c1,e3⟩:=Kj e2;obtain⟨pr,g1,g2,X,_⟩:=Bw hp e3;have:=RY (x:=m.2.2) X;omega
def Ge(wd:Wo):cnt wd<=wd.length:=List.countP_le_length
section
variable{G:Gx}{ρ:Rh}{Φ:Pd}{ta tb te:TE}{E:DE}{K:PySem.W.Frag}
def Ev.slT{tl th:TO}(h:Ev G ρ te λf x=>∃ds,x= .tuple ds/\Ov G ρ tl λlo=>Ov G ρ th λhi=>¬(HT.gU ds.length 0 lo=0/\HT.gU ds.length ds.length hi=ds.length)/\Φ f (.tuple (nv ds lo hi))):Ev G ρ (xU (Wt K) te tl th) Φ:=λnb σ H Q W z=>
 h nb σ H _ W λf v H1 d ⟨ds,e,q⟩ s1 hv=>q nb σ H1 _ (W.step s1) λlo H2 M s2=>M nb σ H2 _ ((W.step s1).step s2) λhi H3 ⟨hn,P⟩ Z=>by
  subst e;obtain⟨a,xs,rfl,n,hx,hd⟩:=((hv.keep s2.c8).keep Z.c8).ofT;have W3:=((W.step s1).step s2).step Z;refine⟨a,xs,rfl, .of hx,by rw[hd.length];exact hn,λp hp=>?_⟩;exact z f _ _ _ P (s1.trans (s2.trans (Z.trans (.same W3.aq (dU hp))))) (.tup (W3.fresh hp) aV (hd.cut.keep (bC.of (dU hp))))
def Ev.aiL(h:Ev G ρ ta λf x=>∃ds,x= .tuple ds/\ds≠[]/\Ev G ρ tb λg y=>∃es,y= .tuple es/\es≠[]/\ds.length+es.length<=10000/\Φ (f && g) (.tuple (ds++es))):Ev G ρ (er (Bi K) ta tb) Φ:=λnb σ H Q W z=>
 h nb σ H _ W λf v H1 d ⟨ds,e,U,q⟩ s1 hv=>q nb σ H1 _ (W.step s1) λg u H2 X ⟨es,e2,b,hl,p⟩ s2 Y=>by
  subst e e2;obtain⟨a,xs,rfl,n,hx,hd⟩:=(hv.keep s2.c8).ofT;obtain⟨c,ys,rfl,m,hy,hc⟩:=Y.ofT;have W2:=(W.step s1).step s2;have wG:=hd.length;have hyl:=hc.length;refine⟨a,c,xs,ys,rfl,rfl, .of hx, .of hy,λz=>U (qb.mp (by rw[<-wG,z];rfl)),cU (by rw[wG,hyl];exact hl) ⋯,λz=>absurd (qb.mp (by rw[<-hyl,z];rfl)) b,λ_ q hq=>?_⟩;refine z (f && g) _ _ _ p (s1.trans (s2.trans (.same W2.aq (dU hq)))) (.tup (W2.fresh hq) aV ?_);exact(ah.append (hd.av (cg (λz=>(fF _ _▸z).1) λ_ z=>z)) (hc.av (cg (λz=>(fF _ _▸z).2) λ_ z=>z))).keep (bC.of (dU hq))
end
noncomputable def vD(es:List Fd):Bool:=es.all λe=>e.1||gE e.2
section
variable{G:Gx}{ρ:Rh}{Φ:Pd}{t:TA}{te:TE}
theorem l8.Ri{nb:ar->Prop}{H:Hp}:∀{es:List Fd} {vs:List V} {f:Bool},l8 G nb H es vs->(f=true->vD es=true)->ah (G.S nb f) H (es.map (·.2)) vs
  |[],_,_,h,_=>by unfold l8 at h;subst h;exact .nil
  | e :: es, _, f, h, hf => by
    obtain⟨v,ws,rfl,h1,h2⟩:=h;have L:f=true->(e.1||gE e.2)=true/\vD es=true:=λz=>by
      have:=hf z;unfold vD at this;rw[qE,fF] at this;exact this
    refine .cons ?_ (h2.Ri λz=>(L z).2);cases hs:gE e.2 with
    |true=>exact h1.kg hs
    |false=>exact h1.av (cg (λz=>by have:=(L z).1;rw[hs,qh] at this;exact this) λ_ z=>z)
def Ev.JG(h:Av G ρ t λes=>es.length<=10000/\Φ (vD es) (.tuple (es.map (·.2)))):Ev G ρ (qA t) Φ:=λnb σ H Q W z=>
 h nb σ H _ W λes vs H1 ⟨hl,p⟩ s1 J=>⟨cU (by rw[J.len];exact hl) ⋯,λa ha=>z _ _ _ _ p (s1.trans (.same (W.step s1).aq (dU ha)))
  (.tup ((W.step s1).fresh ha) aV ((J.Ri λz=>z).keep (bC.of (dU ha))))⟩
end
def Wr:R2:=λx y H Q=>∃a b:Bool,x= .bl a/\y= .bl b/\Q (.bl (!(a==b))) H
def Ev.aiP(h:Ev G ρ ta λ_ x=>∃a,x= .bool a/\Φ true (.bool (!(a==b)))):Ev G ρ (er Wr ta (tC (.bl b))) Φ:=λnb σ H Q W z=>
 h nb σ H _ W λf v H1 d ⟨a,e,q⟩ s1 hv=>by
  subst e;unfold af at hv;subst hv;exact⟨a,b,rfl,rfl,z true _ H1 _ q s1 (.bl _)⟩
noncomputable abbrev Lu(r:List Int):PyData:= .list (r.map .int)
section
variable{κ:Type}[DecidableEq κ]
noncomputable def iD(kvs:List (κ×V))(k:κ):Option V:=(kvs.find? λa=>decide (a.1=k)).map (·.2)
noncomputable def putK(kvs:List (κ×V))(k:κ)(v:V):List (κ×V):=
 if(kvs.any λa=>decide (a.1=k))=true then kvs.map (λa=>if a.1=k then(a.1,v) else a) else kvs++[(k,v)]
noncomputable def oO(kvs:List (κ×V))(k:κ):List (κ×V):=kvs.filter λa=>decide (a.1≠k)
def X5{k:κ}:iD ([]:List (κ×V)) k=none:=rfl
def zM{p:κ×V}{r:List (κ×V)}{k:κ}(e:p.1=k):iD (p::r) k=some p.2:=by simp[iD,m5,e]
def zE{p:κ×V}{r:List (κ×V)}{k:κ}(e:¬p.1=k):iD (p::r) k=iD r k:=by simp[iD,m5,e]
theorem C4(k:κ):∀kvs:List (κ×V),(kvs.any λa=>decide (a.1=k))=(iD kvs k).isSome
  |[]=>rfl
  | p :: r => by
    rw[oE];by_cases e:p.1=k;· simp only[zM e,decide_eq_true e,uO,Option.isSome_some]
    · rw[zE e,decide_eq_false e,rE];exact C4 k r
theorem aeR(kvs:List (κ×V))(k:κ)(v:V):(putK kvs k v).length<=kvs.length+1:=by
 unfold putK;split;·rw[aj];omega
 .rw[cP,dM,ph];omega
def i8.xR{o:Option V}{u:Option ag}(r:i8 o u):o.isSome=u.isSome:=by
  cases o with
  | none => cases u with
    |none=>rfl
    |some _=>exact(show False from r).elim
  | some _ => cases u with
    |none=>exact(show False from r).elim
    |some _=>rfl
theorem i8.getD{o:Option V}{u:Option ag}{d:V}{d':ag}(r:i8 o u)(rd:RelV d d'):RelV (o.getD d) (u.getD d'):=by
  cases o with
  | none => cases u with
    |none=>exact rd
    |some _=>exact(show False from r).elim
  | some _ => cases u with
    |none=>exact(show False from r).elim
    |some _=>exact r
def KV.val{kvs:List (κ×V)}{vs:List (κ×ag)}(r:KV kvs vs)(k:κ):i8 (iD kvs k) (iq vs k):=by
  unfold KV at r;induction r with
  |nil=>exact de
  | @cons p q ps j h t ih =>
    obtain⟨h1,h2⟩:=h;by_cases e:p.1=k
    · have e':q.1=k:=h1.symm.trans e
      have b:iq (q::j) k=some q.2:=by simp[iq,m5,e']
      rw[zM e,b];exact h2
    · have e':¬q.1=k:=λz=>e (h1.trans z)
      have b:iq (q::j) k=iq j k:=by simp[iq,m5,e']
      rw[zE e,b];exact ih
theorem KV.any{kvs:List (κ×V)}{vs:List (κ×ag)}(r:KV kvs vs)(k:κ):(kvs.any λa=>decide (a.1=k))=vs.any λa=>decide (a.1=k):=by
 unfold KV at r;induction r with
 |nil=>rfl
 |cons h t ih=>rw[oE,oE,ih,h.1]
def KV.repl{kvs:List (κ×V)}{vs:List (κ×ag)}(r:KV kvs vs)(k:κ){y:V}{u:ag}(d:RelV y u):
    KV (kvs.map λa=>if a.1=k then(a.1,y) else a) (vs.map λa=>if a.1=k then(a.1,u) else a):=by
  unfold KV at r⊢;induction r with
  |nil=>exact .nil
  | @cons p q ps j h t ih =>
    rw[bR,bR];refine .cons ?_ ih;obtain⟨h1,h2⟩:=h;by_cases e:p.1=k;· rw[if_pos e,if_pos (h1.symm.trans e)];exact⟨h1,d⟩
    · rw[if_neg e,if_neg (λz=>e (h1.trans z))];exact⟨h1,h2⟩
def KV.put{kvs:List (κ×V)}{vs:List (κ×ag)}(r:KV kvs vs)(k:κ){y:V}{u:ag}(d:RelV y u):KV (putK kvs k y) (stored vs k u):=by
 unfold putK stored;rw[r.any k];by_cases e:(vs.any λa=>decide (a.1=k))=true;·rw[if_pos e,if_pos e];exact r.repl k d
 .rw[if_neg e,if_neg e];exact Paired.snoc r ⟨rfl,d⟩
def KV.drop{kvs:List (κ×V)}{vs:List (κ×ag)}(r:KV kvs vs)(k:κ):KV (oO kvs k) (without vs k):=by
  unfold KV at r⊢;unfold oO without;induction r with
  |nil=>exact .nil
  | @cons p q ps j h t ih =>
    obtain⟨h1,h2⟩:=h;rw[oF,oF];by_cases e:p.1=k
    · have a:¬decide (p.1≠k)=true:=by simp[e]
      have b:¬decide (q.1≠k)=true:=by simp[h1.symm.trans e]
      rw[if_neg a,if_neg b];exact ih
    · have e':¬q.1=k:=λz=>e (h1.trans z)
      have a:decide (p.1≠k)=true:=by simp[e]
      have b:decide (q.1≠k)=true:=by simp[e']
      rw[if_pos a,if_pos b];exact .cons ⟨h1,h2⟩ ih
def KV.keys{kvs:List (κ×V)}{vs:List (κ×ag)}(r:KV kvs vs):kvs.map (·.1)=vs.map (·.1):=by
 unfold KV at r;induction r with
 |nil=>rfl
 |cons h t ih=>rw[bR,bR,ih,h.1]
theorem KV.length{kvs:List (κ×V)}{vs:List (κ×ag)}(r:KV kvs vs):kvs.length=vs.length:=Paired.length r
def Uk(kvs:List (κ×V))(k:κ):(oO kvs k).length<=kvs.length:=yk _ _
end
def nY{P:bo}{k:Key}(r:RelV (kV k) u):(iy P w).is k u=true:=by
 cases k with
 |inl i=>obtain⟨t,e⟩:=(show∃t,u=gd i t from r);subst e;exact Wg P w i t
 |inr x=>obtain⟨t,e⟩:=(show∃t,u=hG x t from r);subst e;exact x5 P w x t
theorem Ox{P:bo}{w:cx}:∀{ks:List Key} {us:List ag},Vals (ks.map kV) us->ItemsAre (iy P w) ks us
  |[],_,r=>by rw[qQ] at r;cases r;exact .nil
  | k :: ks, _, r => by
    rw[bR] at r;cases r with
    |cons h t=>exact .cons (nY h) (Ox t)
abbrev KT(H:Hp):List (List Key×V)->List (List Key×ar×ag)->Prop:=Paired λp q=>p.1=q.1/\H q.2.1=some (.tup (p.1.map kV))/\RelV p.2 q.2.2
def KT.val{kvs:List (List Key×V)}{xs:List (List Key×ar×ag)}(r:KT H kvs xs)(k:List Key):i8 (iD kvs k) ((w6 xs k).map (·.2)):=by
  induction r with
  |nil=>exact de
  | @cons p q ps j h t ih =>
    obtain⟨h1,_,h2⟩:=h;by_cases e:p.1=k
    · have e':q.1=k:=h1.symm.trans e
      have b:w6 (q::j) k=some q.2:=by simp[w6,m5,e']
      rw[zM e,b];exact h2
    · have e':¬q.1=k:=λz=>e (h1.trans z)
      have b:w6 (q::j) k=w6 j k:=by simp[w6,m5,e']
      rw[zE e,b];exact ih
section
variable{P:bo}{w:cx}{H:Hp}{h:eh}{a:ar}
def UC{u:HO}(ok:ff P w H h)(e:Rd H a u):dJ P w H h a u:=e.ok ok
def nU(ok:ff P w H h)(e:Rd H a (.dK kvs)):kvs.length<=sizeLine/\(a==eD)=false/\∃vs,KV kvs vs/\h.DictOf (iy P w) a vs:=
 show dJ P w H h a (.dK kvs) from UC ok e
def D9(ok:ff P w H h)(e:H a=some (.dK kvs)):kvs.length<=sizeLine/\(a==eD)=false/\∃vs,KV kvs vs/\h.DictOf (iy P w) a vs:=nU ok (.inl e)
def Kv{ks:List Key}(ok:ff P w H h)(e:H a=some (.tup (ks.map kV))):(ox (iy P w)).is h ks a:=by
 obtain⟨_,its,r,o,h1,h2,n,h3⟩:=(show dJ P w H h a (.tup (ks.map kV)) from ok a _ e);exact⟨o,its.toArray,n,h1,h2,h3,by simpa using Ox r⟩
def LG{kvs:List (List Key×V)}(ok:ff P w H h)(e:Rd H a (.dT kvs)):kvs.length<=sizeLine/\(a==eD)=false/\
    ∃xs,KT H kvs xs/\h.DictOfH (ox (iy P w)) a xs:=by
  obtain⟨z,y,xs,r,o,es,ep,h1,h2,h3,h4,h5⟩:=(show dJ P w H h a (.dT kvs) from UC ok e);refine⟨z,y,xs,r,o,es,ep,h1,h2,h3,h4,λx hx=>?_,h5⟩;have all:∀{l:List (List Key×V)} {m:List (List Key×ar×ag)},KT H l m->∀x∈m,(ox (iy P w)).is h x.1 x.2.1:=by
    intro l m q;induction q with
    |nil=>intro x hx;exact nomatch hx
    | @cons p q ps j hq t ih =>
      intro x hx;rcases aM.mp hx with e|hx
      · subst e
        exact Kv ok (by rw[<-hq.1];exact hq.2.1)
      · exact ih x hx
  exact all r x hx
end
def rm(H:Hp)(a:ar)(y:V)(r:Option V):Prop:=
 (∃kvs k,Rd H a (.dK kvs)/\y=kV k/\r=iD kvs k)\/∃kvs k b,Rd H a (.dT kvs)/\y= .ref b/\H b=some (.tup (k.map kV))/\r=iD kvs k
theorem rm.k{H:Hp}{a:ar}{kvs:List (Key×V)}{k:Key}(e:H a=some (.dK kvs)):rm H a (kV k) (iD kvs k):= .inl ⟨kvs,k, .inl e,rfl,rfl⟩
section
variable{X:Cx}{pins:List (ar×Obj)}{σ:qr}{H:Hp}{s:aw}{a:ar}{y v:V}{u r:ag}{o:Option V}{A:c4}{E:ag->aw->Prop}
def Inv.big(I:Inv X pins σ H s):eD<s.heap.objs.size:=by
 have h:bc<s.heap.objs.size:=(I.mod.glob.keeps I.bk).lt;exact xH ⋯ h
def aaA(Y:A.units+1<tj)(I:Inv X pins σ H s)(g:rm H a y o)(d:RelV y u)(h:∀s',Inv X pins σ H s'->Q (.bool o.isSome) s'):
  wpAny (bj X.prog X.w) A (da .In u (.ref a)) Q E s:=by
 rcases g with ⟨kvs,k,e,ey,l⟩|⟨kvs,k,b,e,ey,eb,l⟩
 .subst ey;obtain⟨z,hd,vs,rel,dd⟩:=nU I.hok e;refine wpAny_in_of (nY d) hd dd.mapOf ?_;rw[<-(rel.val k).xR,<-l];exact h _ (I.tok _)
 .subst ey;cases (show u=cc b from d);obtain⟨z,hd,xs,rel,dd⟩:=LG I.hok e;refine wpAny_in_heap (ky Y) (Kv I.hok eb) hd dd ?_;have q:=(rel.val k).xR;rw[Af] at q;rw[<-q,<-l];exact h _ (I.tok _)
def Vn(Y:A.units+1<tj)(I:Inv X pins σ H s)(g:rm H a y o)(d:RelV y u)(h:∀s',Inv X pins σ H s'->Q (.bool (!o.isSome)) s'):
  wpAny (bj X.prog X.w) A (da .NotIn u (.ref a)) Q E s:=by
 rcases g with ⟨kvs,k,e,ey,l⟩|⟨kvs,k,b,e,ey,eb,l⟩
 .subst ey;obtain⟨z,hd,vs,rel,dd⟩:=nU I.hok e;refine wpAny_notIn_of (nY d) hd dd.mapOf ?_;rw[<-(rel.val k).xR,<-l];exact h _ (I.tok _)
 .subst ey;cases (show u=cc b from d);obtain⟨z,hd,xs,rel,dd⟩:=LG I.hok e;refine wpAny_notIn_heap (ky Y) (Kv I.hok eb) hd dd ?_;have q:=(rel.val k).xR;rw[Af] at q;rw[<-q,<-l];exact h _ (I.tok _)
def J4{B:HO}(I:Inv X pins σ H s)(d:wN (H a))(hs:eu a s.heap h')(he:∃q,h'.get? a=some q)(new:dJ X.prog X.w (upd H a B) h' a B):
  Inv X pins σ (upd H a B) {s with heap:=h',toks:=t'}:=
 I.write (x:=a) (e:=a) d (.inl rfl) (λb q hb z=>(hs.2 b hb).trans z) he new
def JJ{P:bo}{vs:List (Key×ag)}(z:kvs.length<=sizeLine)(hd:(a==eD)=false)(rel:KV kvs vs)(dd:h'.DictOf (iy P w) a vs):
  dJ P w H' h' a (.dK kvs):=⟨z,hd,vs,rel,dd⟩
end
section
variable{X:Cx}{pins:List (ar×Obj)}{σ:qr}{H:Hp}{s:aw}{a:ar}{kvs:List (Key×V)}{k:Key}{u:ag}{A:c4}{E:ag->aw->Prop}
def air{Q:Unit->aw->Prop}(I:Inv X pins σ H s)(e:H a=some (.dK kvs))(d:RelV (kV k) u)(l:(iD kvs k).isSome=true)(h:∀s',Inv X pins σ (upd H a (.dK (oO kvs k))) s'->Q () s'):
  wpAny (bj X.prog X.w) A (delItem (.ref a) u) Q E s:=by
 obtain⟨z,hd,vs,rel,dd⟩:=D9 I.hok e
 refine wpAny_delItem_slot dd.typeIs ⋯ SI
  (m3 SI dd.typeIs PySem.F.entry_dict_delitem (PySem.F.args_dict_delitem_2 _ _) (meets_dict_delitem_pairs (iy X.prog X.w) a (nY d)) ⟨vs,dd,by rw[<-rel.length];exact z,by rw[<-(rel.val k).xR];exact l,λh' c hs=>h _ ?_⟩)
 have he:∃q,h'.get? a=some q:=let ⟨q,_,_,hq,_⟩:=c;⟨q,hq⟩;exact J4 I (by rw[e];exact de) hs he (JJ (cU (Uk kvs k) z) hd (rel.drop k) c)
def F7{v:V}{more:List ag}(I:Inv X pins σ H s)(e:H a=some (.dK kvs))(d:RelV (kV k) u)(l:iD kvs k=some v)(hm:more=[]\/∃x,more=[x])
  (h:∀w' s',Inv X pins σ (upd H a (.dK (oO kvs k))) s'->RelV v w'->Q w' s'):wpAny (bj X.prog X.w) A (call (.builtin "dict.pop") (.ref a::u::more)) Q E s:=by
 obtain⟨z,hd,vs,rel,dd⟩:=D9 I.hok e;obtain⟨w',hw,b⟩:=i8.some_of (v:=v) (o:=iq vs k) (by rw[<-l];exact rel.val k);have hp:(keyPart u).isSome=true:=by
  cases k with
  |inl i=>obtain⟨t,q⟩:=(show∃t,u=gd i t from d);subst q;rfl
  |inr x=>obtain⟨t,q⟩:=(show∃t,u=hG x t from d);subst q;rfl
 have ha:r3 "dict.pop" ⟨.ref a::u::more,[]⟩:=by
  rcases hm with q|⟨x,q⟩
  .subst q;exact PySem.F.args_dict_pop_2 _ _
  .subst q;exact PySem.F.args_dict_pop_3 _ _ _
 refine m3 HJ dd.typeIs PySem.F.entry_dict_pop ha (meets_dict_pop_there (iy X.prog X.w) a (nY d) more hm hp)
  ⟨vs,w',dd,by rw[<-rel.length];exact z,hw,λh' c hs=>h w' _ ?_ b⟩
 have he:∃q,h'.get? a=some q:=let ⟨q,_,_,hq,_⟩:=c;⟨q,hq⟩;exact J4 I (by rw[e];exact de) hs he (JJ (cU (Uk kvs k) z) hd (rel.drop k) c)
end
def abk{P:bo}(h:eh)(hb:eD<h.objs.size):dJ P w H (h.push {cls:= .type "dict",data:= .dict #[]}) h.objs.size (.dK []):=
 ⟨iP _,beq_eq_false_iff_ne.mpr (cY (fM hb)),[], .nil,w7 h⟩
def vm:TE:=λ_ H Q=>∀p,H p=none->Q (.ref p) (upd H p (.dK []))
section
variable{X:Cx}{pos:Pos}
def nL:PE X (.Dict [] [] pos) vm:=λpins s σ H Q I h=>
 wpAny_Dict_empty ⟨.ref s.heap.objs.size,_,I.laid (a:=s.heap.objs.size) (o:= .dK []) (t':=s.toks) (λ_ _ q=>dz _ q) (aW _) (abk s.heap I.big),rfl,h _ (I.hok.fresh (aW _))⟩
end
end L2
variable{ms:List L2.cN}
/-THE LAST THEOREM (shape;LID,My.*are yours):
   My.Adr:a structure of the addresses that your layer names (classes,functions);My.Txt K t:a structure (Prop) of the equations over K;
   My.txt_mk:{K} {implicit addresses ..} (e1:nsIn K bc "law"=some (some (.ref f))) (e2:K.lookup f=some ⟨oc,od, .func (fnOf "law" "law" params body scope dV kV doc pm an cdv ct),sl⟩) (e3:codeIn K cdv "law"=true) .. :∃t,My.Txt K t
(the tactic k_is has no namespace:write k_is)-/
namespace L2
section
variable{prog:bo}{w:cx}{A:c4}{E:ag->aw->Prop}{s:aw}
def ae7{r d:ar}{P:Nat->ag->Prop}{c:eh->Prop}{Q:List ag->aw->Prop}(K:PySem.W.KdlSrc prog w T r d n P c)(L:A.handled=none)(hok:c s.heap)(hn:n<=sizeLine)
  (J:∀h' tk' items,(∀b o,s.heap.get? b=some o->h'.get? b=some o)->s.heap.objs.size<=h'.objs.size->items.length=n->(∀(i:Nat) v,items[i]?=some v->P i v)->Q items {s with heap:=h',toks:=tk'}):wpAny (bj prog w) A (vt (.ref r)) Q E s:=by
 obtain⟨f,ld⟩:=K.there _ hok;unfold vt;refine ae (i1 (du L5 ?_));rw[qu Lp _];show wpAny _ A.in1 (vb []>>=λl=>again (.builtin "list.__iadd__" ⟨[l, .ref r],[]⟩)) _ _ s;refine ae (df ?_);refine a3 ⟨fg Ar _,du Ot ?_⟩;rw[qu Ar _];have j:(s.heap.push ({cls:= .type "list",data:= .seq ([]:List ag).toArray}:Obj)).get? s.heap.objs.size=some {cls:= .type "list",data:= .seq ([]:List ag).toArray}:=iH _ rfl;show wpAny _ A.in1 (eC (.ref s.heap.objs.size) (.ref r) (.ref s.heap.objs.size)) _ _ {s with heap:=s.heap.push ({cls:= .type "list",data:= .seq ([]:List ag).toArray}:Obj)}
 refine PySem.W.kdl_extend (A:=A) (R:=λr s'=>match r with
    | .ok (.ret v)=>wpAny (bj prog w) A (match v with| .ref x=>(do match(<-load x).data with| .seq xs _=>pure xs.toList|_=>g4 "internal:collect")|_=>g4 "internal:collect") Q E s'
    | .ok _=>False
    | .error e=>E e s') (s:={s with heap:=s.heap.push ({cls:= .type "list",data:= .seq ([]:List ag).toArray}:Obj)}) K L (K.keep _ _ hok λb _ o e=>dz _ e) s.heap.objs.size (sV f) (sV ld) _ _ j (λh' tk a c' hk N g=>?_) hn
 refine ae (rr N (a3 ?_));refine J h' tk a.toList (λb o e=>hk b o (fM (cT e)) (dz _ e)) (lV (cT N)) (by rw[mj];exact g.1) λi v e=>g.2 i v (by rw[<-qy];exact e)
theorem afS{vs:List (Key×ag)}{ms:List Int}(L:A.handled=none)(lo:(a==eD)=false)(hd:s.heap.DictOf (iy prog w) a vs)(hk:vs.map (·.1)=ms.map cZ)(d:ms.length<64)
    (h:∀h' f (l:ar) (out:List ag) (ns:List Int) (e:Nat),(∀b o,s.heap.get? b=some o->h'.get? b=some o)->s.heap.objs.size<=l->h'.get? l=some (tz "list" out.toArray e)->fH out ns->ns.Pairwise (· <= ·)->ns.Perm ms->
      Q (.ref l) {s with heap:=h',toks:=f}):wpAny (bj prog w) A (call (.builtin "sorted") [.ref a]) Q E s:=by
  obtain⟨ep,T⟩:=hd.dictAt;have n:vs.length=ms.length:=by have:=congrArg eQ hk;simpa using this
  refine S6 kind_sorted plain_sorted entry_sorted (args_sorted1 _) ?_;unfold g8.«sorted»;refine ae (m:=checkCount "sorted" 1 1 _) (a3 (ae ?_));refine ae7 (A:=A.in1) (PySem.W.kdl_dict lo) L T (by rw[n];exact cU (lV d) ⋯) λh1 p items k1 k2 D c=>?_;have hI:fH items ms:=by
    have key:∀(its:List ag) (us:List (Key×ag)) (ms:List Int),us.map (·.1)=ms.map cZ->its.length=us.length->(∀(i:Nat) v,its[i]?=some v->∃k x,us[i]?=some (k,x)/\(iy prog w).is k v=true)->fH its ms:=by
      intro its;induction its with
      | nil =>
        intro us ms e l _;cases us with
        | nil => cases ms with
          |nil=>exact .nil
          |cons _ _=>cases e
        |cons _ _=>cases l
      | cons v its ih =>
        intro us ms e l hp;cases us with
        |nil=>cases l
        | cons u us => cases ms with
          |nil=>cases e
          | cons m ms =>
            have e1:u.1=cZ m:=by injection e
            have e2:us.map (·.1)=ms.map cZ:=by injection e
            obtain⟨k,x,J,M⟩:=hp 0 v rfl;have J:u=(k,x):=by simpa using J
            subst J;have e1:k=cZ m:=e1;subst e1;obtain⟨t,rfl⟩:=xW (k:=m) (v:=v) M;exact .cons m t (ih us ms e2 (by simpa using l) λi v q=>by simpa using hp (i+1) v (by simpa using q))
    exact key items vs ms hk D c
  have hlen:items.length=ms.length:=by rw[D,n]
  refine ae (tf ?_);have j:(h1.push (tz "list" items.toArray 0)).get? h1.objs.size=some (tz "list" items.toArray 0):=iH _ rfl;refine ae (dA (cv ql ⟨_,j,rfl⟩ px (qs j hI ∅ λout g a1 a2 C=>⟨_,rfl,?_⟩) (qw _)));obtain⟨e,he⟩:=ti (out:=out) j;refine a3 ⟨_,rfl,h _ p h1.objs.size out.toList g e (λb o q=>?_) k2 (by simpa using he) a1 C a2⟩;have lb:=cT (k1 b o q);rw[qx (fM lb) (by rw[mY];exact qY lb)];exact dz _ (k1 b o q)
end
def qt:List V->Hp->VK->Prop:=λxs H Q=>∃a,∃kvs:List (Key×V),∃ms:List Int,xs=[.ref a]/\Rd H a (.dK kvs)/\kvs.map (·.1)=ms.map cZ/\ms.length<64/\
 ∀l (rs:List Int),H l=none->rs.Pairwise (· <= ·)->rs.Perm ms->Q (.ref l) (upd H l (.lst (rs.map V.int)))
def Cc(hc:X.calm=true):iK X (.builtin "sorted") qt:=by
 intro pins s σ H xs us Q I rv h;obtain⟨a,kvs,ms,rfl,p,hk,d,q⟩:=h;obtain⟨u,rfl,D⟩:=vals1 rv;cases D;obtain⟨z,hd,vs,rel,dd⟩:=nU I.hok p;refine afS (I.ok.hd hc) hd dd (by rw[<-rel.keys];exact hk) d λh' f l out ns e kp hl b hI pw pp=>?_;have new:dJ X.prog X.w (upd H l (.lst (ns.map V.int))) h' l (.lst (ns.map V.int)):=by
  refine⟨?_,out,e,Im hI,b⟩;rw[aj,pp.length_eq];exact cU (lV d) ⋯
 exact⟨.ref l,_,I.laid (t':=f) kp hl new,rfl,q _ _ (I.hok.fresh hl) pw pp⟩
section
variable{X:Cx}
def jG:R2:=λx y H Q=>∃a kvs k v,x= .ref a/\y=kV k/\Rd H a (.dK kvs)/\iD kvs k=some v/\Q v H
def lO:nD X jG:=by
 intro value slice pins s σ H x y v u Q I rx ry h hs;obtain⟨a,kvs,k,z,rfl,rfl,p,hv,q⟩:=h;cases rx;obtain⟨hz,hd,vs,rel,dd⟩:=nU I.hok p;have hT:=dd.typeIs (s:=s);obtain⟨w',hw,b⟩:=i8.some_of (v:=z) (o:=iq vs k) (by rw[<-hv];exact rel.val k);unfold j2;refine ae ?_;rw[getitemInPython_of_ne hT.not_modules];refine ae (pk hT PySem.F.slot_dict_getitem.lookup ?_);have fin:wpAny (bj X.prog X.w) X.A (oL slice false (.ref a) u) (λr e=>wpAny (bj X.prog X.w) X.A (letTemporaryGo value (.ref a) r>>=λ_=>pure r) (EP X pins σ Q) X.xe e) X.xe s:=by
  rw[hs];refine wpAny_operating (n7 (nY ry) dd.mapOf hw ?_);exact ae (wpAny_letTemporaryGo (a3 ⟨z,H,I.tok _,b,q⟩))
 first
  |exact a3 (ae fin)
  |exact ae (a3 (ae fin))
  |exact ae fin
def vn:V->V->V->Hp->(Hp->Prop)->Prop:=λo i v H Q=>∃a kvs k,o= .ref a/\i=kV k/\H a=some (.dK kvs)/\kvs.length<sizeLine/\Q (upd H a (.dK (putK kvs k v)))
theorem set_dict:Aq X vn:=by
 intro pins s σ H o i v ov iv u Q I ro ri rv h;obtain⟨a,kvs,k,rfl,rfl,p,WB,q⟩:=h;cases ro;obtain⟨z,hd,vs,rel,dd⟩:=D9 I.hok p;have hz:vs.length<=sizeLine:=by rw[<-rel.length];exact z
 have hl:(putK kvs k v).length<=sizeLine:=by have:=aeR kvs k v;omega
 refine wpAny_setItem_pairs (hsz:=hz) (nY ri) dd λh' c hs=>?_;have he:∃q,h'.get? a=some q:=let ⟨q,_,_,hq,_⟩:=c;⟨q,hq⟩;exact⟨_,J4 I (by rw[p];exact de) hs he (JJ hl hd (rel.put k rv) c),q⟩
end
noncomputable abbrev Cn:=List (Int×Int)
structure Ma(cs:Cn):Prop where
 p8:∀c∈cs,0<=c.1/\c.1<=12/\0<=c.2/\c.2<=10^7
 nd:(cs.map (·.1)).Nodup
 len:cs.length<=14
 pos:∃c∈cs,0<c.1/\0<c.2
noncomputable def PX:Cn->Rat->Rat
 |[],_=>0
 |c::r,v=>(if 0<c.1 then((c.1*c.2:Int):Rat)*v^(c.1.toNat-1) else 0)+PX r v
noncomputable def Mr:Cn->Int
 |[]=>0
 |c::r=>c.1*c.2+Mr r
noncomputable def RW(cs:Cn)(v:Rat):Rat:=PX cs v/(Mr cs:Int)
noncomputable def Hd(l c:Cn)(s v:Rat):Rat:=s*RW l (1-RW c (1-v))
section
variable{l c:Cn}{s:Rat}(hl:Ma l)(hc:Ma c)(s0:0<=s)
include hl hc s0
end
noncomputable def M5(x:Rat):Int:= -((-x).floor)
structure Gw where
 l:Cn
 c:Cn
 s:Rat
 u:Int
noncomputable def Gw.gr(g:Gw)(x:Int):Rat:=Hd g.l g.c g.s ((x:Rat)/g.u)*g.u
noncomputable def Gw.lo(g:Gw):Nat->Int
 |0=>(g.s*g.u).floor
 |k+1=>(g.gr (g.lo k)).floor
noncomputable def Gw.hi(g:Gw):Nat->Int
 |0=>M5 (g.s*g.u)
 |k+1=>M5 (g.gr (g.hi k))
@[reducible] noncomputable def bdD(g:Gw)(k:Nat):PyData:= .tuple [.int (g.lo k), .int (g.hi k)]
@[reducible] noncomputable def aiN(n:Nat):PyData:= .tuple [.str "falls", .int n]
@[reducible] noncomputable def aiJ(x:Int):PyData:= .tuple [.str "stays", .int x]
@[reducible] noncomputable def aiu:PyData:= .tuple [.str "open"]
def XX(K:PySem.W.Frag)(n:Nat)(t:kE):TG:=λv σ H Q=>∃a xs,v= .ref a/\bL K H a xs/\xs.length=n/\t xs σ H Q
def Gv.lst{G:Gx}{ρ:Rh}{f:Bool}{ds:List PyData}{K:PySem.W.Frag}{Θ:Rh->Prop}{n:Nat}{u:kE}(hl:ds.length=n)(h:pB G ρ u f ds Θ):Gv G ρ (XX K n u) f (.list ds) Θ:=λnb σ H v Q W hv z=>by
 obtain⟨a,xs,rfl,m,hx,hd⟩:=hv.ig;exact⟨a,xs,rfl, .of hx,by rw[hd.length];exact hl,h nb σ H xs Q W hd z⟩
end L2
namespace L2
open PySem PySem.Spec PyProof.Rows PySem.W
section
variable{n:Nat}{cmp:Nat->Nat->(Bool->aw->Prop)->aw->Prop}{s:aw}
variable(h0:0<n)(hc:∀i j C,i<n->j<n->(∀b,C b s)->cmp i j C s)
include h0 hc
end
theorem aD.ag3{tb:TE}(h:Ev G ρ te λf d=>Ev G ρ tb λ_ y=>∃k,y= .int k/\k<=10000/\ -(10000)<=k/\∀g,Θ g (au k.toNat d)):aD G ρ (er KO (oX (aU te bK)) tb) Θ:=λnb σ H Q W z=>
 h nb σ H _ W λf v H1 d' q s1 hv=>by
  refine⟨by show 1<=sizeLine;decide,λp hp=>?_⟩;have W1:=W.step s1;have s2:Step G.B H1 (upd H1 p (.lst [v])):= .same W1.aq (dU hp);refine q nb σ _ _ (W1.step s2) λg u H2 X ⟨k,e2,h1,h2,p2⟩ Z Y=>?_;subst e2;have hN:NB G.B p:=λb l e z=>by
   subst z;exact NB.mh (B:=G.B) (a:=p) s1.2 (λz=>z _ _ e rfl) hp
  refine⟨p,k,[v],rfl,Y.bT,Z.1 _ _ hN aV,∅,∅,?_,λa ha=>?_⟩
  .show 1*k.toNat<=sizeLine;exact cU (show 1*k.toNat<=10000 by omega) ⋯
  .have hv2:=(hv.keep s2.c8).keep Z.c8;have hd:ah (G.S nb f) H2 (au k.toNat d') (au k.toNat [v]).flatten:=by
    induction k.toNat with
    |zero=>exact .nil
    |succ m ih=>rw[ou,ou,sR];exact .cons hv2 ih
   exact aD.fin (f:=f) W (s1.trans (s2.trans Z)) ha hd (p2 _) z
section
variable{n:Nat}{key:Nat->Int}{cmp:Nat->Nat->(Bool->aw->Prop)->aw->Prop}{s:aw}
variable(h0:0<n)(hc:∀i j C,i<n->j<n->C (decide (key i<key j)) s->cmp i j C s)
include h0 hc
end
end L2
namespace L2
@[reducible] noncomputable def aie(l c:Cn)(u p:Int):Gw:=⟨l,c,(p:Rat)/u,u⟩
def Ev.lend{f:Bool}(i:Nat)(e:ρ[i]?=some (.own a f ds))(h:Ev G (ρ.set i (.d f (.list ds))) te λ_ d=>gE d=true/\Φ true d):Ev G ρ te Φ:=λnb σ H Q W z=>
 h _ σ H Q (Sv.share W e) λf v H' d ⟨hs,p⟩ st hv=>z true v H' d p st (hv.kg hs)
def Tv.lend{t:TT}{Θ:Bool->Prop}{f:Bool}(i:Nat)(e:ρ[i]?=some (.own a f ds))(h:Tv G (ρ.set i (.d f (.list ds))) t Θ):Tv G ρ t Θ:=λnb σ H Q W z=>
 h _ σ H Q (Sv.share W e) z
noncomputable abbrev Ks:=List (Int×PyData)
noncomputable def bJ(ks:Ks)(k:Int):Option PyData:=(ks.find? λp=>decide (p.1=k)).map (·.2)
noncomputable def dh(ks:Ks)(k:Int):Bool:=ks.any λp=>decide (p.1=k)
noncomputable def eH(ks:Ks)(k:Int)(d:PyData):Ks:=if dh ks k then ks.map λp=>if p.1=k then(p.1,d) else p else ks++[(k,d)]
noncomputable def jz(ks:Ks)(k:Int):Ks:=ks.filter λp=>decide (p.1≠k)
def mH(ks:Ks)(k:Int):(bJ ks k).isSome=dh ks k:=by
  unfold bJ dh;rw[Af];induction ks with
  |nil=>rfl
  | cons p r ih =>
    rw[m5,oE];by_cases h:p.1=k;· simp[h]
    · simp only[h,decide_false,rE];exact ih
def ko{ks:Ks}{k:Int}:dh ks k=true↔k∈ks.map (·.1):=by
 unfold dh;rw[tE,cM];constructor;·rintro⟨p,h1,h2⟩;exact⟨p,h1,by simpa using h2⟩
 .rintro⟨p,h1,h2⟩;exact⟨p,h1,by simpa using h2⟩
def FP{k:Int}:bJ [] k=none:=rfl
def pY{p:Int×PyData}{r:Ks}{k:Int}:bJ (p::r) k=if p.1=k then some p.2 else bJ r k:=by
 unfold bJ;rw[m5];by_cases h:p.1=k<;>simp[h]
def YQ{ks:Ks}{k j:Int}:bJ (ks.map λp=>if p.1=k then(p.1,d) else p) j=if j=k then(if dh ks k=true then some d else none) else bJ ks j:=by
  induction ks with
  |nil=>simp[bJ,dh]
  | cons p r ih =>
    rw[bR,pY,ih,pY];unfold dh;rw[oE];by_cases h1:p.1=k<;>by_cases h2:j=k<;>by_cases h3:p.1=j<;>simp_all [dh]<;>rw[decide_eq_false (by assumption)]<;>rfl
def Ip{ks:Ks}{k j:Int}:bJ (ks++[(k,d)]) j=match bJ ks j with|some x=>some x|none=>if j=k then some d else none:=by
  induction ks with
  | nil =>
    rw[oP,pY,FP];by_cases h:k=j;· subst h;simp
    · have h':¬j=k:=λz=>h z.symm
      simp[h,h']
  | cons p r ih =>
    rw[lB,pY,pY,ih];by_cases h:p.1=j<;>simp[h]
def N7{ks:Ks}{k j:Int}:bJ (eH ks k d) j=if j=k then some d else bJ ks j:=by
 unfold eH;split
 .rename_i h
  rw[YQ,h];simp
 .rename_i h
  rw[Ip];by_cases e:j=k
  .subst e;have:bJ ks j=none:=by
    have:=mH ks j;cases hv:bJ ks j with
    |none=>rfl
    |some x=>rw[hv] at this;exact absurd this.symm h
   simp[this]
  .cases bJ ks j<;>simp[e]
section
variable{S:ar->Prop}{H:Hp}
theorem ao.val:∀{ks:Ks} {ps:List (Key×V)} (k:Int),ao S H (ks.map aH) ps->match bJ ks k with|some d=>∃v,iD ps (cZ k)=some v/\af S H d v|none=>iD ps (cZ k)=none
  |[],ps,k,h=>by unfold ao at h;subst h;exact X5
  | p :: r, ps, k, h => by
    rw[bR] at h;unfold ao at h;obtain⟨q,j,rfl,h1,h2⟩:=h;unfold cH at h1;obtain⟨h3,h4⟩:=h1;have h3:q.1=cZ p.1:=h3;rw[pY];have ih:=ao.val k h2;by_cases e:p.1=k
    · rw[if_pos e]
      refine⟨q.2,?_,h4⟩;rw[zM (by rw[h3,e])]
    · rw[if_neg e,zE (λz=>e (by rw[h3] at z;exact E1 z))]
      exact ih
theorem ao.snoc:∀{ks:Ks} {ps:List (Key×V)} {k:Int} {d:PyData} {v:V},ao S H (ks.map aH) ps->af S H d v->ao S H ((ks++[(k,d)]).map aH) (ps++[(cZ k,v)])
  | [], ps, k, d, v, h, hd => by
    unfold ao at h;subst h;show ao S H [aH (k,d)] [(cZ k,v)];unfold ao;exact⟨_,_,rfl,by unfold cH;exact⟨rfl,hd⟩,by unfold ao;rfl⟩
  | p :: r, ps, k, d, v, h, hd => by
    rw[bR] at h;unfold ao at h;obtain⟨q,j,rfl,h1,h2⟩:=h;rw[lB,bR,lB];unfold ao;exact⟨q,_,rfl,h1,ao.snoc h2 hd⟩
theorem ao.repl:∀{ks:Ks} {ps:List (Key×V)} {k:Int} {d:PyData} {v:V},ao S H (ks.map aH) ps->af S H d v->ao S H ((ks.map λp=>if p.1=k then(p.1,d) else p).map aH) (ps.map λa=>if a.1=cZ k then(a.1,v) else a)
  |[],ps,k,d,v,h,hd=>by unfold ao at h;subst h;simp only[qQ];unfold ao;rfl
  | p :: r, ps, k, d, v, h, hd => by
    rw[bR] at h;unfold ao at h;obtain⟨q,j,rfl,h1,h2⟩:=h;rw[bR,bR,bR];unfold cH at h1;obtain⟨h3,h4⟩:=h1;have h3:q.1=cZ p.1:=h3;unfold ao;refine⟨_,_,rfl,?_,ao.repl h2 hd⟩;by_cases e:p.1=k
    · rw[if_pos e,if_pos (by rw[h3,e])]
      unfold cH;exact⟨h3,hd⟩
    · rw[if_neg e,if_neg (λz=>e (by rw[h3] at z;exact E1 z))]
      unfold cH;exact⟨h3,h4⟩
theorem ao.any:∀{ks:Ks} {ps:List (Key×V)} (k:Int),ao S H (ks.map aH) ps->(ps.any λa=>decide (a.1=cZ k))=dh ks k:=λ{ks ps} k h=>by
 rw[C4,<-mH];have:=ao.val k h;cases hv:bJ ks k with
 |none=>rw[hv] at this;rw[this];rfl
 |some d=>rw[hv] at this;obtain⟨v,e,_⟩:=this;rw[e];rfl
def ao.put{ks:Ks}{k:Int}{v:V}(h:ao S H (ks.map aH) ps)(hd:af S H d v):ao S H ((eH ks k d).map aH) (putK ps (cZ k) v):=by
 unfold eH putK;rw[ao.any k h];split;·exact ao.repl h hd
 .exact ao.snoc h hd
theorem ao.len:∀{ks:Ks} {ps:List (Key×V)},ao S H (ks.map aH) ps->ps.length=ks.length
  |[],ps,h=>by unfold ao at h;subst h;rfl
  | p :: r, ps, h => by
    rw[bR] at h;unfold ao at h;obtain⟨q,j,rfl,_,h2⟩:=h;simp[ao.len h2]
theorem ao.keys:∀{ks:Ks} {ps:List (Key×V)},ao S H (ks.map aH) ps->ps.map (·.1)=(ks.map (·.1)).map cZ
  |[],ps,h=>by unfold ao at h;subst h;rfl
  | p :: r, ps, h => by
    rw[bR] at h;unfold ao at h;obtain⟨q,j,rfl,h1,h2⟩:=h;unfold cH at h1;have h3:q.1=cZ p.1:=h1.1;simp[ao.keys h2,h3]
end
def kZ(G:Gx)(ρ:Rh)(te:TE)(Φ:Bool->Ks->Prop):Prop:=∀nb σ H (Q:VK),Wd G nb ρ σ H->
 (∀f a ps H' ks,Φ f ks->Step G.B H H'->H a=none->H' a=some (.dK ps)->ao (λx=>G.S nb f x\/x=a) H' (ks.map aH) ps->Q (.ref a) H')->te σ H Q
section
variable{G:Gx}{ρ dg:Rh}{Φ Ψ:Pd}{ta tb te:TE}{t:TA}{i:Nat}{f g:Bool}{d e:PyData}{ks:Ks}{K:PySem.W.Frag}{E:DE}{Θ:Bool->Ks->Prop}
def Wd.grow{o:HO}(W:Wd G nb ρ σ H)(s1:Step G.B H H1)(ha:H a=none)(e:H1 a=some o):Wd G (λx=>nb x\/x=a) ρ σ H1/\NB G.B a/\∀f x,G.S (λx=>nb x\/x=a) f x->(G.S nb f x\/x=a):=by
  have hN:NB G.B a:=NB.new W.aq ha;have hA:∀f x,G.S (λx=>nb x\/x=a) f x->(G.S nb f x\/x=a):=λf x z=>by
    rcases z with (z|z)|z|z|z
    · exact .inl (.inl z)
    · exact .inr z
    · exact .inl (.inr (.inl z))
    · exact .inl (.inr (.inr (.inl z)))
    · exact .inl (.inr (.inr (.inr z)))
  have W1:=W.step s1;refine⟨?_,hN,hA⟩;refine⟨W1.aq,λx n=>?_,W1.old,λx n q=>?_,W.gA,W.len,W.gB,λh m=>(((W.dw h m).fresh ha).keep (s1.but λx z=> .inl (.inr (.inr (.inl z))))).av (hA h.1),λj s e'=>?_,W.apart,W.fB,W.cL⟩
  · rcases n with n|n
    · exact W1.live x n
    · subst n;rw[e];exact gx _
  · rcases n with n|n
    · exact W.cJ x n q
    · subst n
      cases z:G.H0 x with
      |none=>rfl
      |some o=>rw[W.old x o q z] at ha;cases ha
  · obtain⟨x,e1,h⟩:=W.ok j s e'
    refine⟨x,e1,?_⟩;cases s with
    |no=>trivial
    |d f d=>obtain⟨v,e,h⟩:=h;exact⟨v,e,((h.fresh ha).keep (s1.but λx z=> .inl (.inr (.inr (.inl z))))).av (hA f)⟩
    |own c f es=>obtain⟨e,n,q,xs,hx,hd⟩:=h;exact⟨e, .inl n,q,xs,s1.1 _ _ q hx,((hd.fresh ha).keep (s1.but λx z=> .inl (.inr (.inr (.inl z))))).av (hA f)⟩
    |aq=>exact h
    |raw v=>exact h
    |bB c f es=>obtain⟨e,n,q,xs,hx,hd⟩:=h;exact⟨e, .inl n,q,xs,s1.1 _ _ q hx,((hd.fresh ha).keep (s1.but λx z=> .inl (.inr (.inr (.inl z))))).av (hA f)⟩
    | cu c =>
      obtain⟨e,n,q⟩:=h;refine⟨e,λa ha=>⟨.inl (n a ha).1,(n a ha).2⟩,c.av (hA c.f) (c.keep (.of λx o hx e=>s1.1 x o ?_ e) (c.fresh ha q))⟩;rcases hx with hx|hx
      · exact jl λz=>hx (.inl (.inr (.inr (.inl z))))
      · exact(n x hx).2
def ZI(W:Wd G nb ρ σ H)(s1:Step G.B H H1)(ha:H a=none)(e:H1 a=some (.dK ps))(hd:ao (λx=>G.S nb f x\/x=a) H1 (ks.map aH) ps):
  Wd G (λx=>nb x\/x=a) (ρ.set i (.bB a f ks)) (σ.set i (some (.ref a))) H1:=by
 obtain⟨W2,hN,hA⟩:=W.grow s1 ha e;refine W2.set ⟨rfl, .inr rfl,hN,ps,e,hd.av (hA f)⟩ (λ_ _ _ z=>by cases z) ?_ (λx hx j t O ht hc=>?_)
 rotate_left
 .have hx:x=a:=aF.mp hx;subst hx;rcases hc with ⟨c,z⟩|⟨c,rfl⟩
  .cases z
  .exact λz=>W.live x ((W.ok j _ ht).choose_spec.2.2.1 x z).1 ha
 rintro a' f' ds' ⟨rfl,rfl,rfl⟩ j c g cs O hc z;subst z;obtain⟨x,e1,h1,h2,h3,ys,hy,_⟩:=W.ok j _ hc;rw[hy] at ha;cases ha
def Sv.wQ(h:kZ G ρ te λf ks=>∀a,E.nx (ρ.set i (.bB a f ks))):Sv G ρ (gu te (gh i)) E:=λnb σ H D W K=>h nb σ H _ W λf a ps H1 ks q s1 ha e hd=>K.nx _ _ _ H1 (q a) (ZI W s1 ha e hd)
def kZ.new(h:Θ true []):kZ G ρ vm Θ:=λnb σ H Q W z p hp=>z true p [] _ [] h (.same W.aq (dU hp)) hp aV (by unfold ao;rfl)
@[reducible] noncomputable def itD(p:Int×PyData):PyData:= .tuple [.int p.1,p.2]
def Pk{b:Ks}(W:Wd G nb ρ σ H)(e:ρ[i]?=some (.bB a f ks))(hd:ao (G.S nb g) H (b.map aH) ps):Wd G nb (ρ.set i (.bB a g b)) σ (upd H a (.dK ps)):=by
 obtain⟨x,e1,h1,h2,h3,ys,hy,_⟩:=W.ok i _ e;subst h1;have D:i<ρ.length:=(bH.mp e).1;have W0:Wd G nb (ρ.set i .no) (σ.set i (some (.ref a))) H:=W.set trivial λ_ _ _ z=>by cases z
 have W1:Wd G nb (ρ.set i .no) (σ.set i (some (.ref a))) (upd H a (.dK ps)):=W0.write h2 h3 (λj c k cs hc z=>by
   subst z;have hij:i≠j:=λz=>by subst z;rw[dB D] at hc;cases hc
   rw[bQ hij] at hc;obtain⟨_,_,_,_,_,ps,hp,_⟩:=W.ok j _ hc;rw[hy] at hp;cases hp) (λj c k cs hc=>by
   by_cases hij:i=j;·subst hij;rw[dB D] at hc;cases hc
   .rw[bQ hij] at hc;exact(W.fB i j _ _ _ _ _ _ hij e hc).symm) (λj c hc z=>by
   have hij:i≠j:=λz=>by subst z;rw[dB D] at hc;cases hc
   rw[bQ hij] at hc;exact W.cL j i c _ (cY hij) hc e a z (aF.mpr rfl))
 have W2:=W1.set (i:=i) (s:= .bB a g b) (x:=some (.ref a)) ⟨rfl,h2,h3,ps,aV,hd.keep (bC.set (.inl h2))⟩ (λ_ _ _ z=>by cases z) (by
  rintro a' k ds' ⟨rfl,rfl,rfl⟩ j c g' cs O hc;rw[bQ (cY O)] at hc;exact W.fB i j _ _ _ _ _ _ (cY O) e hc) (λx hx j t O ht hc z=>by
  rw[bQ (cY O)] at ht;have hx:x=a:=aF.mp hx;subst hx;rcases hc with ⟨c,q⟩|⟨c,rfl⟩
  .cases q
  .exact W.cL j i c _ O ht e x z (aF.mpr rfl))
 rw[nk,nk] at W2;have:σ.set i (some (.ref a))=σ:=by
  apply iu;intro j;by_cases hij:i=j;·subst hij;rw[dB (by rw[W.len];exact D),e1]
  .rw[bQ hij]
 rwa[this] at W2
def Sv.BL(e:ρ[i]?=some (.bB a f ks))(h:Ev G ρ te λg d=>Ev G ρ tb λ_ y=>∃k,y= .int k/\ks.length<10000/\E.nx (ρ.set i (.bB a (f && g) (eH ks k d)))):Sv G ρ (gu te (lZ (br i) tb vn)) E:=λnb σ H D W KK=>
 h nb σ H _ W λg v H1 d q s1 hv=>by
  obtain⟨x,e1,h1,h2,h3,ps,hp,hd⟩:=(W.step s1).ok i _ e;subst h1;refine⟨.ref a,e1,q nb σ H1 _ (W.step s1) λg' u H2 y ⟨k,r,hl,p⟩ s2 Y=>?_⟩;subst r;have W2:=(W.step s1).step s2;have hlen:=hd.len;refine⟨a,ps, .inl k,rfl,Y.bT,s2.1 _ _ h3 hp,fX (by rw[hlen];exact hl) ⋯,KK.nx nb _ _ _ p (Pk W2 e ?_)⟩;exact ao.put ((hd.keep s2.c8).av (cg (λz=>(fF _ _▸z).1) λ_ z=>z)) ((hv.keep s2.c8).av (cg (λz=>(fF _ _▸z).2) λ_ z=>z))
namespace Ev
def Nu(e:ρ[i]?=some (.bB a f ks))(h:Ev G ρ tb λ_ y=>∃k,y= .int k/\∃d,bJ ks k=some d/\Φ f d):Ev G ρ (er jG (br i) tb) Φ:=λnb σ H Q W z=>by
 obtain⟨x,e1,h1,h2,h3,ps,hp,hd⟩:=W.ok i _ e;subst h1;refine⟨.ref a,e1,h nb σ H _ W λg w H1 y ⟨k,r,d,hv,p⟩ s1 hw=>?_⟩;subst r;have:=ao.val k (hd.keep s1.c8);rw[hv] at this;obtain⟨v,b,O⟩:=this;exact⟨a,ps, .inl k,v,rfl,hw.bT, .inl (s1.1 _ _ h3 hp),b,z f _ H1 _ p s1 O⟩
end Ev
end
def Cv(b:Bool):R2:=λx y H Q=>∃a o,y= .ref a/\rm H a x o/\Q (.bl (o.isSome !=b)) H
theorem LA(Y:X.A.units+64<tj):fu X (da .In) (Cv false):=by
 intro pins s σ H x y v u Q I rx ry h;obtain⟨a,o,rfl,g,q⟩:=h;cases ry;exact aaA ∅ I g rx λs' b=>⟨.bl o.isSome,H,b,rfl,by simpa using q⟩
theorem Cf(Y:X.A.units+64<tj):fu X (da .NotIn) (Cv true):=by
 intro pins s σ H x y v u Q I rx ry h;obtain⟨a,o,rfl,g,q⟩:=h;cases ry;exact Vn ∅ I g rx λs' b=>⟨.bl (!o.isSome),H,b,rfl,by simpa using q⟩
section
variable{G:Gx}{ρ:Rh}{Φ:Pd}{ta tb te:TE}{i:Nat}{f:Bool}{ks:Ks}{K:PySem.W.Frag}{E:DE}
def Ev.BG(e:ρ[i]?=some (.bB a f ks))(h:Ev G ρ ta λ_ y=>∃k,y= .int k/\Φ true (.bool (dh ks k !=b))):Ev G ρ (er (Cv b) ta (br i)) Φ:=λnb σ H Q W z=>
 h nb σ H _ W λg w H1 y ⟨k,r,p⟩ s1 hw=>by
  obtain⟨x,e1,h1,h2,h3,ps,hp,hd⟩:=(W.step s1).ok i _ e;subst h1 r;refine⟨.ref a,e1,a,_,rfl,by rw[hw.bT];exact rm.k (k:= .inl k) hp,?_⟩;have:(iD ps (cZ k)).isSome=dh ks k:=by rw[<-C4];exact ao.any k hd
  rw[this];exact z true _ H1 _ p s1 (.bl _)
def Ki(W:Wd G nb ρ σ H)(e:ρ[i]?=some (.bB a f ks)):Wd G (λx=>nb x/\x≠a) (ρ.set i (.d f (.dict (ks.map aH)))) σ H:=by
  obtain⟨x,e1,h1,h2,h3,xs,hx,hd⟩:=W.ok i _ e;subst h1;have D:i<ρ.length:=(bH.mp e).1;have W0:Wd G nb (ρ.set i .no) (σ.set i (some (.ref a))) H:=W.set trivial λ_ _ _ z=>by cases z
  have W1:Wd G (λx=>nb x/\x≠a) (ρ.set i .no) (σ.set i (some (.ref a))) H:=by
    refine⟨W0.aq,λx n=>W0.live x n.1,W0.old,λx n=>W0.cJ x n.1,W0.gA,W0.len,W0.gB,λh m=>(W0.dw h m).av (cg (λz=>z) λ_ z=>z.1),λj s e'=>?_,W0.apart,W0.fB,W0.cL⟩;obtain⟨x,oA,h⟩:=W0.ok j s e';refine⟨x,oA,?_⟩;have hij:s≠ .no->i≠j:=λn z=>by subst z;rw[dB D] at e';cases e';exact n rfl
    cases s with
    |no=>trivial
    |d f d=>obtain⟨v,e,h⟩:=h;exact⟨v,e,h.av (cg (λz=>z) λ_ z=>z.1)⟩
    | own c f es =>
      obtain⟨e2,n,q,ys,hy,hd'⟩:=h;have p:c≠a:=λz=>by subst z;rw[hx] at hy;cases hy
      exact⟨e2,⟨n,p⟩,q,ys,hy,hd'.av (cg (λz=>z) λ_ z=>z.1)⟩
    |aq=>exact h
    |raw v=>exact h
    | bB c f es =>
      obtain⟨e2,n,q,ps,hp,hd'⟩:=h;have hij:=hij (by intro z;cases z);rw[bQ hij] at e';exact⟨e2,⟨n,(W.fB i j _ _ _ _ _ _ hij e e').symm⟩,q,ps,hp,hd'.av (cg (λz=>z) λ_ z=>z.1)⟩
    | cu c =>
      obtain⟨e2,n,q⟩:=h;have hij:=hij (by intro z;cases z);rw[bQ hij] at e';exact⟨e2,λx hx=>⟨⟨(n x hx).1,λz=>W.cL j i c _ (cY hij) e' e x hx (by rw[z];exact aF.mpr rfl)⟩,(n x hx).2⟩,c.av (cg (λz=>z) λ_ z=>z.1) q⟩
  have W2:=W1.nX (i:=i) (f:=f) (d:= .dict (ks.map aH)) (v:= .ref a) (by
    unfold af;refine⟨a,xs,rfl,λz=>?_, .inl hx,hd.av (cg (λz=>z) λ_ z=>z.1)⟩;rcases z with z|z|z|z
    · exact z.2 rfl
    · exact W.gA a z (W.cJ a h2 h3)
    · exact z h3
    · exact z.2 (W.cJ a h2 h3))
  rw[nk,nk] at W2;have:σ.set i (some (.ref a))=σ:=by
    apply iu;intro j;by_cases hij:i=j;· subst hij;rw[dB (by rw[W.len];exact D),e1]
    · rw[bQ hij]
  rwa[this] at W2
def Sv.GS{s:TS}(i:Nat)(e:ρ[i]?=some (.bB a f ks))(h:Sv G (ρ.set i (.d f (.dict (ks.map aH)))) s E):Sv G ρ s E:=λnb σ H D W K=>h _ σ H D (Ki W e) K
def Ev.m9(h:Ev G ρ ta λf x=>∃ks:Ks,x= .dict (ks.map aH)/\Ev G ρ tb λ_ y=>∃k,y= .int k/\∃d,bJ ks k=some d/\Φ f d):Ev G ρ (er jG ta tb) Φ:=
 Ev.lX (h.mono λf x ⟨ks,ex,q⟩=>q.mono λg y ⟨k,r,d,b,p⟩ nb σ H u v Q W Y hv z=>by
  subst ex r;unfold af at Y;obtain⟨a,ps,rfl,n,hp,hd⟩:=Y;have:=ao.val k hd;rw[b] at this;obtain⟨w,hw,O⟩:=this;exact⟨a,ps, .inl k,w,rfl,hv.bT,hp,hw,z f _ H _ p (.refl W.aq) O⟩)
end
def aD.TL{f:Bool}{ks:Ks}(e:ρ[i]?=some (.bB a f ks))(hl:ks.length<64)(h:∀rs:List Int,rs.Pairwise (· <= ·)->rs.Perm (ks.map (·.1))->Θ true (rs.map .int)):
  aD G ρ (gk qt (aU (br i) bK)) Θ:=λnb σ H Q W z=>by
 obtain⟨x,e1,h1,h2,h3,ps,hp,hd⟩:=W.ok i _ e;subst h1;refine⟨.ref a,e1,a,ps,ks.map (·.1),rfl, .inl hp,ao.keys hd,by rw[aj];exact hl,λl rs hl' hw k=>?_⟩;exact aD.fin (f:=true) W (.refl W.aq) hl' (vQ rs) (h rs hw k) z
structure Lg(n:Int)(cs:List aB):Prop where
 n0:1<=n
 n1:n<=10
 c0:cs≠[]
 c1:cs.length<=8
 ok:∀prs∈cs,prs≠[]/\prs.length<=4/\(prs.map (·.1)).Pairwise (· < ·)/\∀pr∈prs,0<=pr.1/\pr.1<n
section
variable{n:Int}{cs:List aB}(h:Lg n cs)
include h
end
section
variable{X:Cx}
theorem Vals.ins{y:V}{u:ag}(r:RelV y u):∀{xs:List V} {us:List ag} (k:Nat),Vals xs us->Vals (xs.take k++y::xs.drop k) (us.take k++u::us.drop k)
 |_,_,0,h=> .cons r h
 |[],_,k+1,h=>by cases h;exact .cons r .nil
 |_::_,_,k+1, .cons a h=> .cons a (Vals.ins r k h)
def K7:V->List V->Hp->VK->Prop:=λx vs H Q=>∃l xs y,∃i:Int,x= .ref l/\vs=[.int i,y]/\H l=some (.lst xs)/\0<=i/\i<=xs.length/\xs.length<10000/\Q .aN (upd H l (.lst (xs.take i.toNat++y::xs.drop i.toNat)))
theorem Z2:zS X "list.insert" K7:=by
  intro pins s σ H x vs v us Q I rx rv h;obtain⟨l,xs,y,i,rfl,rfl,p,h0,h1,hz,q⟩:=h;cases rx;cases rv with
  | cons g O =>
    obtain⟨t,rfl⟩:=g;obtain⟨u,rfl,D⟩:=vals1 O;obtain⟨z,its,n,r,hl,e⟩:=I.rB p;have B:¬(!Builtin.List.listFitsIndex i)=true:=by
      have:=p4 (k:=i) ∅ ∅;simpa using this
    refine iI O0 ⟨_,e,rfl⟩ PySem.F.entry_list_insert (PySem.F.args_list_insert_3 _ _ _) (AutoSeq1.list_insert_list_int_val_1 l its.toArray n i t u B (by rw[fk];omega)) ⟨e,?_⟩;refine⟨.aN,_,I.Hh (its':=its.take i.toNat++u::its.drop i.toNat) p e ?_ (Vals.ins D i.toNat r) ?_,rfl,q⟩
    · have hk:(if i<0 then(i+((its.toArray.size:Nat):Int)).toNat else min i.toNat its.toArray.size)=i.toNat:=by
        rw[if_neg ∅,fk];omega
      simp only[hk];apply Array.ext';simp[qp]
    · rw[cP,dM,oZ,ng]
      have:sizeLine=sizeLine:=rfl;rw[i5];omega
end
section
variable{G:Gx}{ρ:Rh}{te:TE}{E:DE}{i j:Nat}{f:Bool}{ds:List PyData}{K:PySem.W.Frag}
theorem ah.ins{nb:ar->Prop}{H:Hp}{d:PyData}{x:V}(hd:af nb H d x):∀{ds:List PyData} {xs:List V} (k:Nat),ah nb H ds xs->ah nb H (ds.take k++d::ds.drop k) (xs.take k++x::xs.drop k)
 |_,_,0,h=> .cons hd h
 |[],_,k+1,h=>by unfold ah at h;subst h;exact .cons hd .nil
 |e::ds,_,k+1,h=>by unfold ah at h;obtain⟨y,ys,rfl,h1,h2⟩:=h;exact .cons h1 (ah.ins hd k h2)
theorem Sv.insert{tb:TE}(e:ρ[i]?=some (.own a f ds))(h:Ev G ρ te λ_ y=>∃k:Int,y= .int k/\0<=k/\k<=ds.length/\ds.length<10000/\Ev G ρ tb λg d=>E.nx (ρ.set i (.own a (f && g) (ds.take k.toNat++d::ds.drop k.toNat)))):
  Sv G ρ (nu (n9 K "list" K7 (br i) (aU te (aU tb bK)))) E:=λnb σ H D W KK=>by
 obtain⟨x,e1,h1,h2,h3,xs,hx,hd⟩:=W.ok i _ e;subst h1;refine⟨.ref a,e1, .inl ⟨rfl,_,bL.of hx⟩,h nb σ H _ W λg0 v H1 y ⟨k,r,k0,k1,hl,q⟩ s1 hv=>?_⟩;subst r;have hk:=hv.bT;subst hk;refine q nb σ H1 _ (W.step s1) λg u H2 d p s2 Y=>?_;have W2:=(W.step s1).step s2;have hx2:=s2.1 _ _ h3 (s1.1 _ _ h3 hx);have hd2:=(hd.keep s1.c8).keep s2.c8;have hlen:=hd.length;refine⟨a,xs,u,k,rfl,rfl,hx2,k0,∅,∅,KK.nx nb _ _ _ p (AN W2 e ?_)⟩;exact ah.ins (Y.av (cg (λz=>(fF _ _▸z).2) λ_ z=>z)) _ (hd2.av (cg (λz=>(fF _ _▸z).1) λ_ z=>z))
end
def Qe{xs ys:List (Key×V)}(h:Rd H a (.dK xs))(g:Rd H a (.dK ys)):xs=ys:=by
 rcases h with h|⟨o,h⟩<;>rcases g with g|⟨u,g⟩<;>rw[h] at g<;>cases g<;>rfl
def sI.fn:∀{d e:PyData} {k:Key},sI d k->sI e k->d=e
  | .int i, e, k, h, g => by
    have h:k= .inl i:=h;cases e<;>first|exact g.elim|(have g:k=_:=g;rw[h] at g;injection g with g;subst g;rfl)|(have g:k=_:=g;rw[h] at g;cases g)
  | .str i, e, k, h, g => by
    have h:k= .inr i:=h;cases e<;>first|exact g.elim|(have g:k=_:=g;rw[h] at g;injection g with g;subst g;rfl)|(have g:k=_:=g;rw[h] at g;cases g)
  | .none,_,_,h,_=>h.elim
  | .bool _,_,_,h,_=>h.elim
  | .list _,_,_,h,_=>h.elim
  | .tuple _,_,_,h,_=>h.elim
  | .dict _,_,_,h,_=>h.elim
mutual
theorem af.fn{S S':ar->Prop}{H:Hp}:∀{d e:PyData} {v:V},af S H d v->af S' H e v->d=e
  | .none, e, v, h, g => by
    unfold af at h;subst h;cases e<;>unfold af at g<;>first|rfl|(cases g;done)|(obtain⟨_,_,z,_⟩:=g;cases z)
  | .bool b, e, v, h, g => by
    unfold af at h;subst h;cases e<;>unfold af at g<;>first|(cases g;done)|(cases g;rfl)|(obtain⟨_,_,z,_⟩:=g;cases z)
  | .int b, e, v, h, g => by
    unfold af at h;subst h;cases e<;>unfold af at g<;>first|(cases g;done)|(cases g;rfl)|(obtain⟨_,_,z,_⟩:=g;cases z)
  | .str b, e, v, h, g => by
    unfold af at h;subst h;cases e<;>unfold af at g<;>first|(cases g;done)|(cases g;rfl)|(obtain⟨_,_,z,_⟩:=g;cases z)
  | .list ds, e, v, h, g => by
    unfold af at h;obtain⟨a,xs,rfl,n,hx,hd⟩:=h;cases e<;>unfold af at g<;>first|(cases g;done)|skip
    all_goals (obtain⟨a',j,z,l,Z,hd'⟩:=g;cases z)
    all_goals first
      |(rcases Z with Z|⟨o,Z⟩<;>rw[hx] at Z<;>cases Z;done)
      |(rw[hx] at Z;cases Z;done)
      |(rw[hx] at Z;cases Z;rw[ah.fn hd hd'])
  | .tuple ds, e, v, h, g => by
    unfold af at h;obtain⟨a,xs,rfl,n,hx,hd⟩:=h;cases e<;>unfold af at g<;>first|(cases g;done)|skip
    all_goals (obtain⟨a',j,z,l,Z,hd'⟩:=g;cases z)
    all_goals first
      |(rcases Z with Z|⟨o,Z⟩<;>rw[hx] at Z<;>cases Z;done)
      |(rw[hx] at Z;cases Z;done)
      |(rw[hx] at Z;cases Z;rw[ah.fn hd hd'])
  | .dict ds, e, v, h, g => by
    unfold af at h;obtain⟨a,xs,rfl,n,hx,hd⟩:=h;cases e<;>unfold af at g<;>first|(cases g;done)|skip
    all_goals (obtain⟨a',j,z,l,Z,hd'⟩:=g;cases z)
    all_goals first
      |(rcases hx with hx|⟨o,hx⟩<;>rw[hx] at Z<;>cases Z;done)
      |(rw[ao.fn hd (by rw[Qe hx Z];exact hd')])
theorem ah.fn{S S':ar->Prop}{H:Hp}:∀{ds es:List PyData} {vs:List V},ah S H ds vs->ah S' H es vs->ds=es
  | [], es, vs, h, g => by
    unfold ah at h;subst h;cases es with
    |nil=>rfl
    |cons e es=>unfold ah at g;obtain⟨_,_,z,_⟩:=g;cases z
  | d :: ds, es, vs, h, g => by
    unfold ah at h;obtain⟨y,ys,rfl,h1,h2⟩:=h;cases es with
    |nil=>unfold ah at g;cases g
    | cons e es =>
      unfold ah at g;obtain⟨a,b,z,g1,g2⟩:=g;cases z;rw[af.fn h1 g1,ah.fn h2 g2]
theorem ao.fn{S S':ar->Prop}{H:Hp}:∀{ds es:List (PyData×PyData)} {vs:List (Key×V)},ao S H ds vs->ao S' H es vs->ds=es
  | [], es, vs, h, g => by
    unfold ao at h;subst h;cases es with
    |nil=>rfl
    |cons e es=>unfold ao at g;obtain⟨_,_,z,_⟩:=g;cases z
  | d :: ds, es, vs, h, g => by
    unfold ao at h;obtain⟨y,ys,rfl,h1,h2⟩:=h;cases es with
    |nil=>unfold ao at g;cases g
    | cons e es =>
      unfold ao at g;obtain⟨a,b,z,g1,g2⟩:=g;cases z;rw[cH.fn h1 g1,ao.fn h2 g2]
theorem cH.fn{S S':ar->Prop}{H:Hp}:∀{d e:PyData×PyData} {v:Key×V},cH S H d v->cH S' H e v->d=e
  | (k, d), (k', e), v, h, g => by
    unfold cH at h g;rw[sI.fn h.1 g.1,af.fn h.2 g.2]
end
mutual
theorem af.out{S:ar->Prop}{H:Hp}{c:ar}{D:PyData}(hc:af S H D (.ref c)):∀{d:PyData} {v:V},sizeOf d<sizeOf D->af S H d v->af (λx=>S x\/x=c) H d v
  | .none,_,_,h=>by unfold af at h⊢;exact h
  | .bool _,_,_,h=>by unfold af at h⊢;exact h
  | .int _,_,_,h=>by unfold af at h⊢;exact h
  | .str _,_,_,h=>by unfold af at h⊢;exact h
  | .list ds, v, hs, h => by
    have h0:=h;unfold af at h⊢;obtain⟨a,xs,rfl,n,hx,hd⟩:=h;refine⟨a,xs,rfl,λz=>z.elim n λz=>?_,hx,ah.out hc (by simp at hs;omega) hd⟩;subst z;rw[af.fn hc h0] at hs;exact absurd hs (lg _)
  | .tuple ds, v, hs, h => by
    have h0:=h;unfold af at h⊢;obtain⟨a,xs,rfl,n,hx,hd⟩:=h;refine⟨a,xs,rfl,λz=>z.elim n λz=>?_,hx,ah.out hc (by simp at hs;omega) hd⟩;subst z;rw[af.fn hc h0] at hs;exact absurd hs (lg _)
  | .dict ds, v, hs, h => by
    have h0:=h;unfold af at h⊢;obtain⟨a,xs,rfl,n,hx,hd⟩:=h;refine⟨a,xs,rfl,λz=>z.elim n λz=>?_,hx,ao.out hc (by simp at hs;omega) hd⟩;subst z;rw[af.fn hc h0] at hs;exact absurd hs (lg _)
theorem ah.out{S:ar->Prop}{H:Hp}{c:ar}{D:PyData}(hc:af S H D (.ref c)):∀{ds:List PyData} {vs:List V},sizeOf ds<sizeOf D->ah S H ds vs->ah (λx=>S x\/x=c) H ds vs
  |[],_,_,h=>by unfold ah at h⊢;exact h
  | d :: ds, _, hs, h => by
    unfold ah at h⊢;obtain⟨y,ys,e,h1,h2⟩:=h;exact⟨y,ys,e,af.out hc (by simp at hs;omega) h1,ah.out hc (by simp at hs;omega) h2⟩
theorem ao.out{S:ar->Prop}{H:Hp}{c:ar}{D:PyData}(hc:af S H D (.ref c)):∀{ds:List (PyData×PyData)} {vs:List (Key×V)},sizeOf ds<sizeOf D->ao S H ds vs->ao (λx=>S x\/x=c) H ds vs
  |[],_,_,h=>by unfold ao at h⊢;exact h
  | d :: ds, _, hs, h => by
    unfold ao at h⊢;obtain⟨y,ys,e,h1,h2⟩:=h;exact⟨y,ys,e,cH.out hc (by simp at hs;omega) h1,ao.out hc (by simp at hs;omega) h2⟩
theorem cH.out{S:ar->Prop}{H:Hp}{c:ar}{D:PyData}(hc:af S H D (.ref c)):∀{d:PyData×PyData} {v:Key×V},sizeOf d<sizeOf D->cH S H d v->cH (λx=>S x\/x=c) H d v
  | (k, d), _, hs, h => by
    unfold cH at h⊢;exact⟨h.1,af.out hc (by simp at hs;omega) h.2⟩
end
def Ac(G:Gx)(ρ:Rh)(te:TE)(Φ:PyData->Prop):Prop:=∀nb σ H (Q:VK),Wd G nb ρ σ H->(∀v H' d,Φ d->Step G.B H H'->af (λa=>H a≠none) H' d v->Q v H')->te σ H Q
section
variable{G:Gx}{ρ:Rh}{ta tb te:TE}{t:TA}{E:DE}{i j k m:Nat}{f:Bool}{K:PySem.W.Frag}{Φ:PyData->Prop}
def Wd.ZG(W:Wd G nb ρ σ H)(s:Step G.B H H1)(h:H a≠none):H1 a≠none:=λe=>h (W.none_of s e)
def Ac.kW{F:DF}(hm:eK F)(e:ρ[i]?=some .aq)(h:Av G ρ t λes=>es.length+1=n/\F (es.map (·.2)) λf d=>f=true/\Φ d):Ac G ρ (jh (fV n F) [] E0 (aU (br i) t)) Φ:=λnb σ H Q W z=>by
 obtain⟨b,l,Z,e1,B⟩:=W.vg e;refine⟨.ref b,e1,h nb σ H _ W λes vs H1 ⟨hl,p⟩ s1 J=>?_⟩;have W1:=W.step s1;show fV n F ((V.ref b::vs)++[]) H1 Q E0;rw[ic];have hb:∀f,G.S nb f b:=λf=> .inr (.inr (.inl λn=>n b l Z rfl));refine⟨by rw[dM,J.len,hl],b,l,vs,G.S nb (kG es),es.map (·.2),rfl,W1.aq b l Z,W1.iG,hb _,J.all λz=>z,hm _ _ _ p λf d ⟨hf,hp⟩ v H' bt u hd=>z v H' d hp (s1.trans (.uT Z bt u)) (hd.av λa q=>?_)⟩;exact .inr ⟨hf,W.ZG s1 q⟩
def Wd.Zd{c:ar}(W:Wd G nb ρ σ H)(s1:Step G.B H H1)(h:af (λa=>H a≠none) H1 (.list ds) (.ref c)):
  Wd G (λx=>nb x\/x=c) (ρ.set i (.own c true ds)) (σ.set i (some (.ref c))) H1:=by
 have h0:=h;obtain⟨c',xs,e,n,hx,hd⟩:=h.ig;cases e;have hc:H c=none:=jl λz=>n z;refine Sv.EN W s1 hc hx ((ah.out h0 (by simp) hd).av λx z=>?_);rcases z with z|z
 .exact .inl (W.iG x z)
 .exact .inr z
end
noncomputable def ab2(oW:List Int)(prs:aB):Nat:=(prs.filter λpr=>decide (pr.1∈oW)).length
noncomputable def Ld(cs:List aB)(oW:List Int):Bool:=cs.all λprs=>decide (ab2 oW prs≠1)
def Up:V->List V->Hp->VK->Prop:=λx vs H Q=>∃a kvs k v,x= .ref a/\vs=[kV k]/\H a=some (.dK kvs)/\iD kvs k=some v/\Q v (upd H a (.dK (oO kvs k)))
def Uu:zS X "dict.pop" Up:=by
 intro pins s σ H x vs v us Q I rx rv h;obtain⟨a,kvs,k,w,rfl,rfl,p,hv,q⟩:=h;cases rx;obtain⟨u,rfl,D⟩:=rv.one;exact F7 I p D hv (.inl rfl) λw' s' b r'=>⟨w,_,b,r',q⟩
theorem ao.drop{S:ar->Prop}{H:Hp}{k:Int}:∀{ks:Ks} {ps:List (Key×V)},ao S H (ks.map aH) ps->ao S H ((jz ks k).map aH) (oO ps (cZ k))
  |[],ps,h=>by unfold ao at h;subst h;unfold jz oO;simp only[List.filter_nil,qQ];unfold ao;rfl
  | p :: r, ps, h => by
    rw[bR] at h;unfold ao at h;obtain⟨q,j,rfl,h1,h2⟩:=h;have ih:=ao.drop (k:=k) h2;have h0:=h1;unfold cH at h1;have h3:q.1=cZ p.1:=h1.1;unfold jz oO at ih⊢;rw[oF,oF];by_cases e:p.1=k
    · rw[if_neg (by simpa using e),if_neg (by rw[h3,e];simp)]
      exact ih
    · rw[if_pos (by simpa using e),if_pos (by rw[h3];simpa using e),bR]
      unfold ao;exact⟨q,_,rfl,h0,ih⟩
section
variable{G:Gx}{ρ:Rh}{ta tb te:TE}{t:TA}{E:DE}{i j m n:Nat}{f:Bool}{K K2 K3:PySem.W.Frag}{Φ:Pd}
def aD.X4(i:Nat)(e:ρ[i]?=some (.own a f ds))(h:aD G (ρ.set i (.d f (.list ds))) te λ_ es=>es.all gE=true/\Θ true es):aD G ρ te Θ:=λnb σ H Q W z=>
 h _ σ H Q (Sv.share W e) λf c xs H' es ⟨hs,p⟩ st hc hx hd=>z true c xs H' es p st hc hx (ah.kg hs hd)
end
structure Us(cs:List aB)(oW g:List Int):Prop where
 sub:∃q:Int->Bool,g=oW.filter q
 out:Ld cs g=true
 max:∀T:List Int,(∀x∈T,x∈oW)->Ld cs T=true->∀x∈T,x∈g
@[reducible] noncomputable def ah4(S:List Int):Ks:=S.map λx=>(x,o3 true)
theorem Of:∀{a b:List Int},a.Pairwise (· < ·)->b.Pairwise (· < ·)->(∀k,k∈a↔k∈b)->a=b
  |[],[],_,_,_=>rfl
  |[],y::b,_,_,h=>absurd ((h y).mpr (bZ ..)) (by simp)
  |x::a,[],_,_,h=>absurd ((h x).mp (bZ ..)) (by simp)
  | x :: a, y :: b, ha, hb, h => by
    obtain⟨r,f⟩:=oh.mp ha;obtain⟨c,d⟩:=oh.mp hb;have e:x=y:=by
      rcases aM.mp ((h x).mp (bZ ..)) with z|z
      · exact z
      · rcases aM.mp ((h y).mpr (bZ ..)) with w|w
        · exact w.symm
        · have:=c x z;have:=r y w;omega
    subst e;have:a=b:=Of f d λk=>by
      constructor
      · intro hk
        rcases aM.mp ((h k).mp (bV _ hk)) with z|z
        · have:=r k hk;omega
        · exact z
      · intro hk
        rcases aM.mp ((h k).mpr (bV _ hk)) with z|z
        · have:=c k hk;omega
        · exact z
    rw[this]
theorem UT{a b:List Int}(h:b.Pairwise (· < ·))(hs:a.Pairwise (· <= ·))(hp:a.Perm b):a=b:=by
 have nd:a.Nodup:=hp.nodup_iff.mpr (h.imp λh=>∅);have hlt:a.Pairwise (· < ·):=(hs.and nd).imp λ⟨h1,h2⟩=>∅
 exact Of hlt h λk=>hp.mem_iff
def Us.mem{oW g:List Int}(h:Us cs oW g):∀x∈g,x∈oW:=λx hx=>by
 obtain⟨q,e⟩:=h.sub;rw[e] at hx;exact(iN.mp hx).1
noncomputable def MP(row:List Int):Int:=match row.getLast? with|none=>0|some l=>l+1
noncomputable def YB(n:Int)(a:List Int):List Int:=(a4 (n-MP a).toNat).map λ(i:Nat)=>MP a+(i:Int)
noncomputable def ext(n:Int)(a:List Int):List (List Int):=(YB n a).map λp=>a++[p]
@[reducible] noncomputable def ah0:Option (List Int)->PyData
 |none=> .none
 |some r=>Lu r
def OJ{g:Type}{φ:α->g}{l1 l2:List g}(h:l1.Perm l2):∀xs:List α,l2=xs.map φ->∃ys:List α,l1=ys.map φ/\ys.Perm xs:=by
  induction h with
  |nil=>intro xs e;exact⟨[],rfl,by cases xs<;>first|exact .nil|cases e⟩
  | cons x _ ih =>
    intro xs e;cases xs with
    |nil=>cases e
    | cons a xs =>
      obtain⟨e1,e2⟩:=xG e;obtain⟨ys,e3,p⟩:=ih xs e2;exact⟨a::ys,by rw[e3,e1];rfl,p.cons a⟩
  | swap x y l =>
    intro xs e
    match xs,e with
    | a :: b :: xs, e =>
      obtain⟨e1,e2⟩:=xG e;obtain⟨e3,e4⟩:=xG e2;exact⟨b::a::xs,by rw[e1,e3,e4];rfl, .swap a b xs⟩
  | trans _ _ d c =>
    intro xs e;obtain⟨ys,e1,k⟩:=c xs e;obtain⟨zs,e2,p2⟩:=d ys e1;exact⟨zs,e2,p2.trans k⟩
section
variable{G:Gx}{ρ:Rh}{Φ:Pd}{t:TA}{te:TE}
def Sv.YN{E:DE}(h:Ac G ρ te λd=>(∃ds,d= .list ds/\∀a,E.nx (ρ.set i (.own a true ds)))\/(gE d=true/\E.nx (ρ.set i (.d true d)))):Sv G ρ (gu te (gh i)) E:=λnb σ H D W K=>
 h nb σ H _ W λv H1 d hd st hv=>by
  rcases hd with ⟨ds,rfl,q⟩|⟨hs,q⟩
  .have h0:=hv;obtain⟨c,xs,rfl,_⟩:=hv.ig;exact K.nx _ _ _ _ (q c) (Wd.Zd (i:=i) W st h0)
  .exact K.nx nb _ _ _ q ((W.step st).nX (i:=i) (f:=true) (hv.kg hs))
end
noncomputable def gI(r:List Int)(i:Nat):Int:=r.getD i 0
noncomputable def co(prs:aB)(j:Nat):Int:=(prs.map λpr=>if pr.1.toNat=j then pr.2 else 0).sum
def zD(p:Int)(m:Nat)(prs:aB):Prop:=(prs.map (·.1)).Nodup/\prs.length<=1000/\∀pr∈prs,0<=pr.1/\pr.1<m/\1<=pr.2/\pr.2<p
noncomputable def qm(a:ar)(o:Obj)(ps:List (Key×V)):It:=
 ⟨λi H=>H a=some (.cC o (.dK ps))/\i<ps.length,λi H x H'=>H'=H/\∃p,ps[i]?=some p/\x=kV p.1,λi H=>H a=some (.cC o (.dK ps))/\ps.length=i⟩
def YD{P:bo}{k:Key}{v:ag}(h:(iy P w).is k v=true):RelV (kV k) v:=by
 cases k with
 |inl i=>obtain⟨t,rfl⟩:=xW (k:=i) (v:=v) h;exact⟨t,rfl⟩
 |inr x=>obtain⟨t,rfl⟩:=i4 (v:=v) h;exact⟨t,rfl⟩
def Wj{P:bo}{K:PySem.W.Frag}(a it:ar)(hne:a≠it){o:Obj}{ps:List (Key×V)}{vs:List (Key×ag)}{ep:Nat}(rel:KV ps vs)
  (O:∀h:eh,h.get? a=some o->h.DictAt (iy P w) a vs ep):Turn P w K tg (qm a o ps) [it] it (λi h=>h.IsKeyIter it a i vs.length ep) where
 mem:=by simp
 obj:=λi h st b hb=>by
  have e:b=it:=by simpa using hb
  subst e;obtain⟨o,e,c,d⟩:=st;exact⟨o,e,λv z=>by rw[d] at z;cases z⟩
 keep:=λi h h' st k=>st.at λo e=>k it (by simp) o e
 item:=by
  intro X hP hw hK hc i pins s σ H E I hf st hg;subst hP hw hK;obtain⟨hq,hi⟩:=hg;obtain⟨U,_⟩:=(show dJ X.prog X.w H s.heap a (.cC o (.dK ps)) from I.hok a _ hq);have W:=rb (knd:=iy X.prog X.w) (A:=X.A) (I.ok.hd hc) it a hne vs ep;obtain⟨j,B,M,m,q,g⟩:=hf it (by simp);refine W.item i s _ _ (by rw[<-rel.length];exact hi) ⟨st,O _ U⟩ λv h' tk hv l kp=>?_;obtain⟨k,x,hk,r⟩:=hv;have I1:Inv X pins σ H {s with heap:=h',toks:=tk}:=I.turned (t':=tk) (λb o hb e=>kp b o (by simpa using hb) e) j B m q g;obtain⟨f,e,c,d⟩:=id l.1;have n:∃p,ps[i]?=some p/\kV k=kV p.1:=by
   have h1:(ps.map (·.1))[i]?=(vs.map (·.1))[i]?:=by rw[rel.keys]
   rw[bu,bu,hk,aL hi] at h1;exact⟨_,aL hi,congrArg kV (gz h1).symm⟩
  exact⟨v,rfl,JX (s:={s with heap:=h',toks:=tk}) e c d ⋯ ⟨kV k,H,I1,YD r,⟨rfl,n⟩,l.1,λb hb=>(hf b hb).1⟩⟩
 done:=by
  intro X hP hw hK hc i pins s σ H E I hf st hg;subst hP hw hK;obtain⟨hq,hi⟩:=hg;obtain⟨U,_⟩:=(show dJ X.prog X.w H s.heap a (.cC o (.dK ps)) from I.hok a _ hq);have W:=rb (knd:=iy X.prog X.w) (A:=X.A) (I.ok.hd hc) it a hne vs ep;obtain⟨j,B,M,m,q,g⟩:=hf it (by simp);have hl:=rel.length;refine W.done s _ _ ⟨by rw[<-hl,hi];rw[<-hl,hi] at st;exact st,O _ U⟩ λh' tk kp=>⟨rfl,?_⟩;exact I.turned (t':=tk) (λb o hb e=>kp b o (by simpa using hb) e) j B m q g
 self:=λ_ _ _ _ _ st h=>wpAny_pyIter_keyiter st h
def xT(X:Cx)(a:ar):Prop:=∀o u,X.H₀ a≠some (.cC o u)
section
variable{X:Cx}{pins:List (ar×Obj)}{σ:List (Option V)}{H:Hp}{s:aw}
def Inv.freeze(I:Inv X pins σ H s)(h:H a=some (.dK ps))(U:s.heap.get? a=some o):Inv X pins σ (upd H a (.cC o (.dK ps))) s:=by
 have ne:∀b u,H b=some u->(∀z,u≠ .dK z)->b≠a:=λb u q z e=>by subst e;rw[h] at q;cases q;exact z _ rfl
 have nn:∀b,H b=none->b≠a:=λb q e=>by subst e;rw[h] at q;cases q
 refine I.step (h':=s.heap) (g':=s.gens) (d':=s.drawn) (t':=s.toks) (ch:=[]) (λ_ z=>nomatch z) (λb o _ _ _ e _=>e) (λb o _ _ _ e _=>⟨o.slots,e⟩) (λb o _ e n=>by rw[aG (nn b n)];exact n) (λb o _ e=>⟨o,e⟩)
  (λb xs q=>by rw[aG (ne b _ q (λz=>nofun))];exact q) (λb o u q=>by rw[aG (ne b _ q (λz=>nofun))];exact q) (λb p q=>⟨#[],by rw[aG (ne b _ q (λz=>nofun)),q];simp⟩) (λm hm=>hm) (λb u q=>?_) I.bare
 by_cases hb:b=a
 .subst hb;rw[aV] at q;cases q
  refine⟨U,(I.hok b _ h).stay (λc v hc z=>z) (λc z=>?_) λc xs z=>?_⟩;·rw[aG (ne c _ z (λz=>nofun))];exact z
  .rw[aG (ne c _ z (λz=>nofun))];exact z
 .rw[aG hb] at q;refine(I.hok b u q).stay (λc v hc z=>z) (λc z=>?_) λc xs z=>?_;·rw[aG (ne c _ z (λz=>nofun))];exact z
  .rw[aG (ne c _ z (λz=>nofun))];exact z
def Inv.l6(I:Inv X pins σ H s)(h:H a=some (.cC o (.dK ps)))(J:xT X a):Inv X pins σ (upd H a (.dK ps)) s:=by
 have ne:∀b u,H b=some u->(∀z z',u≠ .cC z z')->b≠a:=λb u q z e=>by subst e;rw[h] at q;cases q;exact z _ _ rfl
 have nn:∀b,H b=none->b≠a:=λb q e=>by subst e;rw[h] at q;cases q
 refine⟨I.ok,I.os,I.bare,⟨I.base.keep,I.base.slot,λb o q n hx=>?_,I.base.there,λb xs q=>?_,λb o u q=>?_,λb p q=>?_⟩,I.loc,I.cell,?_,λx c e=>?_,λp hp=>?_,λb u q=>?_,I.len⟩
 .have z:=I.base.free b o q n hx;rw[aG (nn b z)];exact z
 .have z:=I.base.tups b xs q;rw[aG (ne b _ z (λ_ z=>nofun))];exact z
 .have z:=I.base.mP b o u q;have:b≠a:=λe=>by subst e;exact J _ _ q
  rw[aG this];exact z
 .obtain⟨m,z⟩:=I.base.n5 b p q;exact⟨m,by rw[aG (ne b _ z (λ_ z=>nofun))];exact z⟩
 .rw[aG (nn _ I.free)];exact I.free
 .rw[aG (nn _ (I.lH x c e))];exact I.lH x c e
 .obtain⟨l,z2,g⟩:=I.pin p hp;exact⟨l,by rw[aG (nn _ z2)];exact z2,g⟩
 .by_cases hb:b=a
  .subst hb;rw[aV] at q;cases q
   have w:=(show dJ X.prog X.w H s.heap b (.dK ps) from(Rd.ok (.inr ⟨o,h⟩) I.hok));refine w.stay (λc v hc z=>z) (λc z=>?_) λc xs z=>?_;·rw[aG (ne c _ z (λ_ z=>nofun))];exact z
   .rw[aG (ne c _ z (λ_ z=>nofun))];exact z
  .rw[aG hb] at q;refine(I.hok b u q).stay (λc v hc z=>z) (λc z=>?_) λc xs z=>?_;·rw[aG (ne c _ z (λ_ z=>nofun))];exact z
   .rw[aG (ne c _ z (λ_ z=>nofun))];exact z
end
def lR(k:ar->Prop)(Q:Hp->Prop)(H:Hp):Prop:=Q H\/∃a o ps,H a=some (.cC o (.dK ps))/\k a/\Q (upd H a (.dK ps))
noncomputable def HP(k:ar->Prop)(D:Ends):Ends:={nx:=λσ=>lR k (D.nx σ),rt:=λv=>lR k (D.rt v),bk:=λσ=>lR k (D.bk σ),ct:=λσ=>lR k (D.ct σ)}
def Ue(k:ar->Prop)(ts:TS):TS:=λD σ H=>ts (HP k D) σ H
def Kz(k:ar->Prop)(te:TE):TE:=λσ H Q=>te σ H λv=>lR k (Q v)
section
variable{X:Cx}
def lR.inv{Q:Hp->Prop}(I:Inv X pins σ H s)(h:lR (xT X) Q H):∃H',Inv X pins σ H' s/\Q H':=by
 rcases h with h|⟨a,o,ps,e,nf,q⟩
 .exact⟨H,I,h⟩
 .exact⟨_,I.l6 e nf,q⟩
def Hy{st:el}{ts:TS}(h:PS X st ts):PS X st (Ue (xT X) ts):=by
 intro pins s σ H D I q;refine aS (h pins s σ H _ I q) λf s7 q7=>?_;cases f with
 |next=>obtain⟨c,H7,L,j⟩:=q7;obtain⟨H8,I8,a⟩:=lR.inv L j;exact⟨c,H8,I8,a⟩
 |cont=>obtain⟨c,H7,L,j⟩:=q7;obtain⟨H8,I8,a⟩:=lR.inv L j;exact⟨c,H8,I8,a⟩
 |brk=>obtain⟨c,H7,L,j⟩:=q7;obtain⟨H8,I8,a⟩:=lR.inv L j;exact⟨c,H8,I8,a⟩
 |ret v=>obtain⟨S,c,H7,L,p,j⟩:=q7;obtain⟨H8,I8,a⟩:=lR.inv L j;exact⟨S,c,H8,I8,p,a⟩
def Z6(h:PE X e te):PE X e (Kz (xT X) te):=by
 intro pins s σ H Q I q;refine aS (h pins s σ H _ I q) λu s1 ⟨x,H1,I1,g,J⟩=>?_;obtain⟨H8,I8,a⟩:=lR.inv I1 J;exact⟨x,H8,I8,g,a⟩
def zk(k:ar->Prop)(tl:TE):TI:=λσ H R=>tl σ H λx H1=>∃a ps,x= .ref a/\((H1 a=some (.dK ps)/\∀o,k a->R (qm a o ps) (upd H1 a (.cC o (.dK ps))))\/∃o,H1 a=some (.cC o (.dK ps))/\R (qm a o ps) H1)
def Ly{l:ek}(hl:PE X l tl):PI X tg l (zk (xT X) tl):=by
 intro pins s σ H R I h;refine aS (hl pins s σ H _ I h) λv s1 ⟨x,H1,I1,g,J⟩=>?_;obtain⟨a,ps,e,q⟩:=J;subst e;cases g;have key:∃o H2,s1.heap.get? a=some o/\H2 a=some (.cC o (.dK ps))/\Inv X pins σ H2 s1/\R (qm a o ps) H2:=by
  rcases q with ⟨h1,q⟩|⟨o,h1,q⟩
  .obtain⟨z,hd,vs,rel,o,es,ep,U,r⟩:=D9 I1.hok h1;refine⟨o,_,U,aV,I1.freeze h1 U,q o λo' G z=>?_⟩;rw[I1.base.mP _ _ _ z] at h1;cases h1
  .obtain⟨U,_⟩:=(show dJ X.prog X.w H1 s1.heap a (.cC o (.dK ps)) from I1.hok a _ h1);exact⟨o,H1,U,h1,I1,q⟩
 obtain⟨o,H2,U,h2,I2,q⟩:=key;obtain⟨z,hd,vs,rel,dd⟩:=nU I2.hok (.inr ⟨o,h2⟩);obtain⟨ep,T⟩:=dd.dictAt;refine wpAny_pyIter_dict hd T ?_;refine⟨s1.heap.objs.size,[s1.heap.objs.size],_,_,H2,rfl,I2.kept (t':=s1.toks) λb o e=>dz _ e,Wj a _ (fM (cT U)) rel (λh L=>T.at' λo' e=>by rw[U] at e;cases e;exact L),⟨_,iH _ rfl,rfl,rfl⟩,λb hb=>?_,q⟩;have e:b=s1.heap.objs.size:=by simpa using hb
 subst e;exact I2.Ab (aW _) (I2.hok.fresh (aW _))
end
structure Mv(H H':Hp):Prop where
 lst:∀b xs,H b=some (.lst xs)->H' b=some (.lst xs)
 tup:∀b xs,H b=some (.tup xs)->H' b=some (.tup xs)
 bB:∀b ps,Rd H b (.dK ps)->Rd H' b (.dK ps)
mutual
theorem af.mv{S:ar->Prop}{H H':Hp}(m:Mv H H'):∀{d:PyData} {v:V},af S H d v->af S H' d v
 | .none,_,h=>by unfold af at h⊢;exact h
 | .bool _,_,h=>by unfold af at h⊢;exact h
 | .int _,_,h=>by unfold af at h⊢;exact h
 | .str _,_,h=>by unfold af at h⊢;exact h
 | .list ds,_,h=>by unfold af at h⊢;obtain⟨a,xs,e,n,s,r⟩:=h;exact⟨a,xs,e,n,m.lst _ _ s,ah.mv m r⟩
 | .tuple ds,_,h=>by unfold af at h⊢;obtain⟨a,xs,e,n,s,r⟩:=h;exact⟨a,xs,e,n,m.tup _ _ s,ah.mv m r⟩
 | .dict kvs,_,h=>by unfold af at h⊢;obtain⟨a,xs,e,n,s,r⟩:=h;exact⟨a,xs,e,n,m.bB _ _ s,ao.mv m r⟩
theorem ah.mv{S:ar->Prop}{H H':Hp}(m:Mv H H'):∀{ds:List PyData} {vs:List V},ah S H ds vs->ah S H' ds vs
 |[],_,h=>by unfold ah at h⊢;exact h
 |d::ds,_,h=>by unfold ah at h⊢;obtain⟨y,ys,e,h1,h2⟩:=h;exact⟨y,ys,e,af.mv m h1,ah.mv m h2⟩
theorem ao.mv{S:ar->Prop}{H H':Hp}(m:Mv H H'):∀{ds:List (PyData×PyData)} {vs:List (Key×V)},ao S H ds vs->ao S H' ds vs
 |[],_,h=>by unfold ao at h⊢;exact h
 |d::ds,_,h=>by unfold ao at h⊢;obtain⟨y,ys,e,h1,h2⟩:=h;exact⟨y,ys,e,cH.mv m h1,ao.mv m h2⟩
theorem cH.mv{S:ar->Prop}{H H':Hp}(m:Mv H H'):∀{d:PyData×PyData} {v:Key×V},cH S H d v->cH S H' d v
 |(k,d),_,h=>by unfold cH at h⊢;exact⟨h.1,af.mv m h.2⟩
end
theorem Mv.cC{H:Hp}{a:ar}{o:Obj}{ps:List (Key×V)}(h:H a=some (.dK ps)):Mv H (upd H a (.cC o (.dK ps))) where
 lst:=λb xs q=>by rw[aG (λe=>by subst e;rw[h] at q;cases q)];exact q
 tup:=λb xs q=>by rw[aG (λe=>by subst e;rw[h] at q;cases q)];exact q
 bB:=λb j q=>by
  by_cases e:b=a
  .subst e;rcases q with q|⟨u,q⟩
   .rw[h] at q;cases q;exact .inr ⟨o,aV⟩
   .rw[h] at q;cases q
  .rcases q with q|⟨u,q⟩
   .exact .inl (by rw[aG e];exact q)
   .exact .inr ⟨u,by rw[aG e];exact q⟩
def Mv.l6(h:H a=some (.cC o (.dK ps))):Mv H (upd H a (.dK ps)) where
 lst:=λb xs q=>by rw[aG (λe=>by subst e;rw[h] at q;cases q)];exact q
 tup:=λb xs q=>by rw[aG (λe=>by subst e;rw[h] at q;cases q)];exact q
 bB:=λb j q=>by
  by_cases e:b=a
  .subst e;rcases q with q|⟨u,q⟩
   .rw[h] at q;cases q
   .rw[h] at q;cases q;exact .inl aV
  .rcases q with q|⟨u,q⟩
   .exact .inl (by rw[aG e];exact q)
   .exact .inr ⟨u,by rw[aG e];exact q⟩
noncomputable def lU(a:ar)(u:HO)(H:Hp):Hp:=λb=>if b=a/\H a≠none then some u else H b
def tZ{b:ar}{u:HO}:lU a u H b=none↔H b=none:=by
 unfold lU;by_cases c:b=a/\H a≠none
 .rw[if_pos c];constructor;·intro z;cases z
  .intro z;rw[c.1] at z;exact absurd z c.2
 .rw[if_neg c]
def yO{b:ar}{u:HO}(h:b≠a):lU a u H b=H b:=by
 unfold lU;rw[if_neg (λz=>h z.1)]
noncomputable abbrev Gx.fz(G:Gx)(a:ar)(o:Obj)(ps:List (Key×V)):Gx:={G with H0:=lU a (.cC o (.dK ps)) G.H0,hold:=(false, .fz o ps, .ref a)::G.hold}
section
variable{G:Gx}{ρ dg:Rh}{Φ Ψ:Pd}{ta tb te:TE}{t:TA}{i:Nat}{f g:Bool}{d e:PyData}{ds es:List PyData}{K:PySem.W.Frag}{nb:ar->Prop}{σ:qr}{H:Hp}{a:ar}{o:Obj}{ps:List (Key×V)}
def Gx.sF{b:ar}:(G.fz a o ps).S nb f b↔G.S nb f b:=by
 unfold Gx.S;constructor
 .rintro(z|z|z|⟨z,q⟩);·exact .inl z
  .exact .inr (.inl z)
  .exact .inr (.inr (.inl z))
  .exact .inr (.inr (.inr ⟨z,λw=>q (tZ.mpr w)⟩))
 .rintro(z|z|z|⟨z,q⟩);·exact .inl z
  .exact .inr (.inl z)
  .exact .inr (.inr (.inl z))
  .exact .inr (.inr (.inr ⟨z,λw=>q (tZ.mp w)⟩))
def dO.mv{H:Hp}{b l:ar}(h:dO H b l)(k:∀c xs,H c=some (.lst xs)->H' c=some (.lst xs)):dO H' b l:=by
 obtain⟨ns,M,Y,u,L,h1,h2,h3⟩:=h;exact⟨ns,M,Y,u,L,k _ _ h1,k _ _ h2,h3⟩
def Wd.freeze(W:Wd G nb ρ σ H)(h:H a=some (.dK ps))(N:¬G.S nb false a)(hT:∀f c v,(f,HD.th c,v)∈G.hold->a∉c.F):Wd (G.fz a o ps) nb ρ σ (upd H a (.cC o (.dK ps))):=by
  have mv:=Mv.cC (o:=o) h;have hN:NB G.B a:=jl λz=>N (.inr (.inr (.inl z)));have t:¬nb a:=λz=>N (.inl z);have A:∀u,G.H0 a=some u->u= .dK ps:=λu e=>by have:=W.old a u hN e;rw[h] at this;exact(gz this).symm
  have g:∀f b,(G.fz a o ps).S nb f b->G.S nb f b:=λf b z=>Gx.sF.mp z;refine⟨λb l e=>(W.aq b l e).mv mv.lst,λb n=>?_,λb u n e=>?_,λb n q=>tZ.mpr (W.cJ b n q),λb n e=>W.gA b n (tZ.mp e),W.len,λb l e=>(W.gB b l e).mv λc xs q=>?_,λx m=>?_,λi s e=>?_,W.apart,W.fB,W.cL⟩
  · by_cases hb:b=a
    · subst hb;exact absurd n t
    · rw[aG hb];exact W.live b n
  · by_cases hb:b=a
    · subst hb
      rw[aV];change lU b _ G.H0 b=some u at e;unfold lU at e;by_cases c:b=b/\G.H0 b≠none;· rw[if_pos c] at e;exact e
      · rw[if_neg c] at e;exact absurd ⟨rfl,by rw[e];exact gx _⟩ c
    · rw[aG hb]
      change lU a _ G.H0 b=some u at e;rw[yO hb] at e;exact W.old b u n e
  · have hc:c≠a:=λz=>by subst z;have:=A _ q;cases this
    show lU a _ G.H0 c=_;rw[yO hc];exact q
  · rcases aM.mp m with e|m
    · subst e
      exact⟨a,rfl,λz=>N (g _ _ z),aV⟩
    · have w:=W.dw x m
      obtain⟨f,x,v⟩:=x;cases x with
      |d x=>exact(af.mv mv w).av (g f)
      | fz u j =>
        obtain⟨c,e1,e2,e3⟩:=w;by_cases hc:c=a
        · subst hc
          rw[h] at e3;cases e3
        · exact⟨c,e1,λz=>e2 (g _ _ z),by rw[aG hc];exact e3⟩
      | th c =>
        have hc:=hT f c v m;obtain⟨e,n,q⟩:=w;exact⟨e,λb hb=>⟨λz=>(n b hb).1 (g _ _ z),by rw[aG (λz=>by subst z;exact hc hb)];exact(n b hb).2⟩,c.av (g f) (c.keep ⟨λb hb o e=>by rw[aG (λz=>by subst z;exact hc hb)];exact e,λb xs _=>mv.lst b xs,λb xs _=>mv.tup b xs,λb j _=>mv.bB b j⟩ q)⟩
  · obtain⟨x,e1,w⟩:=W.ok i s e
    refine⟨x,e1,?_⟩;cases s with
    |no=>trivial
    |d f d=>obtain⟨v,e,w⟩:=w;exact⟨v,e,(af.mv mv w).av (g f)⟩
    |own c f es=>obtain⟨e,n,q,xs,hx,hd⟩:=w;exact⟨e,n,q,xs,mv.lst _ _ hx,(ah.mv mv hd).av (g f)⟩
    |aq=>exact w
    |raw v=>exact w
    | bB c f es =>
      obtain⟨e,n,q,xs,hx,hd⟩:=w;exact⟨e,n,q,xs,by rw[aG (λz=>by subst z;exact t n)];exact hx,(ao.mv mv hd).av (g f)⟩
    | cu c =>
      obtain⟨e,n,q⟩:=w;exact⟨e,n,c.av (g c.f) (c.keep ⟨λb hb o e=>by rw[aG (λz=>by subst z;exact t (n _ hb).1)];exact e,λb xs _=>mv.lst b xs,λb xs _=>mv.tup b xs,λb j _=>mv.bB b j⟩ q)⟩
theorem Wd.l6(W:Wd (G.fz a o ps) nb ρ σ H)(A:∀u,G.H0 a=some u->u= .dK ps)(hF:∀f o' j v,(f,HD.fz o' j,v)∈G.hold->v≠ .ref a)(hT:∀f c v,(f,HD.th c,v)∈G.hold->a∉c.F):Wd G nb ρ σ (upd H a (.dK ps))/\H a=some (.cC o (.dK ps)):=by
  obtain⟨a',L,hS',h⟩:=(show fh ((G.fz a o ps).S nb false) H (.fz o ps) (.ref a) from W.dw _ (bZ ..));cases L;have mv:=Mv.l6 h;have g:∀f b,G.S nb f b->(G.fz a o ps).S nb f b:=λf b z=>Gx.sF.mpr z;have N:¬G.S nb false a:=λz=>hS' (g _ _ z);have hN:NB G.B a:=jl λz=>N (.inr (.inr (.inl z)));have t:¬nb a:=λz=>N (.inl z);refine⟨⟨λb l e=>(W.aq b l e).mv mv.lst,λb n=>?_,λb u n e=>?_,λb n q=>tZ.mp (W.cJ b n q),λb n e=>W.gA b n (tZ.mpr e),W.len,λb l e=>(W.gB b l e).mv λc xs q=>?_,λx m=>?_,λi s e=>?_,W.apart,W.fB,W.cL⟩,h⟩
  · by_cases hb:b=a
    · subst hb;exact absurd n t
    · rw[aG hb];exact W.live b n
  · by_cases hb:b=a
    · subst hb
      rw[aV,A u e]
    · rw[aG hb]
      exact W.old b u n (by show lU a _ G.H0 b=_;rw[yO hb];exact e)
  · change lU a _ G.H0 c=_ at q
    by_cases hc:c=a
    · subst hc
      unfold lU at q;by_cases z:c=c/\G.H0 c≠none;· rw[if_pos z] at q;cases q
      · rw[if_neg z] at q;exact q
    · rw[yO hc] at q;exact q
  · have w:=W.dw x (bV _ m)
    obtain⟨f,x,v⟩:=x;cases x with
    |d x=>exact(af.mv mv w).av (g f)
    | fz u j =>
      obtain⟨c,e1,e2,e3⟩:=w;subst e1;have hc:c≠a:=λz=>hF f u j _ m (by rw[z]);exact⟨c,rfl,λz=>e2 (g _ _ z),by rw[aG hc];exact e3⟩
    | th c =>
      have hc:=hT f c v m;obtain⟨e,n,q⟩:=w;exact⟨e,λb hb=>⟨λz=>(n b hb).1 (g _ _ z),by rw[aG (λz=>by subst z;exact hc hb)];exact(n b hb).2⟩,c.av (g f) (c.keep ⟨λb hb o e=>by rw[aG (λz=>by subst z;exact hc hb)];exact e,λb xs _=>mv.lst b xs,λb xs _=>mv.tup b xs,λb j _=>mv.bB b j⟩ q)⟩
  · obtain⟨x,e1,w⟩:=W.ok i s e
    refine⟨x,e1,?_⟩;cases s with
    |no=>trivial
    |d f d=>obtain⟨v,e,w⟩:=w;exact⟨v,e,(af.mv mv w).av (g f)⟩
    |own c f es=>obtain⟨e,n,q,xs,hx,hd⟩:=w;exact⟨e,n,q,xs,mv.lst _ _ hx,(ah.mv mv hd).av (g f)⟩
    |aq=>exact w
    |raw v=>exact w
    | bB c f es =>
      obtain⟨e,n,q,xs,hx,hd⟩:=w;exact⟨e,n,q,xs,by rw[aG (λz=>by subst z;exact t n)];exact hx,(ao.mv mv hd).av (g f)⟩
    | cu c =>
      obtain⟨e,n,q⟩:=w;exact⟨e,n,c.av (g c.f) (c.keep ⟨λb hb o e=>by rw[aG (λz=>by subst z;exact t (n _ hb).1)];exact e,λb xs _=>mv.lst b xs,λb xs _=>mv.tup b xs,λb j _=>mv.bB b j⟩ q)⟩
noncomputable abbrev Gx.hz(G:Gx)(a:ar)(o:Obj)(ps:List (Key×V)):Gx:={G with hold:=(false, .fz o ps, .ref a)::G.hold}
theorem Wd.hz(W:Wd G nb ρ σ H)(N:¬G.S nb false a)(h:H a=some (.cC o (.dK ps))):Wd (G.hz a o ps) nb ρ σ H:=
 ⟨W.aq,W.live,W.old,W.cJ,W.gA,W.len,W.gB,λx m=>by
  rcases aM.mp m with e|m
  .subst e;exact⟨a,rfl,N,h⟩
  .exact W.dw x m,λi s e=>by
   obtain⟨x,e1,h⟩:=W.ok i s e;refine⟨x,e1,?_⟩;cases s<;>exact h,W.apart,W.fB,W.cL⟩
def Wd.wI(W:Wd (G.hz a o ps) nb ρ σ H):Wd G nb ρ σ H/\H a=some (.cC o (.dK ps)):=by
 refine⟨⟨W.aq,W.live,W.old,W.cJ,W.gA,W.len,W.gB,λx m=>W.dw x (bV _ m),λi s e=>by
   obtain⟨x,e1,h⟩:=W.ok i s e;refine⟨x,e1,?_⟩;cases s<;>exact h,W.apart,W.fB,W.cL⟩,?_⟩
 obtain⟨a',L,_,h⟩:=(show fh ((G.hz a o ps).S nb false) H (.fz o ps) (.ref a) from W.dw _ (bZ ..));cases L;exact h
theorem U9{G':Gx}{ks:Ks}{D:Ends}{E:DE}{s:TS}{dd:PyData}(W3:Wd (G'.hd f dd (.ref a)) nb ρ σ H)(hl:ps.map (·.1)=(ks.map (·.1)).map cZ)
  (hz:∀{nb ρ σ H},Wd G' nb ρ σ H->H a=some (.cC o (.dK ps))) (KK:yt G' {E with bk:=λ_=>False,ct:=λ_=>False} D)
  (q:Sv.sP (G'.hd f dd (.ref a)) ρ ks.length (λi d=>∃p,ks[i]?=some p/\d= .int p.1) true gt s E):
  ∃W:Nat->Nat->qr->Hp->Prop,(∃m,W 0 m σ H)/\∀i m σ H,W i m σ H->
   ((qm a o ps).stop i H/\D.nx σ H)\/((qm a o ps).go i H/\∃N:qr->Hp->Prop,(∀M H',N M H'->∃R,R<m/\W (i+1) R M H')/\∀x H',(qm a o ps).nO i H x H'->gt x σ H' λk H2=>s {D with nx:=N,ct:=N,bk:=D.nx} k H2):=by
 obtain⟨I,h0,ht,he⟩:=q;have hlen:ps.length=ks.length:=by have:=congrArg eQ hl;simpa using this
 refine⟨λi m σ H=>m=ks.length-i/\i<=ks.length/\∃nb L,I i L/\Wd (G'.hd f dd (.ref a)) nb L σ H,⟨ks.length,by simp,iP _,nb,ρ,h0,W3⟩,?_⟩;rintro i m σ H ⟨rfl,hi,nb,L,hI,W⟩;have SY:=hz W.jF.1;by_cases hlt:i<ks.length
 .refine .inr ⟨⟨SY,∅⟩,λσ H=>∃nb L,I (i+1) L/\Wd (G'.hd f dd (.ref a)) nb L σ H,λM H' q=>⟨ks.length-(i+1),∅,rfl,hlt,q⟩,λx H' y=>?_⟩;obtain⟨e1,p,b,e2⟩:=y;subst e1 e2;have hk:p.1=cZ ks[i].1:=by
   have h1:(ps.map (·.1))[i]?=((ks.map (·.1)).map cZ)[i]?:=by rw[hl]
   rw[bu,bu,bu,b,aL hlt] at h1;exact gz h1
  rw[hk];refine ht i _ L ⟨_,aL hlt,rfl⟩ hI nb σ _ _ _ W (.int _) λk r q W2=>q nb k _ _ W2 ?_;exact⟨λnb ρ σ H q W=>⟨nb,ρ,q,W⟩,λnb ρ σ H q W=>KK.nx nb ρ σ H q W.jF.1,λnb ρ σ H q W=>⟨nb,ρ,q,W⟩,λnb ρ σ f v H d q W hv=>KK.rt nb ρ σ f v H d q W.jF.1 hv,λnb ρ σ v H q W=>KK.rw nb ρ σ v H q W.jF.1⟩
 .have e:i=ks.length:=∅
  subst e;exact .inl ⟨⟨SY,hlen⟩,KK.nx nb L σ H (he L hI) W.jF.1⟩
def Sv.y6{k:ar->Prop}{E:DE}{s:TS}(h:Ev G ρ te λf x=>∃ks:Ks,x= .dict (ks.map aH)/\∀G' v,sP (Gx.hd G' f x v) ρ ks.length (λi d=>∃p,ks[i]?=some p/\d= .int p.1) true gt s {E with rw:=λ_ _ _ _=>False})(C:∀f c v,(f,HD.th c,v)∉G.hold:=by intro _ _ _ z;first|exact nomatch z|(simp at z;done)):
  Sv G ρ (Ue k (pA (zk k te) gt s)) E:=λnb σ H D W KK=>
 h nb σ H _ W λf v H1 x ⟨ks,ex,q⟩ s1 hv=>by
  subst ex;have W1:=W.step s1;have hv0:=hv;unfold af at hv;obtain⟨a,ps,rfl,n,hp,hd⟩:=hv;have hkeys:=ao.keys hd;have N:¬G.S nb false a:=λz=>n (cg (λw=>by cases w) (λ_ w=>w) a z);have hN:NB G.B a:=jl λz=>N (.inr (.inr (.inl z)));refine⟨a,ps,rfl,?_⟩;rcases hp with hp|⟨o,hp⟩
  .refine .inl ⟨hp,λo J=>?_⟩;have A:∀u,G.H0 a=some u->u= .dK ps:=λu e=>by have:=W1.old a u hN e;rw[hp] at this;exact(gz this).symm
   have hF:∀f o' j v,(f,HD.fz o' j,v)∈G.hold->v≠ .ref a:=λf o' j v m e=>by
    obtain⟨c,e1,_,e3⟩:=(show fh (G.S nb f) H1 (.fz o' j) v from W1.dw _ m);rw[e1] at e;cases e
    rw[hp] at e3;cases e3
   have W2:=W1.freeze (o:=o) hp N λf c v m=>absurd m (C f c v);have mv:=Mv.cC (o:=o) hp;have W3:=W2.hd (f:=f) (d:= .dict (ks.map aH)) (v:= .ref a) ((af.mv mv hv0).av λb z=>Gx.sF.mp z);refine U9 (E:={E with rw:=λ_ _ _ _=>False}) W3 hkeys (λW=>(W.l6 A hF λf c v m=>absurd m (C f c v)).2) ⟨λnb ρ σ H q W=>?_,λ_ _ _ _ q _=>q.elim,λ_ _ _ _ q _=>q.elim,λnb ρ σ f v H d q W hv=>?_,λ_ _ _ _ _ q _=>q.elim⟩ (q _ _)
   .obtain⟨W',hz⟩:=W.l6 A hF λf c v m=>absurd m (C f c v);exact .inr ⟨a,o,ps,hz,J,KK.nx nb ρ σ _ q W'⟩
   .obtain⟨W',hz⟩:=W.l6 A hF λf c v m=>absurd m (C f c v);exact .inr ⟨a,o,ps,hz,J,KK.rt nb ρ σ f v _ d q W' ((af.mv (Mv.l6 hz) hv).av λb z=>Gx.sF.mpr z)⟩
  .refine .inr ⟨o,hp,?_⟩;have W2:=W1.hz N hp;have W3:=W2.hd (f:=f) (d:= .dict (ks.map aH)) (v:= .ref a) hv0;refine U9 (E:={E with rw:=λ_ _ _ _=>False}) W3 hkeys (λW=>W.wI.2) ⟨λnb ρ σ H q W=> .inl (KK.nx nb ρ σ H q W.wI.1),λ_ _ _ _ q _=>q.elim,λ_ _ _ _ q _=>q.elim,λnb ρ σ f v H d q W hv=> .inl (KK.rt nb ρ σ f v H d q W.wI.1 hv),λ_ _ _ _ _ q _=>q.elim⟩ (q _ _)
end
theorem jr{P:(ar->Prop)->Prop}{H:Hp}(Z:∀{S S':ar->Prop},(∀a,S' a->S a)->P S->P S')(hf:∀{S:ar->Prop} {p:ar},H p=none->P S->P λa=>S a\/a=p):∀{L:List ar} {S:ar->Prop},(∀a∈L,H a=none)->P S->P λa=>S a\/a∈L
 |[],S,_,h=>Z (λa z=>z.elim (λz=>z) λz=>by cases z) h
 | p :: L, S, hL, h => Z (λa z => by
   rcases z with z|z
   .exact .inl (.inl z)
   .rcases aM.mp z with z|z
    .exact .inr z
    .exact .inl (.inr z)) (hf (hL p (bZ ..)) (jr Z hf (L:=L) (λa m=>hL a (bV _ m)) h))
section
variable{G:Gx}{ρ:Rh}{nb:ar->Prop}{σ:qr}{H H1:Hp}{i:Nat}{L:List ar}{c c':Cu}{f:Bool}{d:PyData}{p:ar}{o:HO}{E:DE}
def Wd.JI(W:Wd G nb ρ σ H)(s1:Step G.B H H1)(ha:∀a∈L,H a=none)(e:∀a∈L,H1 a≠none):Wd G (λx=>nb x\/x∈L) ρ σ H1/\(∀a∈L,NB G.B a)/\∀f x,G.S (λx=>nb x\/x∈L) f x->(G.S nb f x\/x∈L):=by
  have hN:∀a∈L,NB G.B a:=λa m=>NB.new W.aq (ha a m);have hA:∀f x,G.S (λx=>nb x\/x∈L) f x->(G.S nb f x\/x∈L):=λf x z=>by
    rcases z with (z|z)|z|z|z
    · exact .inl (.inl z)
    · exact .inr z
    · exact .inl (.inr (.inl z))
    · exact .inl (.inr (.inr (.inl z)))
    · exact .inl (.inr (.inr (.inr z)))
  have W1:=W.step s1;have I:∀{S:ar->Prop} {d:PyData} {v:V},af S H d v->af (λa=>S a\/a∈L) H d v:=λ{S d v} h=>jr (P:=λS=>af S H d v) (λz h=>af.av z h) (λhp h=>af.fresh hp h) ha h;have K:∀{S:ar->Prop} {d:List PyData} {v:List V},ah S H d v->ah (λa=>S a\/a∈L) H d v:=λ{S d v} h=>jr (P:=λS=>ah S H d v) (λz h=>ah.av z h) (λhp h=>ah.fresh hp h) ha h;have Q:∀{S:ar->Prop} {d:List (PyData×PyData)} {v:List (Key×V)},ao S H d v->ao (λa=>S a\/a∈L) H d v:=λ{S d v} h=>jr (P:=λS=>ao S H d v) (λz h=>ao.av z h) (λhp h=>ao.fresh hp h) ha h;have N:∀{S:ar->Prop} {d:HD} {v:V},fh S H d v->fh (λa=>S a\/a∈L) H d v:=λ{S d v} h=>jr (P:=λS=>fh S H d v) (λz h=>fh.av h z) (λhp h=>fh.fresh h hp) ha h;refine⟨?_,hN,hA⟩;refine⟨W1.aq,λx n=>?_,W1.old,λx n q=>?_,W.gA,W.len,W.gB,λh m=>((N (W.dw h m)).keep (s1.but λx z=> .inl (.inr (.inr (.inl z))))).av (hA h.1),λj s e'=>?_,W.apart,W.fB,W.cL⟩
  · rcases n with n|n
    · exact W1.live x n
    · exact e x n
  · rcases n with n|n
    · exact W.cJ x n q
    · cases z:G.H0 x with
      |none=>rfl
      |some o=>have:=ha x n;rw[W.old x o q z] at this;cases this
  · obtain⟨x,e1,h⟩:=W.ok j s e'
    refine⟨x,e1,?_⟩;cases s with
    |no=>trivial
    |d f d=>obtain⟨v,e,h⟩:=h;exact⟨v,e,((I h).keep (s1.but λx z=> .inl (.inr (.inr (.inl z))))).av (hA f)⟩
    |own c f es=>obtain⟨e,n,q,xs,hx,hd⟩:=h;exact⟨e, .inl n,q,xs,s1.1 _ _ q hx,((K hd).keep (s1.but λx z=> .inl (.inr (.inr (.inl z))))).av (hA f)⟩
    |aq=>exact h
    |raw v=>exact h
    |bB c f es=>obtain⟨e,n,q,xs,hx,hd⟩:=h;exact⟨e, .inl n,q,xs,s1.1 _ _ q hx,((Q hd).keep (s1.but λx z=> .inl (.inr (.inr (.inl z))))).av (hA f)⟩
    | cu c =>
      obtain⟨e,n,q⟩:=h;refine⟨e,λa ha=>⟨.inl (n a ha).1,(n a ha).2⟩,c.av (hA c.f) (c.keep (.of λx o hx e=>s1.1 x o ?_ e) (jr (P:=λS=>c.P S H) (λz h=>c.av z h) (λhp h=>c.fresh hp h) ha q))⟩;rcases hx with hx|hx
      · exact jl λz=>hx (.inl (.inr (.inr (.inl z))))
      · exact(n x hx).2
def qO.yr{x:Option V}{s:Sl}(h:qO G nb H x s):∀a∈s.adr,nb a/\NB G.B a:=by
 cases s with
 |own a f ds=>intro x hx;rw[aF.mp hx];exact⟨h.2.1,h.2.2.1⟩
 |bB a f ds=>intro x hx;rw[aF.mp hx];exact⟨h.2.1,h.2.2.1⟩
 |cu c=>exact h.2.1
 |no=>intro _ z;cases z
 |d _ _=>intro _ z;cases z
 |aq=>intro _ z;cases z
 |raw _=>intro _ z;cases z
def Wd.R3(W:Wd G nb ρ σ H)(s1:Step G.B H H1)(ha:∀a∈c.F,H a=none)(e:∀a∈c.F,H1 a≠none)(Z:c.P (λx=>G.S nb c.f x\/x∈c.F) H1):Wd G (λx=>nb x\/x∈c.F) (ρ.set i (.cu c)) (σ.set i (some c.v)) H1:=by
 obtain⟨W2,hN,hA⟩:=W.JI s1 ha e;refine W2.set ⟨rfl,λa m=>⟨.inr m,hN a m⟩,c.av (hA c.f) Z⟩ (λ_ _ _ z=>by cases z) (λ_ _ _ z=>by cases z) (λx hx j t O ht hc z=>?_);obtain⟨y,e1,h⟩:=W.ok j _ ht;exact W.live x (h.yr x z).1 (ha x hx)
def Wd.Oo(W:Wd G nb ρ σ H)(e:ρ[i]?=some (.cu c))(hp:p∈c.F)(hv:c'.v=c.v)(hF:∀a∈c'.F,a∈c.F)(h:c'.P (G.S nb c'.f) (upd H p o)):Wd G nb (ρ.set i (.cu c')) σ (upd H p o):=by
 obtain⟨x,e1,h1,h2,h3⟩:=W.ok i _ e;subst h1;have D:i<ρ.length:=(bH.mp e).1;have W0:Wd G nb (ρ.set i .no) (σ.set i (some c.v)) H:=W.set trivial λ_ _ _ z=>by cases z
 have r:∀(j:Nat) s,(ρ.set i .no)[j]?=some s->s≠ .no->p∉s.adr:=λj s hs hn=>by
  have hij:i≠j:=λz=>by subst z;rw[dB D] at hs;cases hs;exact hn rfl
  rw[bQ hij] at hs;exact W.cL i j c s hij e hs p hp
 have W1:Wd G nb (ρ.set i .no) (σ.set i (some c.v)) (upd H p o):=W0.write (h2 p hp).1 (h2 p hp).2 (λj a f ds hs z=>r j _ hs (by intro z;cases z) (aF.mpr z.symm)) (λj a f ds hs z=>r j _ hs (by intro z;cases z) (aF.mpr z.symm)) (λj c hs=>r j _ hs (by intro z;cases z))
 have W2:=W1.set (i:=i) (s:= .cu c') (x:=some c.v) ⟨by rw[hv],λa m=>h2 a (hF a m),h⟩ (λ_ _ _ z=>by cases z) (λ_ _ _ z=>by cases z) (λx hx j t O ht hc=>by
  rw[bQ (cY O)] at ht;exact W.cL i j c t (cY O) e ht x (hF x hx))
 rw[nk,nk] at W2;have:σ.set i (some c.v)=σ:=by
  apply iu;intro j;by_cases hij:i=j;·subst hij;rw[dB (by rw[W.len];exact D),e1]
  .rw[bQ hij]
 rwa[this] at W2
end
noncomputable abbrev xw:=Int×ar×List PyData
section
variable{G:Gx}{ρ:Rh}{ta tb te tk:TE}{E:DE}{i:Nat}{f:Bool}{K:PySem.W.Frag}{Φ:Pd}{a:ar}{rows:List xw}
def aD.Py(h:Ev G ρ te λ_ x=>∃ks:Ks,x= .dict (ks.map aH)/\ks.length<64/\∀rs:List Int,rs.Pairwise (· <= ·)->rs.Perm (ks.map (·.1))->Θ true (rs.map .int)):aD G ρ (gk qt (aU te bK)) Θ:=λnb σ H Q W z=>
 h nb σ H _ W λf v H1 x ⟨ks,ex,hl,q⟩ s1 hv=>by
  subst ex;unfold af at hv;obtain⟨a,ps,rfl,n,hp,hd⟩:=hv;refine⟨a,ps,ks.map (·.1),rfl,hp,ao.keys hd,by rw[aj];exact hl,λl rs hl' hw k=>?_⟩;exact aD.fin (f:=true) W s1 hl' (vQ rs) (q rs hw k) z
theorem Sv.NN{s:TS}(e:ρ[j]?=some (.own a f ds))(h:∃I:Nat->Rh->Prop,(∀i L,I i L->L[j]?=some (.own a f ds))/\I 0 ρ/\(∀i d L,ds[i]?=some d->I i L->Gv G L gt f d λr=>Sv G r s {nx:=I (i+1),rt:=E.rt,bk:=E.nx,ct:=I (i+1),rw:=E.rw})/\∀L,I ds.length L->E.nx L):
  Sv G ρ (pA (qq K (br j)) gt s) E:=λnb σ H D W KK=>by
 obtain⟨I,O,h0,ht,he⟩:=h;obtain⟨x,e1,h1,h2,h3,xs,hx,hd⟩:=W.ok j _ e;subst h1;refine⟨.ref a,e1,a,rfl,⟨xs, .of hx⟩,?_⟩;refine⟨λi m σ H=>m=ds.length-i/\i<=ds.length/\∃nb L,I i L/\Wd G nb L σ H,⟨ds.length,by simp,iP _,nb,ρ,h0,W⟩,?_⟩;rintro i m σ H ⟨rfl,hi,nb,L,hI,W⟩;obtain⟨x,e1,h1,h2,h3,ys,hy,hD⟩:=W.ok j _ (O i L hI);have hl:=hD.length;by_cases hlt:i<ds.length
 .refine .inr ⟨⟨ys,ys[i]'∅, .of hy,aL _⟩,λσ H=>∃nb L,I (i+1) L/\Wd G nb L σ H,λM H' q=>⟨ds.length-(i+1),∅,rfl,hlt,q⟩,λx H' y=>?_⟩;obtain⟨e,y⟩:=y;subst e;have hx:=y ys (.of hy);obtain⟨u,Z,dx⟩:=hD.get (aL hlt);rw[hx] at Z;cases Z
  refine ht i _ L (aL hlt) hI nb σ _ _ _ W dx λk r q W2=>q nb k _ _ W2 ?_;exact⟨λnb ρ σ H q W=>⟨nb,ρ,q,W⟩,λnb ρ σ H q W=>KK.nx nb ρ σ H q W,λnb ρ σ H q W=>⟨nb,ρ,q,W⟩,λnb ρ σ f v H d q W hv=>KK.rt nb ρ σ f v H d q W hv,KK.rw⟩
 .have e:i=ds.length:=∅
  subst e;exact .inl ⟨⟨ys, .of hy,∅⟩,KK.nx nb L σ H (he L hI) W⟩
end
noncomputable def Aj(prs:aB)(pl:Int):Option Int:=(prs.find? λpr=>decide (pr.1=pl)).map (·.2)
noncomputable def Gp(p:Int)(c:Nat):Option Int->List (Int×Int)
 |some f=>[((c:Int),sol p f 1)]
 |none=>[]
noncomputable def J1(p:Int)(cs:List aB)(pl:Int)(i:Nat):List (Int×Int):=(a4 i).flatMap λc=>Gp p c (Aj (cs.getD c []) pl)
theorem Xr{pl:Int}{q:Int×Int}(hi:i<=cs.length)(h:q∈J1 p cs pl i):∃(c:Nat) (prs:aB) (f:Int),cs[c]?=some prs/\c<i/\Aj prs pl=some f/\q=((c:Int),sol p f 1):=by
  unfold J1 at h;obtain⟨c,hc,hq⟩:=wX.mp h;have hc:=qW.mp hc;have e:cs[c]?=some cs[c]:=aL ∅;rw[iM,e] at hq;cases hf:Aj cs[c] pl with
  |none=>simp[Gp,hf] at hq
  | some f =>
    have hq:q∈Gp p c (Aj cs[c] pl):=hq;rw[hf] at hq;exact⟨c,cs[c],f,e,hc,hf,aF.mp hq⟩
noncomputable def ym(p:Int)(cs:List aB)(ws:List Int)(pl:Int):List Int:=
 (J1 p cs pl cs.length).map λq=>(ws.getD pl.toNat 0-dG (cs.getD q.1.toNat []) (ws.map some)%p*q.2)%p
structure Hz(p n:Int)(cs:List aB):Prop where
 hp:gc p
 j9:p<10^40
 n0:1<=n
 n1:n<=400
 cl:cs.length<=400
 ok:∀prs∈cs,zD p n.toNat prs
noncomputable def Tg(L:List Int)(w x:Int):Bool:=decide (x≠w) && decide (L.length<2*L.count x)
noncomputable def AU(L:List Int)(w:Int):List Int:=(L.filter (Tg L w)).take 1
@[reducible] noncomputable def xP(t:Int×Int×Int):PyData:= .tuple [.int t.1, .int t.2.1, .int t.2.2]
noncomputable def Q3(p:Int)(cs:List aB)(ws:List Int)(i:Nat):List (Int×Int×Int):=(AU (ym p cs ws (i:Int)) (ws.getD i 0)).map λx=>((i:Int),ws.getD i 0,x)
noncomputable def vY(p:Int)(cs:List aB)(ws:List Int)(m:Nat):List (Int×Int×Int):=(a4 m).flatMap (Q3 p cs ws)
noncomputable def brk(p:Int)(cs:List aB)(ws:List Int):Nat:=cs.countP λprs=>decide (dG prs (ws.map some)%p≠0)
noncomputable abbrev Bst:=Int×Option (Int×Int×Int)
noncomputable abbrev OG:=Int×Int×Int
theorem afV(ts:List OG):cn (.list (ts.map xP))=true:=by
 have h:bX (ts.map xP)<=1/\be (ts.map xP)=true:=by
  induction ts with
  |nil=>simp[bX,be]
  |cons a r ih=>simp[xP,bX,dC,be,cq,ih.2];have:=ih.1;omega
 unfold cn;simp only[cq,dC,h.2,Ju];have:=h.1;simp;omega
def E6:cn (.list [])=true:=by with_unfolding_all rfl
def ahs(ts:List OG):(e6 (.list (ts.map xP)) (.list []) !=false)=decide (ts=[]):=by
 cases ts<;>simp[e6,kq]
structure fQ(P:bo)(w:cx)(K:PySem.W.Frag)(mg:Str->Option ag)(base:eh)(C:ar)(m:Str)(k:Nat)(ps:List Str)(sp:Sp):Prop where
 cl:cD K C
 ex:∃f fd,bA P w K mg base bF k f fd ps sp/\Binds K fd ps []/\Meth K C m f
structure qB(P:bo)(w:cx)(K:PySem.W.Frag)(mg:Str->Option ag)(base:eh)(C:ar)(x:Str)(k:Nat)(ps:List Str)(sp:Sp):Prop where
 ex:∃f fd,bA P w K mg base bF k f fd ps sp/\Binds K fd ps []/\Mk K C f/\mg x=some (.ref C)
section
variable{X:Cx}{C:ar}{k:Nat}{ps:List Str}{sp:Sp}{x m:Str}{p pos apos:Pos}{e o:ek}{es:List ek}{ta:TE}{t:TA}
def pF{pl:Sem Bool}(c:fQ X.prog X.w X.K X.mg X.base C m k ps sp)(he:PE X o ta)(hr:fG k X.A)(ha:PA X (e::es) t)
  (p:bp (e::es) X.env=(false,eval e X.env)::bp es X.env:=by rfl) (hpl:(fm pos (bp es X.env)).any (·.1)=false:=by rfl)
  (ht : eval (.Call (.Attribute o m apos) (e :: es) [] pos) X.env = (do
   let ov<-eval o X.env
   standAt apos.atName
   let (f,first)<-holding [ov] (hJ ov m pl)
   j1 pos f first (fm pos (bp (e::es) X.env)) (iz pos (fA [] X.env))):=by rfl):
  PE X (.Call (.Attribute o m apos) (e::es) [] pos) (om C m sp [] E0 ta t):=by
 obtain⟨f,fd,F,b,mm⟩:=c.ex;exact ahS (pl:=pl) he c.cl mm F hr b .nil BJ ha p hpl ht
def oj{pl:Sem Bool}(c:fQ X.prog X.w X.K X.mg X.base C m k ps sp)(he:PE X o ta)(hr:fG k X.A)
  (ht : eval (.Call (.Attribute o m apos) [] [] pos) X.env = (do
   let ov<-eval o X.env
   standAt apos.atName
   let (f,first)<-holding [ov] (hJ ov m pl)
   j1 pos f first (fm pos (bp [] X.env)) (iz pos (fA [] X.env))):=by rfl):
  PE X (.Call (.Attribute o m apos) [] [] pos) (om C m sp [] E0 ta bK):=by
 obtain⟨f,fd,F,b,mm⟩:=c.ex;exact XM (pl:=pl) he c.cl mm F hr b .nil BJ ht
def HC(c:qB X.prog X.w X.K X.mg X.base C x k ps sp)(hr:fG (k+1) X.A)(ha:PA X (e::es) t)(hg:Gl X x:=by rfl)
  (a:(x==("__debug__":Str))=false:=by decide) (he:bp (e::es) X.env=(false,eval e X.env)::bp es X.env:=by rfl) (hpl:(fm pos (bp es X.env)).any (·.1)=false:=by rfl):
  PE X (.Call (.Name x p) (e::es) [] pos) (IA C sp [] E0 t):=by
 obtain⟨f,fd,F,b,M,m⟩:=c.ex;exact Kl M F hr hg m b .nil BJ ha a he hpl
end
section
variable{G:Gx}{ρ:Rh}{nb:ar->Prop}{σ:qr}{H H':Hp}{i:Nat}{c c':Cu}{E:DE}
def Wd.yo(W:Wd G nb ρ σ H)(e:ρ[i]?=some (.cu c))(p:∀a o,a∉c.F->H a=some o->H' a=some o)(hv:c'.v=c.v)(hF:∀a∈c'.F,a∈c.F\/H a=none\/(nb a/\NB G.B a/\∀(j:Nat) s,ρ[j]?=some s->a∉s.adr))(hl:∀a,a∈c.F\/a∈c'.F->H' a≠none)
    (h:c'.P (G.S (λx=>nb x\/x∈c'.F) c'.f) H'):Wd G (λx=>nb x\/x∈c'.F) (ρ.set i (.cu c')) σ H':=by
  obtain⟨A,e1,h1,h2,h3⟩:=W.ok i _ e;subst h1;have D:i<ρ.length:=(bH.mp e).1;obtain⟨L,y⟩:∃L,L=c'.F.filter λa=>(H a).isNone:=⟨_,rfl⟩;have ha:∀a∈L,H a=none:=λa m=>by
    rw[y,iN] at m;exact tS.mp m.2
  have Y:∀a∈c'.F,nb a\/a∈L:=λa m=>by
    rcases hF a m with z|z|z
    · exact .inl (h2 a z).1
    · exact .inr (by rw[y];exact iN.mpr ⟨m,tS.mpr z⟩)
    · exact .inl z.1
  have hA:∀f x,G.S (λx=>nb x\/x∈c'.F) f x->(G.S nb f x\/x∈L):=λf x z=>by
    rcases z with (z|z)|z|z|z
    · exact .inl (.inl z)
    · exact(Y x z).elim (λz=> .inl (.inl z)) .inr
    · exact .inl (.inr (.inl z))
    · exact .inl (.inr (.inr (.inl z)))
    · exact .inl (.inr (.inr (.inr z)))
  have bt:∀f,bC (G.S (λx=>nb x\/x∈c'.F) f) H H':=λf a o n q=>p a o (λz=>n (.inl (.inl (h2 a z).1))) q;have I:∀{S:ar->Prop} {d:PyData} {v:V},af S H d v->af (λa=>S a\/a∈L) H d v:=λ{S d v} h=>jr (P:=λS=>af S H d v) (λz h=>af.av z h) (λhp h=>af.fresh hp h) ha h;have K:∀{S:ar->Prop} {d:List PyData} {v:List V},ah S H d v->ah (λa=>S a\/a∈L) H d v:=λ{S d v} h=>jr (P:=λS=>ah S H d v) (λz h=>ah.av z h) (λhp h=>ah.fresh hp h) ha h;have Q:∀{S:ar->Prop} {d:List (PyData×PyData)} {v:List (Key×V)},ao S H d v->ao (λa=>S a\/a∈L) H d v:=λ{S d v} h=>jr (P:=λS=>ao S H d v) (λz h=>ao.av z h) (λhp h=>ao.fresh hp h) ha h;have N:∀{S:ar->Prop} {d:HD} {v:V},fh S H d v->fh (λa=>S a\/a∈L) H d v:=λ{S d v} h=>jr (P:=λS=>fh S H d v) (λz h=>fh.av h z) (λhp h=>fh.fresh h hp) ha h;have C:∀a∈c'.F,NB G.B a:=λa m=>(hF a m).elim (λz=>(h2 a z).2) λz=>z.elim (λz=>NB.new W.aq z) λz=>z.2.1;have t:ly G.B H':=λb l J=>by
    obtain⟨ns,E,c0,st,n,g1,g2,X⟩:=W.aq b l J;have hb:b∉c.F:=λz=>(h2 b z).2 b l J rfl;have zK:l∉c.F:=λz=>by
      obtain⟨_,_,_,_,_,_,M,_⟩:=W.gB b l J;rw[W.cJ l (h2 l z).1 (h2 l z).2] at M;cases M
    exact⟨ns,E,c0,st,n,p _ _ hb g1,p _ _ zK g2,X⟩
  have r:∀(j:Nat) s,i≠j->ρ[j]?=some s->∀a∈s.adr,a∉c.F:=λj s hij hs a m z=>W.cL i j c s hij e hs a z m;refine⟨t,λa n=>?_,λa o n q=>?_,λa n q=>?_,W.gA,by rw[gR];exact W.len,W.gB,λh m=>((N (W.dw h m)).av (hA h.1)).keep (bt h.1),λj s e'=>?_,?_,?_,?_⟩
  · rcases n with n|n
    · by_cases z:a∈c.F
      · exact hl a (.inl z)
      · cases q:H a with
        |none=>exact absurd q (W.live a n)
        |some o=>rw[p a o z q];exact gx _
    · exact hl a (.inr n)
  · refine p a o (λz=>?_) (W.old a o n q)
    rw[W.cJ a (h2 a z).1 n] at q;cases q
  · rcases n with n|n
    · exact W.cJ a n q
    · rcases hF a n with z|z|z
      · exact W.cJ a (h2 a z).1 q
      · cases w:G.H0 a with
        |none=>rfl
        |some o=>rw[W.old a o q w] at z;cases z
      · exact W.cJ a z.1 q
  · by_cases hij:i=j
    · subst hij
      rw[dB D] at e';cases e';exact⟨some c.v,e1,by rw[hv],λa m=>⟨.inr m,C a m⟩,h⟩
    · rw[bQ hij] at e'
      obtain⟨x,e2,q⟩:=W.ok j s e';refine⟨x,e2,?_⟩;have ap:=r j s hij e';cases s with
      |no=>trivial
      |d f d=>obtain⟨v,e,h⟩:=q;exact⟨v,e,((I h).av (hA f)).keep (bt f)⟩
      |own a f es=>obtain⟨e,n,q,xs,hx,hd⟩:=q;exact⟨e, .inl n,q,xs,p _ _ (ap a (aF.mpr rfl)) hx,((K hd).av (hA f)).keep (bt f)⟩
      |aq=>exact q
      |raw v=>exact q
      |bB a f es=>obtain⟨e,n,q,xs,hx,hd⟩:=q;exact⟨e, .inl n,q,xs,p _ _ (ap a (aF.mpr rfl)) hx,((Q hd).av (hA f)).keep (bt f)⟩
      | cu c2 =>
        obtain⟨e,n,q⟩:=q;refine⟨e,λa ha=>⟨.inl (n a ha).1,(n a ha).2⟩,c2.keep (.of λx o hx e=>p x o ?_ e) (c2.av (hA c2.f) (jr (P:=λS=>c2.P S H) (λz h=>c2.av z h) (λhp h=>c2.fresh hp h) ha q))⟩;rcases hx with hx|hx
        · exact λz=>hx (.inl (.inl (h2 x z).1))
        · exact ap x hx
  all_goals
    intro j k
  · intro a f as c2 g cs hjk q1 M
    have O:i≠j:=λz=>by subst z;rw[dB D] at q1;cases q1
    have hk:i≠k:=λz=>by subst z;rw[dB D] at M;cases M
    rw[bQ O] at q1;rw[bQ hk] at M;exact W.apart j k a f as c2 g cs hjk q1 M
  · intro a f as c2 g cs hjk q1 M
    have O:i≠j:=λz=>by subst z;rw[dB D] at q1;cases q1
    have hk:i≠k:=λz=>by subst z;rw[dB D] at M;cases M
    rw[bQ O] at q1;rw[bQ hk] at M;exact W.fB j k a f as c2 g cs hjk q1 M
  · intro c2 s hjk q1 M a m z
    have R:∀(j:Nat) s,i≠j->ρ[j]?=some s->∀a∈s.adr,a∉c'.F:=λj s hij hs a m z=>by
      rcases hF a z with w|w|w
      · exact r j s hij hs a m w
      · obtain⟨x,_,q⟩:=W.ok j s hs
        exact W.live a (q.yr a m).1 w
      · exact w.2.2 j s hs m
    by_cases O:i=j
    · subst O
      rw[dB D] at q1;cases q1;rw[bQ hjk] at M;exact R k s hjk M a z m
    · rw[bQ O] at q1
      by_cases hk:i=k
      · subst hk
        rw[dB D] at M;cases M;exact R j _ O q1 a m z
      · rw[bQ hk] at M
        exact W.cL j k c2 s hjk q1 M a m z
end
def bz(G:Gx)(ρ:Rh)(te:TE)(Φ:Rh->Pd):Prop:=∀nb σ H (Q:VK),Wd G nb ρ σ H->(∀aA L f v H' d,Φ L f d->Wd G aA L σ H'->af (G.S aA f) H' d v->Q v H')->te σ H Q
def m7(G:Gx)(ρ:Rh)(a:TT)(Φ:Rh->Bool->Prop):Prop:=∀nb σ H (Q:Bool->Hp->Prop),Wd G nb ρ σ H->(∀aA L b H',Φ L b->Wd G aA L σ H'->Q b H')->a σ H Q
def rD(G:Gx)(ρ:Rh)(ta:TA)(Φ:Rh->List Fd->Prop):Prop:=∀nb σ H (Q:List V->Hp->Prop),Wd G nb ρ σ H->(∀aA L es vs H',Φ L es->Wd G aA L σ H'->l8 G aA H' es vs->Q vs H')->ta σ H Q
section
variable{G:Gx}{ρ:Rh}{Φ:Rh->Pd}{ta tb te:TE}{t:TA}{c u:TT}{i:Nat}{E:DE}{s s':TS}
def bz.of(h:Ev G ρ te (Φ ρ)):bz G ρ te Φ:=λnb σ H Q W z=>h nb σ H Q W λf v H' d q st hv=>z nb ρ f v H' d q (W.step st) hv
def rD.cons{Θ:Rh->List Fd->Prop}(h:bz G ρ te λL f d=>Av G L t λes=>Θ L ((f,d)::es)):rD G ρ (aU te t) Θ:=λnb σ H Q W z=>
 h nb σ H _ W λaA L f v H1 d k W1 J=>k aA σ H1 _ W1 λes vs H2 p2 s2 M=>z aA L _ _ H2 p2 (W1.step s2) ⟨v,vs,rfl,J.keep s2.c8,M⟩
def bz.gK{F:DF}(hm:eK F)(h:rD G ρ t λL es=>es.length=n/\F (es.map (·.2)) λf d=>Φ L (f||kG es) d):bz G ρ (jh (cG n F) [] E0 t) Φ:=λnb σ H Q W z=>
 h nb σ H _ W λaA L es vs H1 ⟨hl,p⟩ W1 J=>by
  rw[ic];refine⟨by rw[J.len,hl],G.S aA (kG es),es.map (·.2),W1.iG,J.all λz=>z,hm _ _ _ p λf d hp v H' u hd=>z aA L _ v H' d hp (W1.step (.same W1.aq u)) (hd.av λa q=>?_)⟩;cases f with
  |false=>rw[rE] at q;exact .inl q
  |true=>exact .inr ⟨rfl,W1.iG a q⟩
def bz.JA(h:bz G ρ ta λL _ x=>∃b,x= .bool b/\if b=true then bz G L tb Φ else Φ L true (.bool false)):bz G ρ (Fq ta tb) Φ:=λnb σ H Q W z=>
 h nb σ H _ W λaA L f v H1 d ⟨b,e,q⟩ W1 hv=>by
  subst e;refine⟨b,by unfold af at hv;exact hv,?_⟩;cases b with
  |true=>rw[if_pos rfl] at q⊢;exact q aA σ H1 _ W1 z
  |false=>rw[if_neg eB] at q⊢;exact z aA L true _ H1 _ q W1 (.bl false)
def m7.rR{K:PySem.W.Frag}{Θ:Rh->Bool->Prop}(h:bz G ρ te λL _ x=>∃b,x= .bool b/\Θ L b):m7 G ρ (GL K te) Θ:=λnb σ H Q W z=>
 h nb σ H _ W λaA L f v H1 d ⟨b,e,q⟩ W1 hv=>by subst e;exact⟨b,by unfold af at hv;subst hv;rfl,z aA L b H1 q W1⟩
def m7.not{Θ:Rh->Bool->Prop}(h:m7 G ρ c λL b=>Θ L (!b)):m7 G ρ (Ec c) Θ:=λnb σ H Q W z=>h nb σ H _ W λaA L b H1 q W1=>z aA L _ H1 q W1
namespace Sv
def xS{g:TG}(h:bz G ρ te λL f d=>Gv G L g f d E.nx):Sv G ρ (gu te g) E:=λnb σ H D W K=>h nb σ H _ W λaA L f v H1 d q W1 hv=>q aA σ H1 v _ W1 hv λM L p W'=>K.nx aA L M H1 p W'
def I0(h:bz G ρ te λL _ _=>E.nx L):Sv G ρ (nu te) E:=λnb σ H D W K=>h nb σ H _ W λaA L f v H1 d q W1 hv=>K.nx aA L σ H1 q W1
def retS(h:bz G ρ te λ_=>E.rt):Sv G ρ (pT te) E:=λnb σ H D W K=>h nb σ H _ W λaA L f v H1 d q W1 hv=>K.rt aA L σ f v H1 d q W1 (hv.av (cg (λz=>z) λ_ z=>z.elim))
def nA(h:bz G ρ te λL f d=>∀nb v H,af (G.S nb f) H d v->E.rw nb L v H):Sv G ρ (pT te) E:=λnb σ H D W K=>h nb σ H _ W λaA L f v H1 d q W1 hv=>K.rw aA L σ v H1 (q aA v H1 hv) W1
def Lz(h:m7 G ρ c λL b=>if b=true then Sv G L s E else Sv G L s' E):Sv G ρ (DK c s s') E:=λnb σ H D W K=>h nb σ H _ W λaA L b H1 q W1=>by
 cases b with
 |true=>rw[if_pos rfl] at q⊢;exact q aA σ H1 D W1 K
 |false=>rw[if_neg eB] at q⊢;exact q aA σ H1 D W1 K
end Sv
end
structure kh(c c':Cu)(H H':Hp):Prop where
 v:c'.v=c.v
 f:c'.f=false
 sub:∀a∈c.F,a∈c'.F
 new:∀a∈c'.F,a∈c.F\/H a=none
 kp:∀a o,a∉c.F->H a=some o->H' a=some o
 lv:∀a∈c'.F,H' a≠none
abbrev CF:=Cu->List PyData->(Cu->Pd)->Prop
def i9(F:CF):Prop:=∀c ds (Φ Ψ:Cu->Pd),F c ds Φ->(∀c f d,Φ c f d->Ψ c f d)->F c ds Ψ
def cz(n:Nat)(F:CF):Sp:=λvs H Q _=>vs.length=n/\∃(nb:ar->Prop) (c:Cu) (ws:List V) (ds:List PyData),vs=c.v::ws/\gZ nb H/\(∀a∈c.F,nb a)/\c.f=false/\c.P nb H/\ah nb H ds ws/\
 F c ds λc' f d=>∀v H',kh c c' H H'->c'.P (λa=>nb a\/a∈c'.F) H'->af (λa=>nb a\/a∈c'.F\/(f=true/\H a≠none)) H' d v->Q v H'
section
variable{G:Gx}{ρ:Rh}{Φ:Rh->Pd}{ta tb te:TE}{t:TA}{i:Nat}{E:DE}{c:Cu}{C:ar}{m:Str}{n:Nat}{F:CF}
def bz.XW{Q:VK}{es:List Fd}(hm:i9 F)(e:ρ[i]?=some (.cu c))(W1:Wd G nb ρ σ H1)(J:l8 G nb H1 es vs)(hl:es.length+1=n)(T:c.f=false)(p:F c (es.map (·.2)) λc' f d=>Φ (ρ.set i (.cu c')) f d)
  (z:∀aA L f v H' d,Φ L f d->Wd G aA L σ H'->af (G.S aA f) H' d v->Q v H'):cz n F (c.v::(vs++[])) H1 Q E0:=by
 rw[ic];obtain⟨A,e1,h1,h2,h3⟩:=W1.ok i _ e;refine⟨by rw[dM,J.len,hl],G.S nb false,c,vs,es.map (·.2),rfl,W1.iG,λa m=> .inl (h2 a m).1,T,by rw[T] at h3;exact h3,J.all (f:=false) (λz=>by cases z),hm _ _ _ _ p λc' f d hp v H' to Z hd=>?_⟩;refine z _ _ f v H' d hp (W1.yo (c':=c') e to.kp to.v (λa m=>(to.new a m).imp id .inl) (λa m=>m.elim (λm=>to.lv a (to.sub a m)) λm=>to.lv a m) (c'.av (λa y=>?_) Z)) (hd.av λa y=>?_)
 .rw[to.f] at y;rcases y with (y|y)|y|y|y
  .exact .inl (.inl y)
  .exact .inr y
  .exact .inl (.inr (.inl y))
  .exact .inl (.inr (.inr (.inl y)))
  .cases y.1
 .rcases y with (y|y)|y|y|y
  .exact .inl (.inl y)
  .exact .inr (.inl y)
  .exact .inl (.inr (.inl y))
  .exact .inl (.inr (.inr (.inl y)))
  .exact .inr (.inr ⟨y.1,W1.iG (f:=true) a (.inr (.inr (.inr ⟨rfl,y.2⟩)))⟩)
def bz.mq(hm:i9 F)(e:ρ[i]?=some (.cu c))(T:c.f=false)(hi:∀S H,c.P S H->∃a dx fs,c.v= .ref a/\H a=some (.ins C dx fs)/\fs.lookup m=none)
  (h:Av G ρ t λes=>es.length+1=n/\F c (es.map (·.2)) λc' f d=>Φ (ρ.set i (.cu c')) f d):bz G ρ (om C m (cz n F) [] E0 (br i) t) Φ:=λnb σ H Q W z=>by
 obtain⟨A,e1,h1,h2,h3⟩:=W.ok i _ e;subst h1;obtain⟨a,dx,fs,g1,g2,X⟩:=hi _ _ h3;refine⟨c.v,e1,a,dx,fs,g1,g2,X,h nb σ H _ W λes vs H1 ⟨hl,p⟩ s1 J=>?_⟩;exact bz.XW hm e (W.step s1) J hl T p z
end
noncomputable def oB(F:List ar)(H:Hp)(nb:ar->Prop):Gx:=⟨none,λa=>if a∈F then none else H a,λa=>nb a/\a∉F,[]⟩
structure sQ(c c':Cu):Prop where
 v:c'.v=c.v
 f:c'.f=false
 sub:∀a∈c.F,a∈c'.F
noncomputable def objE(G:Gx)(c:Cu)(Φ:Cu->Pd):DE where
 nx:=λρ=>∃c',ρ[0]?=some (.cu c')/\sQ c c'/\Φ c' true .none
 rt:=λ_ _=>False
 rw:=λnb ρ v H=>∃c' f d,ρ[0]?=some (.cu c')/\sQ c c'/\Φ c' f d/\af (G.S nb f) H d v
section
variable{ρ:Rh}{t:TS}{N:List Str}{ws:List V}{ds:List PyData}{nb:ar->Prop}{H:Hp}{Q:VK}{Φ:Cu->Pd}{c:Cu}
theorem Sv.k6(hl:gZ nb H)(hF:∀a∈c.F,nb a)(hf:c.f=false)(Z:c.P nb H)(hd:ah nb H ds ws)
    (G:∀c' f d v H',Φ c' f d->kh c c' H H'->c'.P (λa=>nb a\/a∈c'.F) H'->af (λa=>nb a\/a∈c'.F\/(f=true/\H a≠none)) H' d v->Q v H')
    (y:ρ= .cu c::ds.map (Sl.d false)++au (N.length-(ds.length+1)) .no) (h:Sv (oB c.F H nb) ρ t (objE (oB c.F H nb) c Φ)):t {nx:=λ_ H'=>Q .aN H',rt:=Q} (start N (c.v::ws)) H:=by
  have hlen:=hd.length;have C:∀a,NB (oB c.F H nb).B a:=λa b l e=>by cases e
  have key:∀{aA L M H' c'} {f:Bool} {d:PyData} {v:V},Wd (oB c.F H nb) aA L M H'->L[0]?=some (.cu c')->sQ c c'->Φ c' f d->af ((oB c.F H nb).S aA f) H' d v->Q v H':=λ{aA L M H' c' f d v} W e up p hv=>by
    obtain⟨A,e1,h1,h2,h3⟩:=W.ok 0 _ e;have r:∀(f:Bool) a,nb a\/a∈c'.F\/(f=true/\H a≠none)->(oB c.F H nb).S aA f a:=λf a z=>by
      by_cases m:a∈c'.F;· exact .inl (h2 a m).1
      have R:a∉c.F:=λz=>m (up.sub a z);rcases z with z|z|z
      · exact .inr (.inl ⟨z,R⟩)
      · exact absurd z m
      · exact .inr (.inr (.inr ⟨z.1,by show(if a∈c.F then none else H a)≠none;rw[if_neg R];exact z.2⟩))
    refine G c' f d v H' p ⟨up.v,up.f,up.sub,λa m=>?_,λa o n q=>?_,λa m=>W.live a (h2 a m).1⟩ (c'.av (λa z=>by rw[up.f];exact r false a (z.elim .inl λz=> .inr (.inl z))) h3) (hv.av (r f))
    · have:=W.cJ a (h2 a m).1 (h2 a m).2
      by_cases z:a∈c.F;· exact .inl z
      · exact .inr (by have q:(if a∈c.F then none else H a)=none:=this;rwa[if_neg z] at q)
    · exact W.old a o (C a) (by show(if a∈c.F then none else H a)=_;rw[if_neg n];exact q)
  refine h (λa=>a∈c.F) _ H _ ⟨λ_ _ z=>(by cases z),λa z=>hl a (hF a z),λa o _ e=>?_,λa z _=>by show(if a∈c.F then none else H a)=none;rw[if_pos z],λa z=>?_,?_,λ_ _ z=>(by cases z),λ_ m=>(by cases m),λi s e=>?_,?_,?_,?_⟩ ⟨λaA L M H' ⟨c',e,up,p⟩ W=>key W e up p .aN,λ_ _ _ _ q _=>q.elim,λ_ _ _ _ q _=>q.elim,λ_ _ _ _ _ _ _ q _ _=>q.elim,λaA L M v H' ⟨c',f,d,e,up,p,hv⟩ W=>key W e up p hv⟩
  · have e:(if a∈c.F then none else H a)=some o:=e
    by_cases z:a∈c.F;· rw[if_pos z] at e;cases e
    · rwa[if_neg z] at e
  · show(if a∈c.F then none else H a)≠none
    rw[if_neg z.2];exact hl a z.1
  · rw[y];unfold start;simp[hlen]
  · rw[y] at e
    unfold start;have av:∀a,(oB c.F H nb).S (λa=>a∈c.F) false a->nb a:=λa z=>by
      rcases z with z|z|z|z
      · exact hF a z
      · exact z.1
      · exact absurd (C a) z
      · cases z.1
    cases i with
    |zero=>simp at e;subst e;exact⟨some c.v,by simp,rfl,λa m=>⟨m,C a⟩,by rw[hf];exact c.av av Z⟩
    | succ i =>
      simp only[lB,kN,bR,dM] at e⊢;by_cases hi:i<ds.length
      · rw[fO (by rw[aj];exact hi)] at e
        obtain⟨v,d,hv,rfl,q⟩:=l9 hd e;refine⟨some v,?_,v,rfl,q.av av⟩;rw[fO (by rw[aj,hlen];exact hi),bu,hv];rfl
      · rw[fJ (by rw[aj];omega),eY] at e
        split at e
        · rename_i h'
          cases e;refine⟨none,?_,trivial⟩;rw[aj] at h';rw[fJ (by rw[aj];omega),eY,if_pos (by rw[aj,hlen];exact h')]
        · cases e
  all_goals
    have sl:∀{i:Nat} {s:Sl},ρ[i+1]?=some s->s.adr=[]:=λ{i s} e1=>by
      rw[y] at e1;simp only[lB,kN] at e1;by_cases hi:i<ds.length
      · rw[fO (by rw[aj];exact hi)] at e1
        obtain⟨_,_,_,z,_⟩:=l9 hd e1;subst z;rfl
      · rw[fJ (by rw[aj];omega),eY] at e1
        split at e1;· cases e1;rfl
        · cases e1
    have s0:∀{s:Sl},ρ[0]?=some s->s= .cu c:=λ{s} e1=>by rw[y] at e1;simp at e1;exact e1.symm
  · intro i j a f as c2 g cs hij e1
    cases i with
    |zero=>cases s0 e1
    |succ i=>cases sl e1
  · intro i j a f as c2 g cs hij e1
    cases i with
    |zero=>cases s0 e1
    |succ i=>cases sl e1
  · intro i j c2 s hij e1 e2 a m
    cases i with
    | zero =>
      cases j with
      |zero=>exact absurd rfl hij
      |succ j=>rw[sl e2];exact λz=>by cases z
    | succ i =>
      have:=sl e1;rw[show Sl.adr (.cu c2)=c2.F from rfl] at this;rw[this] at m;cases m
end
def Kp.sub{S:ar->Prop}{F b:List ar}(k:Kp S F H H')(h:∀a∈b,a∈F):Kp S b H H':=⟨λa m=>k.own a (h a m),k.lst,k.tup,k.bB⟩
noncomputable def c9(a:ar)(ds:List PyData):Cu where
 v:= .ref a
 F:=[a]
 f:=false
 P:=λS H=>∃xs,H a=some (.lst xs)/\ah S H ds xs
 keep:=λk ⟨xs,h,q⟩=>⟨xs,k.own _ (aF.mpr rfl) _ h,ah.kp k q⟩
 av:=λz ⟨xs,h,q⟩=>⟨xs,h,q.av z⟩
 fresh:=λz ⟨xs,h,q⟩=>⟨xs,h,q.fresh z⟩
noncomputable def dI(a:ar)(ks:List (Int×PyData)):Cu where
 v:= .ref a
 F:=[a]
 f:=false
 P:=λS H=>∃ps,H a=some (.dK ps)/\ao S H (ks.map aH) ps
 keep:=λk ⟨xs,h,q⟩=>⟨xs,k.own _ (aF.mpr rfl) _ h,ao.kp k q⟩
 av:=λz ⟨xs,h,q⟩=>⟨xs,h,q.av z⟩
 fresh:=λz ⟨xs,h,q⟩=>⟨xs,h,q.fresh z⟩
inductive Fl where
 |d (d:PyData)|cu (c:Cu)
noncomputable def Fl.adr:Fl->List ar
 | .d _=>[]
 | .cu c=>c.F
def mK(S:ar->Prop)(H:Hp)(v:V):Fl->Prop
 | .d d=>af S H d v
 | .cu c=>v=c.v/\c.P S H
noncomputable abbrev Fs:=List (Str×Fl)
def cV(S:ar->Prop)(H:Hp):Fs->List (Str×V)->Prop
 |[],vs=>vs=[]
 |f::fs,vs=>∃v ws,vs=(f.1,v)::ws/\mK S H v f.2/\cV S H fs ws
noncomputable def bW(x dx:ar)(fs:Fs):List ar:=x::dx::fs.flatMap λf=>f.2.adr
def mK.map{S S':ar->Prop}{v:V}{fl:Fl}(h:mK S H v fl)(hd:∀d v,af S H d v->af S' H' d v)(hc:∀c,fl= .cu c->c.P S H->c.P S' H'):mK S' H' v fl:=by
 cases fl with
 |d d=>exact hd _ _ h
 |cu c=>exact⟨h.1,hc c rfl h.2⟩
theorem cV.map{S S':ar->Prop}{H H':Hp}:∀{fs:Fs} {vs:List (Str×V)},cV S H fs vs->(∀d v,af S H d v->af S' H' d v)->(∀f∈fs,∀c,f.2= .cu c->c.P S H->c.P S' H')->cV S' H' fs vs
 |[],_,h,_,_=>h
 |f::fs,_,⟨v,ws,e,h1,h2⟩,hd,hc=>⟨v,ws,e,h1.map hd (hc f (bZ ..)),cV.map h2 hd λg m=>hc g (bV _ m)⟩
def Ru{x:ar}{fs:Fs}{f:Str×Fl}(h:f∈fs){a:ar}(m:a∈f.2.adr):a∈bW x dx fs:=bV _ (bV _ (wX.mpr ⟨f,h,m⟩))
noncomputable def aC(C x dx:ar)(fs:Fs):Cu where
 v:= .ref x
 F:=bW x dx fs
 f:=false
 P:=λS H=>(bW x dx fs).Nodup/\H dx=some (.own x)/\fs.length<=900/\∃vs,H x=some (.ins C dx vs)/\cV S H fs vs
 keep:=λk ⟨n,h,l,vs,q,r⟩=>⟨n,k.own _ (by simp[bW]) _ h,l,vs,k.own _ (by simp[bW]) _ q,r.map (λd v z=>af.kp k z) λf m c e z=>c.keep (k.sub λa y=>Ru m (by rw[e];exact y)) z⟩
 av:=λz ⟨n,h,l,vs,q,r⟩=>⟨n,h,l,vs,q,r.map (λd v y=>y.av z) λf m c e y=>c.av z y⟩
 fresh:=λz ⟨n,h,l,vs,q,r⟩=>⟨n,h,l,vs,q,r.map (λd v y=>y.fresh z) λf m c e y=>c.fresh z y⟩
theorem cV.get{S:ar->Prop}{H:Hp}{f:Str}{fl:Fl}:∀{fs:Fs} {vs:List (Str×V)},cV S H fs vs->fs.lookup f=some fl->∃v,vs.lookup f=some v/\mK S H v fl
  |[],_,h,e=>by simp at e
  | (g, x) :: fs, _, ⟨v, ws, e, h1, h2⟩, q => by
    subst e;rw[gJ] at q⊢;cases hb:(f==g) with
    |true=>rw[hb] at q;cases q;exact⟨v,rfl,h1⟩
    |false=>rw[hb] at q;exact cV.get h2 q
theorem cV.no{S:ar->Prop}{H:Hp}{f:Str}:∀{fs:Fs} {vs:List (Str×V)},cV S H fs vs->fs.lookup f=none->vs.lookup f=none
  |[],_,h,e=>by unfold cV at h;subst h;rfl
  | (g, x) :: fs, _, ⟨v, ws, e, h1, h2⟩, q => by
    subst e;rw[gJ] at q⊢;cases hb:(f==g) with
    |true=>rw[hb] at q;cases q
    |false=>rw[hb] at q;exact cV.no h2 q
noncomputable def dP(f:Str)(v:Fl):Fs->Fs
 |[]=>[(f,v)]
 |(g,x)::r=>if g=f then(g,v)::r else(g,x)::dP f v r
theorem cV.put{S:ar->Prop}{H:Hp}{f:Str}{fl:Fl}{v:V}(hv:mK S H v fl):∀{fs:Fs} {vs:List (Str×V)},cV S H fs vs->cV S H (dP f fl fs) (gQ f v vs)
  |[],_,h=>by unfold cV at h;subst h;exact⟨v,[],rfl,hv,rfl⟩
  | (g, x) :: fs, _, ⟨w, ws, e, h1, h2⟩ => by
    subst e;unfold dP gQ;by_cases h:g=f;· rw[if_pos h,if_pos h];exact⟨v,ws,rfl,hv,h2⟩
    · rw[if_neg h,if_neg h];exact⟨w,_,rfl,h1,cV.put hv h2⟩
theorem cV.len{S:ar->Prop}{H:Hp}:∀{fs:Fs} {vs:List (Str×V)},cV S H fs vs->vs.length=fs.length
 |[],_,h=>by unfold cV at h;subst h;rfl
 |f::fs,_,⟨v,ws,e,h1,h2⟩=>by subst e;simp[cV.len h2]
def aC.is{x:ar}{fs:Fs}{m:Str}(hm:fs.lookup m=none):∀S H,(aC C x dx fs).P S H->∃a dx' vs,(aC C x dx fs).v= .ref a/\H a=some (.ins C dx' vs)/\vs.lookup m=none:=λS H ⟨n,h,l,vs,q,r⟩=>⟨x,dx,vs,rfl,q,r.no hm⟩
section
variable{G:Gx}{ρ:Rh}{Φ:Pd}{ta tb te:TE}{t:TA}{i:Nat}{E:DE}{C x dx l:ar}{fs:Fs}{K:PySem.W.Frag}{f m:Str}{d:PyData}{ds:List PyData}
def Wd.kP(W:Wd G nb ρ σ H)(e:ρ[i]?=some (.cu (aC C x dx fs))):∃vs,σ[i]?=some (some (.ref x))/\(∀a∈bW x dx fs,nb a/\NB G.B a)/\(bW x dx fs).Nodup/\H dx=some (.own x)/\fs.length<=900/\H x=some (.ins C dx vs)/\cV (G.S nb false) H fs vs:=by
 obtain⟨A,e1,h1,h2,n,h,l,vs,q,r⟩:=W.ok i _ e;subst h1;exact⟨vs,e1,h2,n,h,l,q,r⟩
def Ev.fld(e:ρ[i]?=some (.cu (aC C x dx fs)))(cl:cD K C)(na:bf K C f)(hl:fs.lookup f=some (.d d))(h:Φ false d):Ev G ρ (ja K (br i) f) Φ:=λnb σ H Q W z=>by
 obtain⟨vs,e1,h2,n,h3,l,q,r⟩:=W.kP e;obtain⟨v,g1,g2⟩:=r.get hl;exact⟨.ref x,e1,x,C,dx,vs,v,rfl,q,cl,na,g1,z false v H d h (.refl W.aq) g2⟩
theorem lookup_mem{fl:Fl}:∀{fs:Fs},fs.lookup f=some fl->(f,fl)∈fs
  |[],h=>by simp at h
  | (g, y) :: r, h => by
    rw[gJ] at h;cases hb:(f==g) with
    |true=>rw[hb] at h;cases h;rw[beq_iff_eq.mp hb];exact bZ ..
    |false=>rw[hb] at h;exact bV _ (lookup_mem h)
def rK{fl:Fl}(hl:fs.lookup f=some fl){a:ar}(m:a∈fl.adr):a∈bW x dx fs:=Ru (lookup_mem hl) m
def oz{Q:VK}{c:Cu}(W:Wd G nb ρ σ H)(e:ρ[i]?=some (.cu (aC C x dx fs)))(cl:cD K C)(na:bf K C f)(hl:fs.lookup f=some (.cu c))
  (z:(∀a∈c.F,nb a/\NB G.B a)->c.P (G.S nb false) H->Q c.v H):ja K (br i) f σ H Q:=by
 obtain⟨vs,e1,h2,n,h3,len,q,r⟩:=W.kP e;obtain⟨v,g1,g2,X⟩:=r.get hl;exact⟨.ref x,e1,x,C,dx,vs,v,rfl,q,cl,na,g1,by rw[g2];exact z (λa m=>h2 a (rK hl m)) X⟩
theorem FL{fl sf:Fl}(h':sf.adr=fl.adr):∀{fs:Fs},fs.lookup f=some fl->((dP f sf fs).flatMap λg=>g.2.adr)=fs.flatMap λg=>g.2.adr
  |[],h=>by simp at h
  | (g, y) :: r, h => by
    unfold dP;rw[gJ] at h;cases hb:(f==g) with
    | true =>
      rw[hb] at h;cases h
      rw[if_pos (beq_iff_eq.mp hb).symm,qL,qL,h']
    | false =>
      rw[hb] at h;rw[if_neg (λz=>by rw[z,beq_self_eq_true] at hb;cases hb),qL,qL,FL h' h]
theorem Jm{fl sf:Fl}:∀{fs:Fs},fs.lookup f=some fl->(dP f sf fs).length=fs.length
  |[],h=>by simp at h
  | (g, y) :: r, h => by
    unfold dP;rw[gJ] at h;cases hb:(f==g) with
    |true=>rw[if_pos (beq_iff_eq.mp hb).symm];rfl
    | false =>
      rw[hb] at h;rw[if_neg (λz=>by rw[z,beq_self_eq_true] at hb;cases hb),dM,dM,Jm h]
def mK.wr{S:ar->Prop}{v:V}{fl:Fl}{p:ar}{o:HO}(N:S p)(hp:p∉fl.adr)(h:mK S H v fl):mK S (upd H p o) v fl:=
 h.map (λd v z=>z.keep (bC.set N)) λc e z=>c.keep (.of λa o' m q=>by
  rw[aG];·exact q
  .rintro rfl;rcases m with m|m
   .exact m N
   .rw[e] at hp;exact hp m) z
theorem cV.EV{S:ar->Prop}{H:Hp}{p:ar}{o:HO}(N:S p):∀{fs:Fs} {vs:List (Str×V)},(p∉fs.flatMap λg=>g.2.adr)->cV S H fs vs->cV S (upd H p o) fs vs
  |[],_,_,h=>h
  | g :: fs, _, hp, ⟨v, ws, e, h1, h2⟩ => by
    rw[qL,fN] at hp;exact⟨v,ws,e,h1.wr N λz=>hp (.inl z),cV.EV N (λz=>hp (.inr z)) h2⟩
theorem cV.wr{S:ar->Prop}{H:Hp}{p:ar}{o:HO}{c c':Cu}(N:S p)(hp:p∈c.F)(hv:c'.v=c.v)(hc:c'.P S (upd H p o)):∀{fs:Fs} {vs:List (Str×V)},(fs.flatMap λg=>g.2.adr).Nodup->fs.lookup f=some (.cu c)->cV S H fs vs->cV S (upd H p o) (dP f (.cu c') fs) vs
  |[],_,_,h,_=>by simp at h
  | (g, y) :: r, _, hn, h, ⟨v, ws, e, h1, h2⟩ => by
    unfold dP;rw[qL,mF] at hn;rw[gJ] at h;cases hb:(f==g) with
    | true =>
      rw[hb] at h;cases h
      rw[if_pos (beq_iff_eq.mp hb).symm];exact⟨v,ws,e,⟨by rw[hv];exact h1.1,hc⟩,cV.EV N (λz=>hn.2.2 p hp p z rfl) h2⟩
    | false =>
      rw[hb] at h;rw[if_neg (λz=>by rw[z,beq_self_eq_true] at hb;cases hb)];exact⟨v,ws,e,h1.wr N λz=>hn.2.2 p z p (wX.mpr ⟨_,lookup_mem h,hp⟩) rfl,cV.wr N hp hv hc hn.2.1 h h2⟩
def Wd.vX{c c':Cu}{p:ar}{o:HO}(W:Wd G nb ρ σ H)(e:ρ[i]?=some (.cu (aC C x dx fs)))(hl:fs.lookup f=some (.cu c))(hp:p∈c.F)(hv:c'.v=c.v)(hF:c'.F=c.F)(h:c'.P (G.S nb false) (upd H p o)):
  Wd G nb (ρ.set i (.cu (aC C x dx (dP f (.cu c') fs)))) σ (upd H p o):=by
 obtain⟨vs,e1,h2,n,h3,len,q,r⟩:=W.kP e;have k:p∈bW x dx fs:=rK hl hp;have N:G.S nb false p:= .inl (h2 p k).1;have hn:=n;unfold bW at hn;obtain⟨n1,n2⟩:=gf.mp hn;obtain⟨K,j⟩:=gf.mp n2;have B:p∈fs.flatMap λg=>g.2.adr:=wX.mpr ⟨_,lookup_mem hl,hp⟩;have b:x≠p:=λz=>n1 (by rw[z];exact bV _ B);have d:dx≠p:=λz=>K (by rw[z];exact B);have t:bW x dx (dP f (.cu c') fs)=bW x dx fs:=by unfold bW;rw[FL (fl:= .cu c) (sf:= .cu c') hF hl]
 refine W.Oo (c':=aC C x dx (dP f (.cu c') fs)) e k rfl (λa m=>by rw[show(aC C x dx (dP f (.cu c') fs)).F=bW x dx fs from t] at m;exact m) ?_;exact⟨by rw[t];exact n,by rw[aG d];exact h3,by rw[Jm hl];exact len,vs,by rw[aG b];exact q,cV.wr N hp hv h j hl r⟩
def cV.FT{S:ar->Prop}{fl:Fl}{v:V}{p:ar}{o:HO}(N:S p)(hv:mK S (upd H p o) v fl){fs:Fs}{vs:List (Str×V)}(hp:p∉fs.flatMap λg=>g.2.adr)(h:cV S H fs vs):cV S (upd H p o) (dP f fl fs) (gQ f v vs):=cV.put hv (cV.EV N hp h)
theorem xQ{fl:Fl}:∀{fs:Fs},fs.lookup f=none->dP f fl fs=fs++[(f,fl)]
  |[],_=>rfl
  | (g, y) :: r, h => by
    unfold dP;rw[gJ] at h;cases hb:(f==g) with
    |true=>rw[hb] at h;cases h
    | false =>
      rw[hb] at h;rw[if_neg (λz=>by rw[z,beq_self_eq_true] at hb;cases hb),xQ h];rfl
theorem Sv.kH(e:ρ[i]?=some (.cu (aC C x dx fs)))(cl:cD K C)(na:bf K C f)(hl:fs.lookup f=none\/∃d0,fs.lookup f=some (.d d0))(hlen:fs.length<900)(h:Ev G ρ te λ_ d=>E.nx (ρ.set i (.cu (aC C x dx (dP f (.d d) fs))))):Sv G ρ (rW K (br i) te f) E:=λnb σ H D W KK=>
 h nb σ H _ W λb v H1 d q s1 hv=>by
  have W1:=W.step s1;obtain⟨vs,e1,h2,n,h3,len,p,r⟩:=W1.kP e;have w:G.S nb false x:= .inl (h2 x (by simp[bW])).1;have hn:=n;unfold bW at hn;obtain⟨n1,n2⟩:=gf.mp hn;have k:dx≠x:=λz=>n1 (by rw[z];exact bZ ..);have hx:x∉fs.flatMap λg=>g.2.adr:=λz=>n1 (bV _ z);have t:bW x dx (dP f (.d d) fs)=bW x dx fs:=by
   unfold bW;rcases hl with hl|⟨d0,hl⟩
   .rw[xQ hl,GU];show _::_::(_++([]++[]))=_;rw[ic,ic]
   .rw[FL (fl:= .d d0) (sf:= .d d) rfl hl]
  have Z:(dP f (.d d) fs).length<=900:=by
   rcases hl with hl|⟨d0,hl⟩
   .rw[xQ hl,cP,kc];omega
   .rw[Jm hl];exact len
  refine⟨.ref x,e1,x,C,dx,vs,rfl,p,cl,na,by rw[r.len];omega,KK.nx nb _ _ _ q ?_⟩;refine W1.Oo (c':=aC C x dx (dP f (.d d) fs)) e (by show x∈bW x dx fs;simp[bW]) rfl (λa m=>by rw[show(aC C x dx (dP f (.d d) fs)).F=bW x dx fs from t] at m;exact m) ?_;refine⟨by rw[t];exact n,by rw[aG k];exact h3,Z,_,aV,cV.FT w ?_ hx r⟩;exact(hv.av (cg (λz=>by cases z) λ_ z=>z)).keep (bC.set w)
theorem Wd.EF{c:Cu}{vs:List (Str×V)}{l:ar}(W:Wd G nb ρ σ H)(s1:Step G.B H H1)(e:ρ[i]?=some (.cu (aC C x dx fs)))(hl:fs.lookup f=none)(hlen:fs.length<900)(dH:c.F=[l])(Dl:c.v= .ref l)(u:H l=none)(h:H1 l≠none)
  (Z:c.P (λa=>G.S nb false a\/a=l) H1) (p:H1 x=some (.ins C dx vs)):Wd G (λa=>(nb a\/a∈[l])\/a∈bW x dx (fs++[(f, .cu c)])) (ρ.set i (.cu (aC C x dx (fs++[(f, .cu c)])))) σ (upd H1 x (.ins C dx (gQ f c.v vs))):=by
 have M:∀a∈[l],H a=none:=λa m=>by rw[aF.mp m];exact u
 obtain⟨Q,O,J,_⟩:=W.kP e;have iR:l∉bW x dx fs:=λz=>W.live l (J l z).1 u;obtain⟨W1,L,K⟩:=W.JI s1 M (λa m=>by rw[aF.mp m];exact h);obtain⟨I,e1,h2,n,h3,len,D,r⟩:=W1.kP e;rw[p] at D;cases D;have hn:=n;unfold bW at hn;obtain⟨n1,n2⟩:=gf.mp hn;have k:dx≠x:=λz=>n1 (by rw[z];exact bZ ..);have hx:x∉fs.flatMap λg=>g.2.adr:=λz=>n1 (bV _ z);have A:l≠x:=λz=>iR (by rw[z];simp[bW]);have E:x∈bW x dx fs:=by simp[bW]
 have t:bW x dx (fs++[(f, .cu c)])=bW x dx fs++[l]:=by
  unfold bW;rw[GU];show _::_::(_++(c.F++[]))=_;rw[dH]
  rfl
 have N:∀{a},G.S (λy=>(nb y\/y∈[l])\/y∈bW x dx (fs++[(f, .cu c)])) false a->G.S (λy=>nb y\/y∈[l]) false a:=λ{a} z=>by
  rcases z with (z|z)|z|z|z
  .exact .inl z
  .rw[t,fN] at z;rcases z with z|z
   .exact .inl (h2 a z).1
   .exact .inl (.inr z)
  .exact .inr (.inl z)
  .exact .inr (.inr (.inl z))
  .exact .inr (.inr (.inr z))
 refine W1.yo (c:=aC C x dx fs) (c':=aC C x dx (fs++[(f, .cu c)])) e (λa o na q=>?_) rfl (λa m=>?_) (λa m=>?_) ?_;·rw[aG (λz=>na (by rw[z];exact E))];exact q
 .rw[show(aC C x dx (fs++[(f, .cu c)])).F=bW x dx fs++[l] from t,fN] at m;rcases m with m|m
  .exact .inl m
  .rw[aF.mp m];refine .inr (.inr ⟨.inr (aF.mpr rfl),L l (aF.mpr rfl),λj s hs z=>?_⟩);obtain⟨y,_,q⟩:=W.ok j s hs;exact W.live l (q.yr l z).1 u
 .by_cases z:a=x;·rw[z,aV];exact gx _
  .rw[aG z];rcases m with m|m
   .exact W1.live a (h2 a m).1
   .rw[show(aC C x dx (fs++[(f, .cu c)])).F=bW x dx fs++[l] from t,fN] at m;rcases m with m|m
    .exact W1.live a (h2 a m).1
    .rw[aF.mp m];exact h
 .refine⟨?_,by rw[aG k];exact h3,by rw[cP,kc];omega,_,aV,?_⟩
  .rw[t,mF];exact⟨n,by simp,λa m b R z=>iR (by rw[aF.mp R] at z;rw[<-z];exact m)⟩
  .have w:G.S (λy=>nb y\/y∈[l]) false x:= .inl (h2 x E).1;have:=cV.FT (f:=f) (fl:= .cu c) (v:=c.v) (o:= .ins C dx (gQ f c.v vs)) w ⟨rfl,c.keep (S:=G.S (λy=>nb y\/y∈[l]) false) (.of λa o m q=>?_) (c.av (λa z=>?_) Z)⟩ hx r
   .rw[xQ hl] at this;exact this.map (λd v z=>z.av λa=>N) λg m c' e z=>c'.av (λa=>N) z
   .rw[aG];·exact q
    .rintro rfl;rcases m with m|m
     .exact m w
     .rw[dH] at m;exact A (aF.mp m).symm
   .rcases K false a z with z|z
    .exact .inl z
    .exact .inr (aF.mp z)
theorem Sv.O7(e:ρ[i]?=some (.cu (aC C x dx fs)))(cl:cD K C)(na:bf K C f)(hl:fs.lookup f=none)(hlen:fs.length<900)(h:aD G ρ te λ_ ds=>∀l,E.nx (ρ.set i (.cu (aC C x dx (fs++[(f, .cu (c9 l ds))]))))):Sv G ρ (rW K (br i) te f) E:=λnb σ H D W KK=>
 h nb σ H _ W λb l xs H1 ds q s1 u s hd=>by
  obtain⟨vs,e1,h2,n,h3,len,p,r⟩:=(W.step s1).kP e;refine⟨.ref x,e1,x,C,dx,vs,rfl,p,cl,na,by rw[r.len];omega,KK.nx _ _ _ _ (q l) (W.EF (c:=c9 l ds) s1 e hl hlen rfl rfl u (by rw[s];exact gx _) ⟨xs,s,hd.av λa z=>?_⟩ p)⟩;rcases z with z|z
  .exact .inl (cg (λw=>by cases w) (λ_ w=>w) a z)
  .exact .inr z
def Sv.Sk{l:ar}(e:ρ[i]?=some (.cu (aC C x dx fs)))(cl:cD K C)(na:bf K C f)(hl:fs.lookup f=some (.cu (c9 l ds)))(h:Ev G ρ te λ_ d=>Ev G ρ tb λ_ y=>∃k j,y= .int k/\ji ds.length k=some j/\E.nx (ρ.set i (.cu (aC C x dx (dP f (.cu (c9 l (ds.set j d))) fs))))):Sv G ρ (gu te (lZ (ja K (br i) f) tb wB)) E:=λnb σ H D W KK=>
 h nb σ H _ W λg v H1 d q s1 hv=>oz (W.step s1) e cl na hl λhF ⟨xs,hx,hd⟩=>q nb σ H1 _ (W.step s1) λg' u H2 y ⟨k,j,r,O,p⟩ s2 Y=>by
  subst r;have W2:=(W.step s1).step s2;have iR:=hF l (aF.mpr rfl);have N:G.S nb false l:= .inl iR.1;refine⟨l,xs,k,j,rfl,Y.bT,s2.1 _ _ iR.2 hx,by rw[hd.length];exact O,KK.nx nb _ _ _ p (W2.vX (c:=c9 l ds) (c':=c9 l (ds.set j d)) e hl (aF.mpr rfl) rfl rfl ⟨_,aV,?_⟩)⟩;exact(ah.set' ((hv.av (cg (λz=>by cases z) λ_ z=>z)).keep s2.c8) j (hd.keep s2.c8)).keep (bC.set N)
def aD.Y9{l:ar}(e:ρ[i]?=some (.cu (aC C x dx fs)))(cl:cD K C)(na:bf K C f)(hl:fs.lookup f=some (.cu (c9 l ds)))(h:Θ (fE ds) ds):aD G ρ (gk (jQ K) (aU (ja K (br i) f) bK)) Θ:=λnb σ H Q W z=>by
 show ja K (br i) f σ H _;exact oz W e cl na hl λhF ⟨xs,hx,hd⟩=>⟨l,xs,rfl, .inl (.of hx),λp hp=>aD.fin (f:=false) W (.refl W.aq) hp hd (by rw[rE];exact h) z⟩
def fq(G:Gx)(ρ:Rh)(ta:TA)(Φ:List PyData->Prop):Prop:=∀nb σ H (Q:List V->Hp->Prop),Wd G nb ρ σ H->(∀ds vs H',Φ ds->Step G.B H H'->ah (λa=>¬NB G.B a) H' ds vs->Q vs H')->ta σ H Q
theorem fq.nil{Θ:List PyData->Prop}(h:Θ []):fq G ρ bK Θ:=λnb σ H Q W z=>z [] [] H h (.refl W.aq) .nil
theorem fq.cons{Θ:List PyData->Prop}(h:Ev G ρ te λ_ d=>fq G ρ t λds=>Θ (d::ds)):fq G ρ (aU te t) Θ:=λnb σ H Q W z=>
 h nb σ H _ W λf v H1 d k s1 J=>k nb σ H1 _ (W.step s1) λds vs H2 p2 s2 M=>z _ _ H2 p2 (s1.trans s2) (.cons ((J.av λa y=> .inr (.inr (.inl y))).keep (s2.but λ_ y=>y)) M)
theorem fq.own{Θ:List PyData->Prop}{a:ar}{g:Bool}(e:ρ[i]?=some (.own a g ds))(h:fq G ρ t λes=>Θ (.list ds::es)):fq G ρ (aU (br i) t) Θ:=λnb σ H Q W z=>by
 obtain⟨x,e1,h1,h2,h3,xs,hx,hd⟩:=W.ok i _ e;subst h1;refine⟨.ref a,e1,h nb σ H _ W λes vs H2 p2 s2 M=>z _ _ H2 p2 s2 (.cons ?_ M)⟩;exact .lst (λy=>y h3) (s2.1 _ _ h3 hx) ((hd.av λa y=> .inr (.inr (.inl y))).keep (s2.but λ_ y=>y))
def fq.fld{Θ:List PyData->Prop}{l:ar}(e:ρ[i]?=some (.cu (aC C x dx fs)))(cl:cD K C)(na:bf K C f)(hl:fs.lookup f=some (.cu (c9 l ds)))(h:fq G ρ t λes=>Θ (.list ds::es)):fq G ρ (aU (ja K (br i) f) t) Θ:=λnb σ H Q W z=>by
 show ja K (br i) f σ H _;exact oz W e cl na hl λhF ⟨xs,hx,hd⟩=>h nb σ H _ W λes vs H2 p2 s2 M=>z _ _ H2 p2 s2 (.cons (.lst (λy=>y (hF l (aF.mpr rfl)).2) (s2.1 _ _ (hF l (aF.mpr rfl)).2 hx) ((hd.av λa y=> .inr (.inr (.inl y))).keep (s2.but λ_ y=>y))) M)
def Ev.G5{F:DF}(hm:eK F)(h:fq G ρ t λds=>ds.length=n/\F ds λf d=>(f=true\/gE d=true)/\Φ true d):Ev G ρ (jh (cG n F) [] E0 t) Φ:=λnb σ H Q W z=>
 h nb σ H _ W λds vs H1 ⟨hl,p⟩ s1 J=>by
  have W1:=W.step s1;rw[ic];refine⟨by rw[J.length,hl],λa=>¬NB G.B a,ds,λa y=>NB.mh W1.aq y,J,hm _ _ _ p λf d ⟨hf,hp⟩ v H' u hd=>z true v H' d hp (s1.trans (.same W1.aq u)) ?_⟩;rcases hf with hf|hf
  .exact hd.av λa y=> .inr ⟨hf,W1.iG (f:=true) a y⟩
  .exact hd.kg hf
def Sv.make{F:CF}(hm:i9 F)(h:Av G ρ t λes=>es.length+1=n/\∀x dx,F (aC C x dx []) (es.map (·.2)) λc' _ d=>d= .none/\E.nx (ρ.set i (.cu c'))):Sv G ρ (gu (IA C (cz n F) [] E0 t) (gh i)) E:=λnb σ H D W KK=>
 h nb σ H _ W λes vs H1 ⟨hl,p⟩ s1 J x dx hx k U=>by
  have W1:=W.step s1;have N:dQ H1 (upd (upd H1 dx (.own x)) x (.ins C dx [])):=λa o e=>by
   rw[aG (jW e hx),aG (jW e k)];exact e
  have g:∀a,G.S nb false a->H1 a≠none:=λa y=>W1.iG a y;have I:ah (λa=>G.S nb false a\/a∈[x,dx]) (upd (upd H1 dx (.own x)) x (.ins C dx [])) (es.map (·.2)) vs:=by
   have hq:=J.all (f:=false) λz=>by cases z
   generalize es.map (·.2)=dl at hq;refine ah.keep (bC.of N) ?_
   exact jr (P:=λS=>ah S H1 dl vs) (λz h=>ah.av z h) (λhp h=>ah.fresh hp h) (L:=[x,dx]) (λa m=>by
    rcases aM.mp m with m|m
    .rw[m];exact hx
    .rw[aF.mp m];exact k) hq
  rw[ic];refine⟨by rw[dM,J.len,hl],λa=>G.S nb false a\/a∈[x,dx],aC C x dx [],vs,es.map (·.2),rfl,λa y=>?_,λa m=> .inr m,rfl,?_,I,hm _ _ _ _ (p x dx) λc' f d ⟨b,hp⟩ v H' to Z hd=>?_⟩
  .rcases y with y|y
   .cases e:H1 a with
    |none=>exact absurd e (g a y)
    |some o=>rw[N a o e];exact gx _
   .rcases aM.mp y with m|m
    .rw[m,aV];exact gx _
    .rw[aF.mp m,aG U,aV];exact gx _
  .refine⟨by simp[bW,cY U],by rw[aG U,aV],⋯,[],aV,rfl⟩
  .subst b;refine⟨hd.CA,?_⟩;have K:∀a∈c'.F,H1 a=none:=λa m=>by
    rcases to.new a m with y|y
    .rcases aM.mp y with m|m
     .rw[m];exact hx
     .rw[aF.mp m];exact k
    .cases e:H1 a with
     |none=>rfl
     |some o=>rw[N a o e] at y;cases y
   have st:Step G.B H1 H':=by
    have u:dQ H1 H':=λa o e=>to.kp a o (λm=>by
     rcases aM.mp m with m|m
     .rw[m,hx] at e;cases e
     .rw[aF.mp m,k] at e;cases e) (N a o e)
    exact .same W1.aq u
   have:=W1.R3 (i:=i) (c:=c') st K to.lv (c'.av (λa y=>?_) Z)
   .rw[to.v] at this;exact KK.nx _ _ _ _ hp this
   .rw[to.f] at y;rcases y with y|y
    .exact .inl (.inl y)
    .exact .inr y
theorem bz.tup{Φ:Rh->Pd}(h:rD G ρ t λL es=>es.length<=10000/\Φ L (kG es) (.tuple (es.map (·.2)))):bz G ρ (qA t) Φ:=λnb σ H Q W z=>
 h nb σ H _ W λaA L es vs H1 ⟨hl,p⟩ W1 J=>⟨cU (by rw[J.len];exact hl) ⋯,λa ha=>z aA L _ _ _ _ p (W1.step (.same W1.aq (dU ha)))
  (.tup (W1.fresh ha) aV ((J.all λz=>z).keep (bC.of (dU ha))))⟩
end
noncomputable def cF(p:Int)(cs:List aB)(wd:Wo):Nat->List cN
  |0=>[]
  | i + 1 => match cQ p (cs.getD i []) 0 wd with
    |some (a,x)=>if a∈(cF p cs wd i).map (·.1) then cF p cs wd i else cF p cs wd i++[(a,(i:Int),x)]
    |none=>cF p cs wd i
theorem pH{p:Int}{cs:List aB}{wd:Wo}:∀i,((cF p cs wd i).map (·.1)).Nodup
  |0=>by simp[cF]
  | i + 1 => by
    unfold cF;split
    · split
      · exact pH i
      · rename_i a x e c
        rw[cX,mF];refine⟨pH i,by simp,λy hy z hz e=>c ?_⟩;simp at hz;rw[<-hz,<-e];exact hy
    · exact pH i
theorem vK{p:Int}{cs:List aB}{wd:Wo}{m:cN}:∀{i},m∈cF p cs wd i->0<=m.2.1/\m.2.1<i/\cQ p (cs.getD m.2.1.toNat []) 0 wd=some (m.1,m.2.2)/\∀c:Nat,(c:Int)<m.2.1->∀x,cQ p (cs.getD c []) 0 wd≠some (m.1,x)
  |0,h=>by simp[cF] at h
  | i + 1, h => by
    have key:∀{c:Nat},(∃x,cQ p (cs.getD c []) 0 wd=some (m.1,x))->c<i->m.1∈(cF p cs wd i).map (·.1):=λ{c} hx hc=>by
      clear h;induction i with
      |zero=>omega
      | succ i ih =>
        unfold cF;by_cases e:c=i
        · subst e
          obtain⟨x,hx⟩:=hx;rw[hx];dsimp only;split;· rename_i h;exact h
          · simp
        · have:=ih ∅
          split
          · split
            · exact this
            · rw[cX];exact pR _ this
          · exact this
    unfold cF at h;split at h
    · rename_i a x e
      split at h;· obtain⟨h1,h2,h3⟩:=vK h;exact⟨h1,∅,h3⟩
      · rename_i c
        rcases fN.mp h with h|h
        · obtain⟨h1,h2,h3⟩:=vK h;exact⟨h1,∅,h3⟩
        · simp at h
          subst h;refine⟨by simp,by simp;omega,by simpa using e,λc' t u Z=>c ?_⟩;exact key ⟨u,Z⟩ (by simpa using t)
    · obtain⟨h1,h2,h3⟩:=vK h;exact⟨h1,∅,h3⟩
theorem Mm{p:Int}{cs:List aB}{wd:Wo}{c:Nat}{a x:Int}(hx:cQ p (cs.getD c []) 0 wd=some (a,x)):∀{i},c<i->a∈(cF p cs wd i).map (·.1)
  |0,h=>∅
  | i + 1, h => by
    unfold cF;by_cases e:c=i
    · subst e
      rw[hx];dsimp only;split;· rename_i h;exact h
      · simp
    · have:=Mm hx (i:=i) ∅
      split
      · split
        · exact this
        · rw[cX];exact pR _ this
      · exact this
noncomputable def aP(p:Int)(cs:List aB)(wd:Wo):List cN:=(cF p cs wd cs.length).mergeSort λa b=>decide (a.1<=b.1)
def ya(p:Int)(cs:List aB)(wd:Wo):(aP p cs wd).Perm (cF p cs wd cs.length):=List.mergeSort_perm _ _
theorem Iw(p:Int)(cs:List aB)(wd:Wo):(aP p cs wd).Pairwise λa b=>a.1<b.1:=by
 have h1:(aP p cs wd).Pairwise λa b=>decide (a.1<=b.1)=true:=List.pairwise_mergeSort (λa b c h1 h2=>by simp at h1 h2⊢;omega) (λa b=>by simp;omega) _;have h2:((aP p cs wd).map (·.1)).Nodup:=((ya p cs wd).map _).nodup_iff.mpr (pH _);have h3:(aP p cs wd).Pairwise λa b=>a.1≠b.1:=ow.mp h2;exact(h1.and h3).imp λ⟨a,b⟩=>by simp at a;omega
theorem RP:∀{a b:List cN},(a.Pairwise λx y=>x.1<y.1)->(b.Pairwise λx y=>x.1<y.1)->a.Perm b->a=b
  |[],b,_,_,h=>by rw[List.nil_perm.mp h]
  |x::a,[],_,_,h=>by cases List.perm_nil.mp h
  | x :: a, y :: b, h1, h2, h => by
    obtain⟨M,Y⟩:=oh.mp h1;obtain⟨y1,r⟩:=oh.mp h2;have e:x=y:=by
      rcases aM.mp (h.mem_iff.mp (bZ ..)) with e|e
      · exact e
      rcases aM.mp (h.symm.mem_iff.mp (bZ ..)) with e'|e'
      · exact e'.symm
      have:=y1 x e;have:=M y e';omega
    subst e;rw[RP Y r h.cons_inv]
theorem K0(h:ms.Perm (cF p cs wd cs.length))(hs:(ms.map (·.1)).Pairwise (· <= ·)):ms=aP p cs wd:=by
 refine RP ?_ (Iw p cs wd) (h.trans (ya p cs wd).symm);have h2:(ms.map (·.1)).Nodup:=(h.map _).nodup_iff.mpr (pH _);exact((ow.mp hs).and (ow.mp h2)).imp λ⟨a,b⟩=>∅
def A4{m:cN}(h:m∈aP p cs wd):0<=m.2.1/\m.2.1<cs.length/\cQ p (cs.getD m.2.1.toNat []) 0 wd=some (m.1,m.2.2)/\∀c:Nat,(c:Int)<m.2.1->∀x,cQ p (cs.getD c []) 0 wd≠some (m.1,x):=vK ((ya p cs wd).mem_iff.mp h)
def abl{c:Nat}{a x:Int}(hc:c<cs.length)(h:cQ p (cs.getD c []) 0 wd=some (a,x)):∃m∈aP p cs wd,m.1=a:=by
 have:=Mm h hc;obtain⟨m,hm,e⟩:=cM.mp this;exact⟨m,(ya p cs wd).mem_iff.mpr hm,e⟩
def Aw{a x:Int}(h:cQ p prs 0 wd=some (a,x))(ha:∀m∈ms,m.1.toNat≠a.toNat)(hl:∀m∈ms,wd[m.1.toNat]?=some none)(h0:∀pr∈prs,0<=pr.1):cQ p prs 0 (xk wd ms)=some (a,x):=by
  have keep:∀{ms:List cN} {wd:Wo} {k:Nat},(∀m∈ms,m.1.toNat≠k)->(xk wd ms)[k]?=wd[k]?:=λ{ms}=>by
    induction ms with
    |nil=>intro wd k _;rfl
    | cons m r ih =>
      intro wd k hk;show(xk (wd.set m.1.toNat (some m.2.2)) r)[k]?=_;rw[ih λR hm'=>hk R (bV _ hm'),bQ (hk m (bZ ..))]
  obtain⟨pr,e1,e2,e3⟩:=F9 h;have same:∀q∈prs,(xk wd ms)[q.1.toNat]?=wd[q.1.toNat]?:=λq hq=>keep λm hm z=>by
    have b:q∈cA wd prs:=by
      unfold cA;exact iN.mpr ⟨hq,by rw[<-z,hl m hm];rfl⟩
    rw[e1,aF] at b;exact ha m hm (by rw[z,b,e2])
  have e4:cA (xk wd ms) prs=cA wd prs:=by
    unfold cA;exact mi λq hq=>by rw[same q hq]
  have e5:dG prs (xk wd ms)=dG prs wd:=by
    unfold dG
    congr 1
    exact r6 λq hq=>by unfold mT;rw[same q hq]
  unfold cQ at h⊢;rw[e4,e5];exact h
def QT(wd:Wo)(a b:List cN):xk wd (a++b)=xk (xk wd a) b:=by unfold xk;rw[pN]
theorem oV(hp:0<p){m:cN}(h:m∈aP p cs wd)(h0:∀prs∈cs,∀pr∈prs,0<=pr.1/\pr.1<wd.length):0<=m.1/\m.1<wd.length/\wd[m.1.toNat]?=some none/\0<=m.2.2/\m.2.2<p:=by
 obtain⟨a1,a2,C,_⟩:=A4 h;obtain⟨pr,b1,b2,b3,b4,b5⟩:=Bw hp C;have hc:m.2.1.toNat<cs.length:=∅
 rw[iM,aL hc] at b1;have:=h0 _ (jB hc) pr b1;rw[b2] at this;exact⟨this.1,this.2,b3,b4,b5⟩
theorem adn(hp:0<p)(h0:∀prs∈cs,∀pr∈prs,0<=pr.1/\pr.1<wd.length):QW p cs wd (aP p cs wd):=λj O=>by
 refine⟨_,aL O,?_⟩;have hm:(aP p cs wd)[j]∈aP p cs wd:=jB O;obtain⟨a1,a2,C,_⟩:=A4 hm;obtain⟨b1,b2,b3,b4,b5⟩:=oV hp hm h0;have tk:∀m∈(aP p cs wd).take j,m∈aP p cs wd/\m.1.toNat≠(aP p cs wd)[j].1.toNat:=λm h=>by
  have hm':=UX h;refine⟨hm',λz=>?_⟩;obtain⟨c1,_⟩:=oV hp hm' h0;have hlt:m.1<(aP p cs wd)[j].1:=by
   obtain⟨i,hi,e⟩:=List.mem_take_iff_getElem.mp h;rw[<-e];exact tP.mp (Iw p cs wd) i j ∅ O ∅
  omega
 have hc:(aP p cs wd)[j].2.1.toNat<cs.length:=∅
 have B:∀pr∈cs.getD (aP p cs wd)[j].2.1.toNat [],0<=pr.1:=λpr h=>by
  rw[iM,aL hc] at h;exact(h0 _ (jB hc) pr h).1
 have:=Aw C (λm h=>(tk m h).2) (λm h=>(oV hp (tk m h).1 h0).2.2.1) B;exact YG a1 a2 this
noncomputable def jL(p:Int)(cs:List aB):Nat->Wo->List (List cN)
 |0,_=>[]
 |k+1,wd=>if aP p cs wd=[] then[] else aP p cs wd::jL p cs k (xk wd (aP p cs wd))
def FU(hp:0<p)(h0:∀prs∈cs,∀pr∈prs,0<=pr.1/\pr.1<wd.length):cnt (xk wd (aP p cs wd))+(aP p cs wd).length=cnt wd:=by
 have:=N3 hp (adn hp h0) (aP p cs wd).length (aW _);rwa[jO] at this
theorem Lw{p:Int}{cs:List aB}(hp:0<p):∀{k:Nat} {wd:Wo},(∀prs∈cs,∀pr∈prs,0<=pr.1/\pr.1<wd.length)->cnt wd<=k->jL p cs (k+1) wd=jL p cs k wd
  | 0, wd, h0, h => by
    have e:aP p cs wd=[]:=by
      cases e:aP p cs wd with
      |nil=>rfl
      | cons m r =>
        have:=FU hp h0;rw[e] at this;simp at this;omega
    unfold jL;rw[if_pos e];all_goals rfl
  | k + 1, wd, h0, h => by
    rw[jL]
    conv=>rhs;rw[jL]
    by_cases e:aP p cs wd=[];· rw[if_pos e,if_pos e]
    · rw[if_neg e,if_neg e]
      congr 1
      have:=FU hp h0;have hl:0<(aP p cs wd).length:=GA.mpr e;exact Lw hp (λprs hp pr hr=>by rw[nW];exact h0 prs hp pr hr) ∅
noncomputable def iO(p:Int)(cs:List aB)(wd:Wo):List (List cN):=jL p cs (cnt wd) wd
theorem BM(hp:0<p){wd:Wo}(h0:∀prs∈cs,∀pr∈prs,0<=pr.1/\pr.1<wd.length):∀{k:Nat},cnt wd<=k->jL p cs k wd=iO p cs wd:=λ{k} h=>by
 obtain⟨j,rfl⟩:∃j,k=cnt wd+j:=⟨k-cnt wd,∅⟩;clear h;induction j with
 |zero=>rfl
 |succ j ih=>rw[<-Nat.add_assoc,Lw hp h0 ∅,ih]
def GO(h:aP p cs wd=[]):iO p cs wd=[]:=by
 unfold iO;cases cnt wd with
 |zero=>rfl
 |succ k=>rw[jL,if_pos h]
theorem Ba(hp:0<p)(h0:∀prs∈cs,∀pr∈prs,0<=pr.1/\pr.1<wd.length)(h:aP p cs wd≠[]):iO p cs wd=aP p cs wd::iO p cs (xk wd (aP p cs wd)):=by
 have hc:=FU hp h0;have hl:0<(aP p cs wd).length:=GA.mpr h;obtain⟨k,hk⟩:∃k,cnt wd=k+1:=⟨cnt wd-1,∅⟩;have e:iO p cs wd=jL p cs (k+1) wd:=by unfold iO;rw[hk]
 rw[e,jL,if_neg h,BM hp (λprs hp pr hr=>by rw[nW];exact h0 prs hp pr hr) ∅]
noncomputable def j5(p:Int)(cs:List aB)(wd:Wo):Wo:=xk wd (iO p cs wd).flatten
def Mq(h:aP p cs wd=[]):j5 p cs wd=wd:=by unfold j5;rw[GO h];rfl
def Po(hp:0<p)(h0:∀prs∈cs,∀pr∈prs,0<=pr.1/\pr.1<wd.length)(h:aP p cs wd≠[]):j5 p cs wd=j5 p cs (xk wd (aP p cs wd)):=by
 unfold j5;rw[Ba hp h0 h];exact QT _ _ _
noncomputable abbrev gn(r:List cN):PyData:= .list (r.map xX)
noncomputable def lW(nd:PyData)(l:ar)(wd:Wo):Fs:=[("net", .d nd),("letters", .cu (c9 l (wd.map aT)))]
noncomputable abbrev kM(m:cN):Int×PyData:=(m.1,xX m)
def sN(ms:List cN):(ms.map kM).map (·.1)=ms.map (·.1):=by rw[l7];rfl
theorem IS:∀{ms:List cN} {m:cN},(ms.map (·.1)).Nodup->m∈ms->bJ (ms.map kM) m.1=some (xX m)
  | x :: r, m, nd, h => by
    rw[bR,pY];rw[bR,gf] at nd;rcases aM.mp h with e|e
    · subst e;rw[if_pos rfl]
    · rw[if_neg (λz=>nd.1 (by rw[show x.1=m.1 from z];exact List.mem_map_of_mem e)),IS nd.2 e]
theorem yq(hp:0<p)(h0:∀prs∈cs,∀pr∈prs,0<=pr.1/\pr.1<wd.length):∀{i},i<=cs.length->(cF p cs wd i).length<=wd.length:=λ{i} hi=>by
 have nd:=pH (p:=p) (cs:=cs) (wd:=wd) i;have:=acS (m:=wd.length) nd λk hk=>by
  obtain⟨m,hm,e⟩:=cM.mp hk;obtain⟨a1,a2,C,_⟩:=vK hm;obtain⟨pr,b1,b2,_⟩:=Bw hp C;have hc:m.2.1.toNat<cs.length:=∅
  rw[iM,aL hc] at b1;have:=h0 _ (jB hc) pr b1;omega
 rw[aj] at this;omega
def j3.rg(h:j3 p cs m):∀prs∈cs,∀pr∈prs,0<=pr.1/\pr.1<m:=λprs hp pr hr=>⟨((h.2.2.2 prs hp).2.1 pr hr).1,((h.2.2.2 prs hp).2.1 pr hr).2.1⟩
theorem Jq(hN:j3 p cs wd.length)(hW:jj wd):jj (xk wd (aP p cs wd)):=by
  have key:∀{ms:List cN} {wd:Wo},jj wd->(∀m∈ms,Sm m.2.2)->jj (xk wd ms):=λ{ms}=>by
    induction ms with
    |nil=>intro wd h _;exact h
    | cons m r ih =>
      intro wd h hm;refine ih (wd:=wd.set m.1.toNat (some m.2.2)) (λx hx=>?_) λR h'=>hm R (bV _ h');rcases N6 hx with z|z
      · exact h x z
      · cases z;exact hm m (bZ ..)
  have p2:=hN.1.1;have j9:=hN.2.1;refine key hW λm hm=>?_;obtain⟨_,_,_,b4,b5⟩:=oV ∅ hm hN.rg;unfold Sm;omega
def adz(wd:Wo):fE (wd.map aT)=true:=by
 unfold fE;rw[pZ];intro x hx;obtain⟨o,_,rfl⟩:=cM.mp hx;cases o<;>rfl
def Zn(nd:PyData)(l:ar)(wd LD:Wo):dP "letters" (.cu (c9 l (LD.map aT))) (lW nd l wd)=lW nd l LD:=by
 unfold lW dP;rw[if_neg (by decide+kernel)];unfold dP;rw[if_pos rfl]
theorem Pq{p:Int}{cs:List aB}:∀{k:Nat} {wd:Wo},(jL p cs k wd).length<=k
  |0,wd=>by simp[jL]
  | k + 1, wd => by
    rw[jL];split;· simp
    · simp[Pq]
def HU:(iO p cs wd).length<=wd.length:=cU Pq (Ge wd)
def Ua(ms:List cN):cn (gn ms)=true:=afV ms
def O1(ms:List cN):e6 (gn ms) (.list [])=decide (ms=[]):=by
 have:=ahs ms;rw[FH] at this;exact this
inductive Oi where
 |own (b:ar)|dat (x:PyData)
inductive OO where
 |lst (xs:List Oi)|tup (xs:List Oi)|bB (ks:List (Int×Oi))
noncomputable abbrev UN:=List (ar×OO)
def tV(G:Gx)(ρ:Rh)(te:TE)(Ψ:ar->Prop):Prop:=∀nb σ H (Q:VK),Wd G nb ρ σ H->(∀b H',Ψ b->Step G.B H H'->Q (.ref b) H')->te σ H Q
def Vx:TS:=λ_ _ _=>False
def Cr{st:el}:PS X st Vx:=λ_ _ _ _ _ _ h=>h.elim
abbrev RF:=Cu->List PyData->Pd->Prop
def EM(F:RF):Prop:=∀c ds (Φ Ψ:Pd),F c ds Φ->(∀f d,Φ f d->Ψ f d)->F c ds Ψ
def qG(n:Nat)(F:RF):Sp:=λvs H Q _=>vs.length=n/\∃(nb:ar->Prop) (c:Cu) (ws:List V) (ds:List PyData),vs=c.v::ws/\gZ nb H/\(∀a∈c.F,¬nb a/\H a≠none)/\c.P nb H/\ah nb H ds ws/\
 F c ds λf d=>∀v H',dQ H H'->af (λa=>nb a\/(f=true/\H a≠none)) H' d v->Q v H'
def agB{F:RF}{Q:VK}{E:XK}(h:qG n F vs H Q E):∃(nb:ar->Prop) (c:Cu) (ws:List V) (ds:List PyData) (Φ:Pd),vs=c.v::ws/\gZ nb H/\(∀a∈c.F,¬nb a/\H a≠none)/\c.P nb H/\ah nb H ds ws/\(∀f d v H',Φ f d->dQ H H'->af (λa=>nb a\/(f=true/\H a≠none)) H' d v->Q v H')/\F c ds Φ:=by
 obtain⟨_,nb,c,ws,ds,e,h1,h2,h3,h4,h5⟩:=h;exact⟨nb,c,ws,ds,_,e,h1,h2,h3,h4,λf d v H' q=>q v H',h5⟩
section
variable{ρ:Rh}{t:TS}{N:List Str}{ws:List V}{ds:List PyData}{nb:ar->Prop}{H:Hp}{Q:VK}{Φ:Pd}{c:Cu}
noncomputable abbrev tu(H:Hp)(nb:ar->Prop)(c:Cu):Gx:=⟨none,H,nb,[(false, .th c,c.v)]⟩
theorem Sv.L9(hl:gZ nb H)(hF:∀a∈c.F,¬nb a/\H a≠none)(Z:c.P nb H)(hd:ah nb H ds ws)(G:∀f d v H',Φ f d->dQ H H'->af (λa=>nb a\/(f=true/\H a≠none)) H' d v->Q v H')
    (y:ρ= .raw c.v::ds.map (Sl.d false)++au (N.length-(ds.length+1)) .no) (h:Sv (tu H nb c) ρ t {nx:=λ_=>Φ true .none,rt:=Φ}):t {nx:=λ_ H'=>Q .aN H',rt:=Q} (start N (c.v::ws)) H:=by
  have hlen:=hd.length;have C:∀a,NB (tu H nb c).B a:=λa b l e=>by cases e
  have u:∀{aA L M H'},Wd (tu H nb c) aA L M H'->dQ H H':=λW a o e=>W.old a o (C a) e;have av:∀a,(tu H nb c).S (λ_=>False) false a->nb a:=λa z=>by
    rcases z with z|z|z|z
    · exact z.elim
    · exact z
    · exact absurd (C a) z
    · cases z.1
  have sl:∀{i:Nat} {s:Sl},ρ[i]?=some s->s.adr=[]:=λ{i s} e1=>by
    rw[y] at e1;cases i with
    |zero=>simp at e1;subst e1;rfl
    | succ i =>
      simp only[lB,kN] at e1;by_cases hi:i<ds.length
      · rw[fO (by rw[aj];exact hi)] at e1
        obtain⟨_,_,_,z,_⟩:=l9 hd e1;subst z;rfl
      · rw[fJ (by rw[aj];omega),eY] at e1
        split at e1;· cases e1;rfl
        · cases e1
  refine h (λ_=>False) _ H _ ⟨λ_ _ z=>(by cases z),λ_ z=>z.elim,λ_ _ _ e=>e,λ_ z=>z.elim,hl,?_,λ_ _ z=>(by cases z),λx m=>?_,λi s e=>?_,?_,?_,?_⟩ ⟨λaA L M H' q W=>G _ _ _ _ q (u W) .aN,λ_ _ _ _ q _=>q.elim,λ_ _ _ _ q _=>q.elim,λaA L M f v H' d q W hv=>G f d v H' q (u W) (hv.av λa z=>?_),λ_ _ _ _ _ q _=>q.elim⟩;· rw[y];unfold start;simp[hlen]
  · rw[aF.mp m]
    exact⟨rfl,λa m=>⟨λz=>(hF a m).1 (av a z),(hF a m).2⟩,c.av av Z⟩
  · rw[y] at e
    unfold start;cases i with
    |zero=>simp at e;subst e;exact⟨some c.v,by simp,rfl⟩
    | succ i =>
      simp only[lB,kN,bR,dM] at e⊢;by_cases hi:i<ds.length
      · rw[fO (by rw[aj];exact hi)] at e
        obtain⟨v,d,hv,rfl,q⟩:=l9 hd e;refine⟨some v,?_,v,rfl,q.av av⟩;rw[fO (by rw[aj,hlen];exact hi),bu,hv];rfl
      · rw[fJ (by rw[aj];omega),eY] at e
        split at e
        · rename_i h'
          cases e;refine⟨none,?_,trivial⟩;rw[aj] at h';rw[fJ (by rw[aj];omega),eY,if_pos (by rw[aj,hlen];exact h')]
        · cases e
  · intro i j a f as c2 g cs hij e1
    cases sl e1
  · intro i j a f as c2 g cs hij e1
    cases sl e1
  · intro i j c2 s hij e1 e2 a m
    have:=sl e1;rw[show Sl.adr (.cu c2)=c2.F from rfl] at this;rw[this] at m;cases m
  · rcases z with z|z
    · exact .inr (.inl z)
    · exact .inr (.inr (.inr z))
end
section
variable{G:Gx}{ρ:Rh}{Φ:Pd}{ta tb te:TE}{t:TA}{i n:Nat}{E:DE}{C x dx l:ar}{fs:Fs}{K:PySem.W.Frag}{f m:Str}{d:PyData}{ds:List PyData}{c:Cu}{F:RF}
def FK{Q:VK}(hm:EM F)(W1:Wd G nb ρ σ H1)(J:ah (λa=>¬NB G.B a) H1 ds vs)(dH:∀a∈c.F,NB G.B a/\H1 a≠none)(ez:c.P (λa=>¬NB G.B a) H1)(hl:ds.length+1=n)(p:F c ds λf d=>(f=true\/gE d=true)/\Φ true d)
  (z:∀f v H' d,Φ f d->Step G.B H1 H'->af (G.S nb f) H' d v->Q v H'):qG n F (c.v::(vs++[])) H1 Q E0:=by
 rw[ic];refine⟨by rw[dM,J.length,hl],λa=>¬NB G.B a,c,vs,ds,rfl,λa y=>NB.mh W1.aq y,λa m=>⟨λy=>y (dH a m).1,(dH a m).2⟩,ez,J,hm _ _ _ _ p λf d ⟨hf,hp⟩ v H' u hd=>z true v H' d hp (.same W1.aq u) ?_⟩;rcases hf with hf|hf
 .exact hd.av λa y=> .inr ⟨hf,W1.iG (f:=true) a y⟩
 .exact hd.kg hf
def B2(W:Wd G nb ρ σ H)(e:ρ[i]?=some (.cu c))(T:c.f=false):(∀a∈c.F,NB G.B a/\H a≠none)/\c.P (λa=>¬NB G.B a) H:=by
 obtain⟨A,e1,h1,h2,h3⟩:=W.ok i _ e;exact⟨λa m=>⟨(h2 a m).2,W.live a (h2 a m).1⟩,c.av (λa y=> .inr (.inr (.inl y))) h3⟩
def Kq(st:Step G.B H H1)(h:(∀a∈c.F,NB G.B a/\H a≠none)/\c.P (λa=>¬NB G.B a) H):(∀a∈c.F,NB G.B a/\H1 a≠none)/\c.P (λa=>¬NB G.B a) H1:=by
 refine⟨λa m=>⟨(h.1 a m).1,U5 (h.1 a m).1 st (h.1 a m).2⟩,c.keep (.of λa o m q=>st.1 a o ?_ q) h.2⟩;rcases m with m|m
 .exact jl m
 .exact(h.1 a m).1
def Ev.VI(hm:EM F)(e:ρ[i]?=some (.cu c))(T:c.f=false)(hi:∀S H,c.P S H->∃a dx fs,c.v= .ref a/\H a=some (.ins C dx fs)/\fs.lookup m=none)
  (h:fq G ρ t λds=>ds.length+1=n/\F c ds λf d=>(f=true\/gE d=true)/\Φ true d):Ev G ρ (om C m (qG n F) [] E0 (br i) t) Φ:=λnb σ H Q W z=>by
 obtain⟨A,e1,h1,h2,h3⟩:=W.ok i _ e;subst h1;obtain⟨a,dx,fs,g1,g2,X⟩:=hi _ _ h3;refine⟨c.v,e1,a,dx,fs,g1,g2,X,h nb σ H _ W λds vs H1 ⟨hl,p⟩ s1 J=>?_⟩;have k:=Kq s1 (B2 W e T);exact FK hm (W.step s1) J k.1 k.2 hl p λf v H' d hp st hv=>z f v H' d hp (s1.trans st) hv
def Wd.held{v:V}(W:Wd G nb ρ σ H)(L:(false,HD.th c,v)∈G.hold):v=c.v/\(∀a∈c.F,¬G.S nb false a/\H a≠none)/\c.P (G.S nb false) H:=W.dw _ L
inductive vR:Fl->PyData->Prop
 |d {d:PyData}:vR (.d d) d
 |own {l:ar} {ds:List PyData}:vR (.cu (c9 l ds)) (.list ds)
def vR.is{S:ar->Prop}{v:V}{fl:Fl}(h:vR fl d)(q:mK S H v fl)(N:∀a∈fl.adr,¬S a):af S H d v:=by
 cases h with
 |d=>exact q
 |own=>obtain⟨e,xs,hx,hd⟩:=q;rw[e];exact .lst (N _ (aF.mpr rfl)) hx hd
def Ev.xB{fl:Fl}(e:ρ[i]?=some (.raw (.ref x)))(L:(false,HD.th (aC C x dx fs),V.ref x)∈G.hold)(cl:cD K C)(na:bf K C f)(hl:fs.lookup f=some fl)(hfl:vR fl d)(h:Φ false d):Ev G ρ (ja K (br i) f) Φ:=λnb σ H Q W z=>by
 obtain⟨A,e1,h1⟩:=W.ok i _ e;have h1:A=some (.ref x):=h1;subst h1;obtain⟨_,h2,n,h3,len,vs,q,r⟩:=W.held L;obtain⟨v,g1,g2⟩:=r.get hl;exact⟨.ref x,e1,x,C,dx,vs,v,rfl,q,cl,na,g1,z false v H d h (.refl W.aq) (hfl.is g2 λa m=>(h2 a (rK hl m)).1)⟩
end
section
variable{G:Gx}{ρ dg:Rh}{ta te:TE}{gt:TG}{K:PySem.W.Frag}{Θ:Bool->List PyData->Prop}{tc:TT}{mp:List (Option Nat)}{nb:ar->Prop}{σ:qr}{H H1:Hp}{a:ar}{o:Obj}{ps:List (Key×V)}{f:Bool}
theorem Pn{J:It}{G':Gx}{fi:Bool}{f:Hp->Prop}(s:∀i H,H a=some (.cC o (.dK ps))->i<n->J.go i H)(p:∀H,H a=some (.cC o (.dK ps))->J.stop n H)(hn:n<=10000)
  (hz:∀{nb ρ σ H},Wd G' nb ρ σ H->H a=some (.cC o (.dK ps))) (hy:∀{nb ρ σ H i x H'},Wd G' nb ρ σ H->i<n->J.nO i H x H'->∃d,it i d/\Step G'.B H H'/\af (G'.S nb fi) H' d x)
  (W0:Wd G' nb dg σ H1) (g:H1 acc=none) (h:jH G' dg n it fi gt tc te Θ)
  (z:∀M H' ds xs fl,Wd G' (λx=>nb x\/x=acc) dg M H'->Step G'.B H1 H'->H' acc=some (.lst xs)->ah (G'.S (λx=>nb x\/x=acc) fl) H' ds xs->Θ (fl||fE ds) ds->f H'):sj J gt tc te acc f σ (upd H1 acc (.lst [])):=by
 obtain⟨fl,I,h0,ht,he⟩:=h;have W1:=W0.more g (o:= .lst []);have hN:=NB.new W0.aq g;have hno:=Iu W0 g;have pJ:Step G'.B H1 (upd H1 acc (.lst [])):= .same W0.aq (dU g);refine⟨λi m σ H=>m=n-i/\i<=n/\∃ds xs,Wd G' (λx=>nb x\/x=acc) dg σ H/\Step G'.B H1 H/\H acc=some (.lst xs)/\ah (G'.S (λx=>nb x\/x=acc) fl) H ds xs/\ds.length<=i/\I i ds,⟨n,by simp,iP _,[],[],W1,pJ,aV, .nil,aW _,h0⟩,?_⟩;rintro i m σ H ⟨rfl,hi,ds,xs,W,st,hx,hd,hl,hI⟩;by_cases hlt:i<n
 .refine .inr ⟨s i H (hz W) hlt,λσ H=>∃ds xs,Wd G' (λx=>nb x\/x=acc) dg σ H/\Step G'.B H1 H/\H acc=some (.lst xs)/\ah (G'.S (λx=>nb x\/x=acc) fl) H ds xs/\ds.length<=i+1/\I (i+1) ds,λM H' q=>⟨n-(i+1),∅,rfl,hlt,q⟩,λx H' y=>?_⟩;obtain⟨d,c,s2,k⟩:=hy W hlt y;exact Gz hn hlt (W.step s2) (.inr rfl) hN hno (st.trans s2) g (s2.1 _ _ hN hx) (hd.keep s2.c8) hl k (ht i d ds c hl hI) λM H' b j W' l Z hd' hl' r=>⟨b,j,W',l,Z,hd',hl',r⟩
 .have e:i=n:=∅
  subst e;exact .inl ⟨p H (hz W),z σ H ds xs fl W st hx hd (he ds hl hI)⟩
theorem ao.at{S:ar->Prop}{H:Hp}:∀{ks:Ks} {ps:List (Key×V)} {i:Nat} {p:Int×PyData},ao S H (ks.map aH) ps->ks[i]?=some p->∃v,ps[i]?=some (cZ p.1,v)/\af S H p.2 v
  |[],_,_,_,_,e=>by simp at e
  | q :: ks, ps, i, p, h, e => by
    rw[bR] at h;unfold ao at h;obtain⟨y,ys,rfl,h1,h2⟩:=h;cases i with
    | zero =>
      simp at e;subst e;obtain⟨y1,r⟩:=y;unfold aH cH at h1;obtain⟨g1,g2⟩:=h1;refine⟨r,?_,g2⟩;have vH:y1=cZ q.1:=by
        have g:sI (ba q.1) y1:=g1;cases g;rfl
      rw[vH];rfl
    |succ i=>exact ao.at (i:=i) h2 (by simpa using e)
end
noncomputable def cE:Nat->(Nat->Int)->Int
 |0,_=>0
 |n+1,f=>cE n f+f n
def E8{f:Nat->Int}:cE (n+1) f=cE n f+f n:=rfl
theorem DS{f g:Nat->Int}:∀{n:Nat},(∀k,k<n->f k=g k)->cE n f=cE n g
 |0,_=>rfl
 |n+1,h=>by unfold cE;rw[DS λk hk=>h k ∅,h n ∅]
theorem Gn{f g:Nat->Int}:∀{n:Nat},cE n (λk=>f k+g k)=cE n f+cE n g
 |0=>rfl
 |n+1=>by rw[E8,E8,E8,Gn];omega
theorem Ji{a:Int}{f:Nat->Int}:∀{n:Nat},cE n (λk=>a*f k)=a*cE n f
 |0=>by unfold cE;simp
 |n+1=>by unfold cE;rw[Ji,AV]
theorem Ai:∀{n:Nat},cE n (λ_=>0)=0
 |0=>rfl
 |n+1=>by unfold cE;rw[Ai];rfl
theorem UI{f:Nat->Nat->Int}{n:Nat}:∀{m:Nat},cE n (λk=>cE m λc=>f c k)=cE m λc=>cE n (f c)
  |0=>Ai
  | m + 1 => by
    show cE n (λk=>cE m (λc=>f c k)+f m k)=cE m (λc=>cE n (f c))+cE n (f m);rw[Gn,UI]
theorem Vc{f:Nat->Int}{b:Int}:∀{n:Nat},(∀k,k<n->f k<=b)->cE n f<=n*b
  |0,_=>by unfold cE;simp
  | n + 1, h => by
    unfold cE;have h1:=Vc (n:=n) λk hk=>h k ∅;have h2:=h n ∅;rw[show((n+1:Nat):Int)*b=n*b+b by rw[pz,vk];simp];omega
theorem NR{f:Nat->Int}(hf:∀k,f k=0\/f k=1):∀{n:Nat},(∀k t,k<t->t<n->¬(f k=1/\f t=1))->cE n f<=1
  |0,_=>by unfold cE;omega
  | n + 1, h => by
    unfold cE;rcases hf n with e|e
    · have:=NR hf (n:=n) λk t a b=>h k t a ∅
      omega
    · have:cE n f=0:=by
        rw[DS (g:=λ_=>0) λk hk=>(hf k).resolve_right λz=>h k n hk ∅ ⟨z,e⟩];exact Ai
      omega
theorem meet{I:Nat->Nat->Int}(hI:∀c k,I c k=0\/I c k=1){n:Nat}:∀{m:Nat},(∀c d k t,c<d->d<m->k<t->t<n->¬(I c k=1/\I d k=1/\I c t=1/\I d t=1))->
    cE n (λk=>cE m (λc=>I c k)*(cE m (λc=>I c k)-1))<=m*(m-1)
  | 0, _ => by
    rw[DS (g:=λ_=>0) λk _=>by unfold cE;simp,Ai];simp
  | m + 1, h => by
    have ih:=meet hI (n:=n) (m:=m) λc d k t a b=>h c d k t a ∅;have e:cE n (λk=>cE (m+1) (λc=>I c k)*(cE (m+1) (λc=>I c k)-1))=cE n (λk=>cE m (λc=>I c k)*(cE m (λc=>I c k)-1)+2*cE m (λc=>I m k*I c k)):=by
      refine DS λk _=>?_;rw[Ji];show(cE m (λc=>I c k)+I m k)*(cE m (λc=>I c k)+I m k-1)=_;generalize cE m (λc=>I c k)=D;rcases hI m k with z|z<;>rw[z]<;>grind
    rw[e,Gn,Ji,UI (f:=λc k=>I m k*I c k)];have h2:cE m (λc=>cE n λk=>I m k*I c k)<=m*1:=Vc λc hc=>NR (λk=>by rcases hI m k with z|z<;>rcases hI c k with y|y<;>rw[z,y]<;>simp) λk t hk hk' ⟨l,z2⟩=>by
      refine h c m k t hc ∅ hk hk' ?_;rcases hI m k with a|a<;>rcases hI c k with b|b<;>rcases hI m t with a'|a'<;>rcases hI c t with b'|b'<;>simp_all
    have e3:((m+1:Nat):Int)*((m+1:Nat)-1)=(m:Int)*(m-1)+2*m:=by rw[pz];grind
    omega
section
variable{p n m:Int}{c1 c2 cs:List aB}{u w:List Int}
theorem xI{ws:List Int}(b:Hz p n cs)(hl:ws.length=n.toNat)(hw:∀x∈ws,0<=x/\x<p)(h:brk p cs ws=0):vY p cs ws n.toNat=[]:=by
  have hb:=List.countP_eq_zero.mp h;refine List.flatMap_eq_nil_iff.mpr λi hi=>?_;have hi:=qW.mp hi;unfold Q3;have a:AU (ym p cs ws (i:Int)) (ws.getD i 0)=[]:=by
    cases e:AU (ym p cs ws (i:Int)) (ws.getD i 0) with
    |nil=>rfl
    | cons x r =>
      exfalso;have hx:x∈AU (ym p cs ws (i:Int)) (ws.getD i 0):=by rw[e];exact bZ
      have Ln:=iN.mp (UX hx);have hg:=Ln.2;unfold Tg at hg;rw[fF,decide_eq_true_eq] at hg;refine hg.1 ?_;have hm:=Ln.1;unfold ym at hm;obtain⟨q,hq,rfl⟩:=cM.mp hm;obtain⟨c,prs,f,hc,_,_,rfl⟩:=Xr (aW _) hq;have hz:=hb prs (cS hc);have hz:dG prs (ws.map some)%p=0:=by simpa using hz
      show(ws.getD (i:Int).toNat 0-dG (cs.getD (c:Int).toNat []) (ws.map some)%p*sol p f 1)%p=_;rw[Ho,Ho,show cs.getD c []=prs by rw[iM,hc];rfl,hz,um,xx];have:=hw (ws.getD i 0) (by rw[iM,aL ∅];exact jB _);exact uW this.1 this.2
  rw[a];rfl
inductive Way(p:Int)(cs:List aB)(n k:Nat)(ws:List Int):Prop
 |held (hb:brk p cs ws=0) (ht:vY p cs ws n=[])
 |rest (hb:brk p cs ws≠0) (ht:vY p cs ws n=[])
 |on (hb:brk p cs ws≠0) (ht:vY p cs ws n≠[])
def way(b:Hz p n cs){ws:List Int}(hl:ws.length=n.toNat)(hw:∀x∈ws,0<=x/\x<p)(k:Nat):Way p cs n.toNat k ws:=by
 by_cases h1:brk p cs ws=0;·exact .held h1 (xI b hl hw h1)
 by_cases h2:vY p cs ws n.toNat=[];·exact .rest h1 h2
 .exact .on h1 h2
end
def OT(cs:List aB):Prop:=cs.Pairwise λa b=>∀x y:Int,x≠y->x∈a.map (·.1)->y∈a.map (·.1)->x∈b.map (·.1)->y∈b.map (·.1)->False
structure abF(p n:Int)(cs:List aB)(ws:List Int):Prop where
 v:Hz p n cs
 a:OT cs
 t:∀prs∈cs,dG prs (ws.map some)%p=0
 l:ws.length=n.toNat
 r:∀x∈ws,0<=x/\x<p
section
variable{p n:Int}{cs:List aB}{ws xs O:List Int}{i:Nat}
theorem wr(h:abF p n cs ws)(hi:i<n.toNat):0<=ws.getD i 0/\ws.getD i 0<p:=by
 have:=h.l;exact h.r _ (by rw[iM,aL ∅];exact jB _)
end
section
variable{p n:Int}{d:Nat}{cs:List aB}{ws L:List Int}
def only(cs:List aB)(L:List Int)(x:Int)(c:Nat):Prop:=((cs.getD c []).filter λpr=>decide (pr.1∈L)).map (·.1)=[x]
end
section
variable{prog:bo}{w:cx}{A:c4}{E:ag->aw->Prop}{h:eh}{g:Array oi}{d:Drawn}{t:Nat}{os:OsState}{a:ar}{o:Obj}{K:PySem.W.Frag}
 {nm q:Str} {C N:ar} {bs bm:List ag} {hdct:Bool} {sn:List Str} {sub:List ag} {ab:Bool} {col:Option Bool} {dd:Option ar} {k0 k1 k2 k3 k5:Option ag} {newId:String}
end
abbrev DXF:=List PyData->Pd->(ar->Prop)->Prop
abbrev CXF:=Cu->List PyData->(Cu->Pd)->(Cu->ar->Prop)->Prop
end L2
namespace L2
open PySem PySem.Spec PyProof.Rows PySem.NumText
noncomputable abbrev nS(n:Int):Str:=dc (toString n)
end L2
namespace L2
def Dv(G:Gx)(ρ:Rh)(te:TE)(Θ:List (List PyData)->Prop):Prop:=∀nb σ H (Q:VK),Wd G nb ρ σ H->
 (∀ a0 (bs : List Addr) (d : List (List PyData)) H', Θ d -> Step G.B H H' -> (a0 :: bs).Nodup -> (∀ b ∈ a0 :: bs, H b = none) -> bs.length = d.length -> H' a0 = some (.lst (bs.map .ref)) ->
  (∀(i:Nat) b ds,bs[i]?=some b->d[i]?=some ds->∃xs,H' b=some (.lst xs)/\ah (λx=>G.S nb true x\/x∈a0::bs) H' ds xs)->Q (.ref a0) H')->te σ H Q
section
variable{G:Gx}{ρ:Rh}{Φ:Pd}{ta tb te:TE}{t:TA}{i:Nat}{E:DE}{C x dx l:ar}{fs:Fs}{K:PySem.W.Frag}{f m:Str}{d:PyData}{ks:Ks}{Θ:Bool->List PyData->Prop}
theorem Sv.Ey(e:ρ[i]?=some (.cu (aC C x dx fs)))(cl:cD K C)(na:bf K C f)(hl:fs.lookup f=none)(hlen:fs.length<900)(h:kZ G ρ te λ_ ks=>∀l,E.nx (ρ.set i (.cu (aC C x dx (fs++[(f, .cu (dI l ks))]))))):Sv G ρ (rW K (br i) te f) E:=λnb σ H D W KK=>
 h nb σ H _ W λb l ps H1 ks q s1 u s hd=>by
  obtain⟨vs,e1,h2,n,h3,len,p,r⟩:=(W.step s1).kP e;refine⟨.ref x,e1,x,C,dx,vs,rfl,p,cl,na,by rw[r.len];omega,KK.nx _ _ _ _ (q l) (W.EF (c:=dI l ks) s1 e hl hlen rfl rfl u (by rw[s];exact gx _) ⟨ps,s,hd.av λa z=>?_⟩ p)⟩;rcases z with z|z
  .exact .inl (cg (λw=>by cases w) (λ_ w=>w) a z)
  .exact .inr z
def Sv.CM(e:ρ[i]?=some (.cu (aC C x dx fs)))(cl:cD K C)(na:bf K C f)(hl:fs.lookup f=some (.cu (dI l ks)))(h:Ev G ρ te λ_ d=>Ev G ρ tb λ_ y=>∃k,y= .int k/\ks.length<10000/\E.nx (ρ.set i (.cu (aC C x dx (dP f (.cu (dI l (eH ks k d))) fs))))):Sv G ρ (gu te (lZ (ja K (br i) f) tb vn)) E:=λnb σ H D W KK=>
 h nb σ H _ W λg v H1 d q s1 hv=>oz (W.step s1) e cl na hl λhF ⟨ps,hp,hd⟩=>q nb σ H1 _ (W.step s1) λg' u H2 y ⟨k,r,a,p⟩ s2 Y=>by
  subst r;have W2:=(W.step s1).step s2;have iR:=hF l (aF.mpr rfl);have N:G.S nb false l:= .inl iR.1;have hlen:=hd.len;refine⟨l,ps, .inl k,rfl,Y.bT,s2.1 _ _ iR.2 hp,fX (by rw[hlen];exact a) ⋯,KK.nx nb _ _ _ p (W2.vX (c:=dI l ks) (c':=dI l (eH ks k d)) e hl (aF.mpr rfl) rfl rfl ⟨_,aV,?_⟩)⟩;exact(ao.put (hd.keep s2.c8) ((hv.av (cg (λz=>by cases z) λ_ z=>z)).keep s2.c8)).keep (bC.set N)
def Sv.Uy(e:ρ[i]?=some (.cu (aC C x dx fs)))(cl:cD K C)(na:bf K C f)(hl:fs.lookup f=some (.cu (dI l ks)))(h:Ev G ρ te λ_ y=>∃k,y= .int k/\dh ks k=true/\E.nx (ρ.set i (.cu (aC C x dx (dP f (.cu (dI l (jz ks k))) fs))))):Sv G ρ (nu (n9 K "dict" Up (ja K (br i) f) (aU te bK))) E:=λnb σ H D W KK=>by
 unfold nu n9
 exact oz W e cl na hl λhF ⟨ps,hp,hd⟩=>⟨.inr (.inr (.inl ⟨rfl, .inl ⟨_,hp⟩⟩)),h nb σ H _ W λg v H1 y ⟨k,r,hk,q⟩ s1 hv=>by
  subst r;have hk':=hv.bT;subst hk';have W1:=W.step s1;have iR:=hF l (aF.mpr rfl);have N:G.S nb false l:= .inl iR.1;have hd1:=hd.keep s1.c8;have:=ao.val k hd1;rw[<-mH] at hk;obtain⟨d,I⟩:=qC.mp hk;rw[I] at this;obtain⟨v,b,_⟩:=this;exact⟨l,ps, .inl k,v,rfl,rfl,s1.1 _ _ iR.2 hp,b,KK.nx nb _ _ _ q (W1.vX (c:=dI l ks) (c':=dI l (jz ks k)) e hl (aF.mpr rfl) rfl rfl ⟨_,aV,(ao.drop hd1).keep (bC.set N)⟩)⟩⟩
def Ev.Q8(e:ρ[i]?=some (.cu (aC C x dx fs)))(cl:cD K C)(na:bf K C f)(hl:fs.lookup f=some (.cu (dI l ks)))(h:Ev G ρ ta λ_ y=>∃k,y= .int k/\Φ true (.bool (dh ks k !=b))):Ev G ρ (er (Cv b) ta (ja K (br i) f)) Φ:=λnb σ H Q W z=>
 h nb σ H _ W λg w H1 y ⟨k,r,p⟩ s1 hw=>oz (W.step s1) e cl na hl λhF ⟨ps,hp,hd⟩=>by
  subst r;refine⟨l,_,rfl,by rw[hw.bT];exact rm.k (k:= .inl k) hp,?_⟩;have:(iD ps (cZ k)).isSome=dh ks k:=by rw[<-C4];exact ao.any k hd
  rw[this];exact z true _ H1 _ p s1 (.bl _)
def fq.kH{Θ:List PyData->Prop}(e:ρ[i]?=some (.cu (aC C x dx fs)))(cl:cD K C)(na:bf K C f)(hl:fs.lookup f=some (.cu (dI l ks)))(h:fq G ρ t λes=>Θ (.dict (ks.map aH)::es)):fq G ρ (aU (ja K (br i) f) t) Θ:=λnb σ H Q W z=>
 oz W e cl na hl λhF ⟨ps,hp,hd⟩=>h nb σ H _ W λes vs H1 p s1 J=>by
  have iR:=hF l (aF.mpr rfl);refine z _ _ H1 p s1 ?_;refine ah.cons ?_ J;have N:∀a,¬NB G.B a->G.S nb false a:=λa z=> .inr (.inr (.inl z));have:=(hd.keep s1.c8).av N;unfold af;exact⟨l,ps,rfl,λz=>z iR.2, .inl (s1.1 _ _ iR.2 hp),this⟩
end
noncomputable def FF(cs:List Cu):List ar:=cs.flatMap (·.F)
def l5{cs:List Cu}:a∈FF cs↔∃c∈cs,a∈c.F:=by unfold FF;rw[wX]
def iw(ρ:Rh):List Nat->List Cu->Prop
 |[],[]=>True
 |i::is,c::cs=>ρ[i]?=some (.cu c)/\iw ρ is cs
 |_,_=>False
def iJ:List Cu->List Cu->Prop
 |[],[]=>True
 |c::cs,c'::cs'=>sQ c c'/\iJ cs cs'
 |_,_=>False
noncomputable def jt(ρ:Rh):List Nat->List Cu->Rh
 |i::is,c::cs=>jt (ρ.set i (.cu c)) is cs
 |_,_=>ρ
structure qM(B:Bg)(cs cs':List Cu)(H H':Hp):Prop where
 up:iJ cs cs'
 new:∀a∈FF cs',a∈FF cs\/H a=none
 ap:cs'.Pairwise λc d=>∀a∈c.F,a∉d.F
 kp:∀a o,a∉FF cs->NB B a->H a=some o->H' a=some o
 aq:ly B H'
 lv:∀a∈FF cs',H' a≠none
theorem iJ.len:∀{cs cs':List Cu},iJ cs cs'->cs'.length=cs.length
 |[],[],_=>rfl
 |c::cs,c'::cs',h=>by rw[dM,dM,iJ.len h.2]
 |[],_::_,h=>h.elim
 |_::_,[],h=>h.elim
theorem iJ.at:∀{cs cs':List Cu},iJ cs cs'->∀{k:Nat} {c c':Cu},cs[k]?=some c->cs'[k]?=some c'->sQ c c'
 |c::cs,c'::cs',h,0,_,_,e1,e2=>by cases e1;cases e2;exact h.1
 |c::cs,c'::cs',h,k+1,_,_,e1,e2=>iJ.at h.2 (by simpa using e1) (by simpa using e2)
 |[],_,_,_,_,_,e1,_=>by simp at e1
 |_::_,[],_,_,_,_,_,e2=>by simp at e2
theorem iJ.sub{cs cs':List Cu}(h:iJ cs cs'):∀a∈FF cs,a∈FF cs':=λa m=>by
 obtain⟨c,hc,ha⟩:=l5.mp m;obtain⟨k,hk⟩:=iW hc;have hl:=(bH.mp hk).1;have hk':=aL (l:=cs') (i:=k) (by rw[h.len];exact hl);exact l5.mpr ⟨_,cS hk',(h.at hk hk').sub a ha⟩
theorem iJ.f{cs cs':List Cu}(h:iJ cs cs'):∀c∈cs',c.f=false:=λc m=>by
 obtain⟨k,hk⟩:=iW m;have hl:=(bH.mp hk).1;exact(h.at (aL (by rw[<-h.len];exact hl)) hk).f
theorem iw.len{ρ:Rh}:∀{is:List Nat} {cs:List Cu},iw ρ is cs->is.length=cs.length
 |[],[],_=>rfl
 |_::is,_::cs,h=>by rw[dM,dM,iw.len h.2]
 |[],_::_,h=>h.elim
 |_::_,[],h=>h.elim
theorem iw.at{ρ:Rh}:∀{is:List Nat} {cs:List Cu},iw ρ is cs->∀{k i:Nat} {c:Cu},is[k]?=some i->cs[k]?=some c->ρ[i]?=some (.cu c)
 |_::is,_::cs,h,0,_,_,e1,e2=>by cases e1;cases e2;exact h.1
 |_::is,_::cs,h,k+1,_,_,e1,e2=>iw.at h.2 (by simpa using e1) (by simpa using e2)
 |[],_,_,_,_,_,e1,_=>by simp at e1
 |_::_,[],_,_,_,_,_,e2=>by simp at e2
def iw.xK:iw ρ [] []:=trivial
def iw.mk{is:List Nat}{c:Cu}{cs:List Cu}(h:ρ[i]?=some (.cu c))(t:iw ρ is cs):iw ρ (i::is) (c::cs):=⟨h,t⟩
def iJ.xK:iJ [] []:=trivial
def iJ.mk{c c':Cu}{cs:List Cu}(h:sQ c c')(t:iJ cs cs'):iJ (c::cs) (c'::cs'):=⟨h,t⟩
def LW{c d:Cu}(h:c.f=false)(k:d.f=false):∀x∈[c,d],x.f=false:=λx m=>by
 rcases aM.mp m with z|z
 .rw[z];exact h
 .rw[aF.mp z];exact k
theorem U0:∀{ρ:Rh} {is:List Nat} {cs:List Cu},(jt ρ is cs).length=ρ.length
 |ρ,i::is,c::cs=>by unfold jt;rw[U0,gR]
 |ρ,[],_=>by unfold jt;rfl
 |ρ,_::_,[]=>by unfold jt;rfl
theorem nJ{j:Nat}:∀{ρ:Rh} {is:List Nat} {cs:List Cu},j∉is->(jt ρ is cs)[j]?=ρ[j]?
  | ρ, i :: is, c :: cs, h => by
    unfold jt;rw[nJ λz=>h (bV _ z),bQ λz=>h (by rw[z];exact bZ)]
  |ρ,[],_,_=>by unfold jt;rfl
  |ρ,_::_,[],_=>by unfold jt;rfl
theorem PF:∀{ρ:Rh} {is:List Nat} {cs:List Cu},is.Nodup->is.length=cs.length->(∀i∈is,i<ρ.length)->∀{k i:Nat},is[k]?=some i->∃c,cs[k]?=some c/\(jt ρ is cs)[i]?=some (.cu c)
  | ρ, E :: is, c :: cs, nd, hl, hb, 0, i, e => by
    cases e;unfold jt;refine⟨c,rfl,?_⟩;rw[nJ (gf.mp nd).1,dB (hb E bZ)]
  | ρ, E :: is, c :: cs, nd, hl, hb, k + 1, i, e => by
    unfold jt;exact PF (gf.mp nd).2 (by simpa using hl) (λi m=>by rw[gR];exact hb i (bV _ m)) (k:=k) (by simpa using e)
  |ρ,[],_,_,_,_,_,_,e=>by simp at e
  |ρ,_::_,[],_,hl,_,_,_,_=>by simp at hl
section
variable{G:Gx}{ρ:Rh}{nb:ar->Prop}{σ:qr}{H H':Hp}{is:List Nat}{cs cs':List Cu}
theorem Wd.setM(W:Wd G nb ρ σ H)(nd:is.Nodup)(T:iw ρ is cs)(to:qM G.B cs cs' H H')(h:∀c∈cs',c.P (G.S (λx=>nb x\/x∈FF cs') false) H'):Wd G (λx=>nb x\/x∈FF cs') (jt ρ is cs') σ H':=by
  have hlen:=T.len;have hlen':=to.up.len;have slot:∀c∈cs,∃(k i:Nat),is[k]?=some i/\cs[k]?=some c/\ρ[i]?=some (.cu c):=λc m=>by
    obtain⟨k,hk⟩:=iW m;have hl:=(bH.mp hk).1;have hi:=aL (l:=is) (i:=k) ∅;exact⟨k,_,hi,hk,T.at hi hk⟩
  have h2:∀a∈FF cs,nb a/\NB G.B a:=λa m=>by
    obtain⟨c,hc,ha⟩:=l5.mp m;obtain⟨k,i,_,_,e⟩:=slot c hc;obtain⟨A,e1,g1,g2,X⟩:=W.ok i _ e;exact g2 a ha
  have D:∀i∈is,i<ρ.length:=λi m=>by
    obtain⟨k,hk⟩:=iW m;have hl:=(bH.mp hk).1;exact(bH.mp (T.at hk (aL (l:=cs) (i:=k) ∅))).1
  obtain⟨L,y⟩:∃L,L=(FF cs').filter λa=>(H a).isNone:=⟨_,rfl⟩;have ha:∀a∈L,H a=none:=λa m=>by
    rw[y,iN] at m;exact tS.mp m.2
  have Y:∀a∈FF cs',nb a\/a∈L:=λa m=>by
    rcases to.new a m with z|z
    · exact .inl (h2 a z).1
    · exact .inr (by rw[y];exact iN.mpr ⟨m,tS.mpr z⟩)
  have hA:∀f x,G.S (λx=>nb x\/x∈FF cs') f x->(G.S nb f x\/x∈L):=λf x z=>by
    rcases z with (z|z)|z|z|z
    · exact .inl (.inl z)
    · exact(Y x z).elim (λz=> .inl (.inl z)) .inr
    · exact .inl (.inr (.inl z))
    · exact .inl (.inr (.inr (.inl z)))
    · exact .inl (.inr (.inr (.inr z)))
  have bt:∀f,bC (G.S (λx=>nb x\/x∈FF cs') f) H H':=λf a o n q=>to.kp a o (λz=>n (.inl (.inl (h2 a z).1))) (jl λz=>n (.inr (.inr (.inl z)))) q;have I:∀{S:ar->Prop} {d:PyData} {v:V},af S H d v->af (λa=>S a\/a∈L) H d v:=λ{S d v} h=>jr (P:=λS=>af S H d v) (λz h=>af.av z h) (λhp h=>af.fresh hp h) ha h;have K:∀{S:ar->Prop} {d:List PyData} {v:List V},ah S H d v->ah (λa=>S a\/a∈L) H d v:=λ{S d v} h=>jr (P:=λS=>ah S H d v) (λz h=>ah.av z h) (λhp h=>ah.fresh hp h) ha h;have Q:∀{S:ar->Prop} {d:List (PyData×PyData)} {v:List (Key×V)},ao S H d v->ao (λa=>S a\/a∈L) H d v:=λ{S d v} h=>jr (P:=λS=>ao S H d v) (λz h=>ao.av z h) (λhp h=>ao.fresh hp h) ha h;have N:∀{S:ar->Prop} {d:HD} {v:V},fh S H d v->fh (λa=>S a\/a∈L) H d v:=λ{S d v} h=>jr (P:=λS=>fh S H d v) (λz h=>fh.av h z) (λhp h=>fh.fresh h hp) ha h;have C:∀a∈FF cs',NB G.B a:=λa m=>(to.new a m).elim (λz=>(h2 a z).2) λz=>NB.new W.aq z;have r:∀(j:Nat) s,j∉is->ρ[j]?=some s->∀a∈s.adr,a∉FF cs:=λj s O hs a m z=>by
    obtain⟨c,hc,p⟩:=l5.mp z;obtain⟨k,i,hi,_,e⟩:=slot c hc;exact W.cL i j c s (λz=>O (z▸cS hi)) e hs a p m
  have R:∀(j:Nat) s,j∉is->ρ[j]?=some s->∀a∈s.adr,a∉FF cs':=λj s O hs a m z=>by
    rcases to.new a z with w|w
    · exact r j s O hs a m w
    · obtain⟨x,_,q⟩:=W.ok j s hs
      exact W.live a (q.yr a m).1 w
  have F:∀(j:Nat) s,j∈is->(jt ρ is cs')[j]?=some s->∃(k:Nat) (c:Cu),is[k]?=some j/\cs'[k]?=some c/\s= .cu c:=λj s m e=>by
    obtain⟨k,hk⟩:=iW m;obtain⟨c,hc,e'⟩:=PF (cs:=cs') nd ∅ D hk;rw[e'] at e;cases e
    exact⟨k,c,hk,hc,rfl⟩
  refine⟨to.aq,λa n=>?_,λa o n q=>?_,λa n q=>?_,W.gA,by rw[U0];exact W.len,W.gB,λh m=>((N (W.dw h m)).av (hA h.1)).keep (bt h.1),λj s e'=>?_,?_,?_,?_⟩
  · rcases n with n|n
    · by_cases z:a∈FF cs
      · exact to.lv a (to.up.sub a z)
      · by_cases hN:NB G.B a
        · cases q:H a with
          |none=>exact absurd q (W.live a n)
          |some o=>rw[to.kp a o z hN q];exact gx _
        · exact NB.mh to.aq hN
    · exact to.lv a n
  · refine to.kp a o (λz=>?_) n (W.old a o n q)
    rw[W.cJ a (h2 a z).1 n] at q;cases q
  · rcases n with n|n
    · exact W.cJ a n q
    · rcases to.new a n with z|z
      · exact W.cJ a (h2 a z).1 q
      · cases w:G.H0 a with
        |none=>rfl
        |some o=>rw[W.old a o q w] at z;cases z
  · by_cases O:j∈is
    · obtain⟨k,c',hk,t,rfl⟩:=F j s O e'
      have hkl:=(bH.mp hk).1;have hc:=aL (l:=cs) (i:=k) ∅;obtain⟨A,e1,g1,g2,X⟩:=W.ok j _ (T.at hk hc);have u:=to.up.at hc t;have hm:=cS t;refine⟨A,e1,by rw[g1,u.v],λa m=>⟨.inr (l5.mpr ⟨_,hm,m⟩),C a (l5.mpr ⟨_,hm,m⟩)⟩,?_⟩;rw[u.f];exact h c' hm
    · rw[nJ O] at e'
      obtain⟨x,e2,q⟩:=W.ok j s e';refine⟨x,e2,?_⟩;have ap:=r j s O e';cases s with
      |no=>trivial
      |d f d=>obtain⟨v,e,h⟩:=q;exact⟨v,e,((I h).av (hA f)).keep (bt f)⟩
      |own a f es=>obtain⟨e,n,q,xs,hx,hd⟩:=q;exact⟨e, .inl n,q,xs,to.kp _ _ (ap a (aF.mpr rfl)) q hx,((K hd).av (hA f)).keep (bt f)⟩
      |aq=>exact q
      |raw v=>exact q
      |bB a f es=>obtain⟨e,n,q,xs,hx,hd⟩:=q;exact⟨e, .inl n,q,xs,to.kp _ _ (ap a (aF.mpr rfl)) q hx,((Q hd).av (hA f)).keep (bt f)⟩
      | cu c2 =>
        obtain⟨e,n,q⟩:=q;refine⟨e,λa ha=>⟨.inl (n a ha).1,(n a ha).2⟩,c2.keep (.of λx o hx e=>to.kp x o ?_ ?_ e) (c2.av (hA c2.f) (jr (P:=λS=>c2.P S H) (λz h=>c2.av z h) (λhp h=>c2.fresh hp h) ha q))⟩
        · rcases hx with hx|hx
          · exact λz=>hx (.inl (.inl (h2 x z).1))
          · exact ap x hx
        · rcases hx with hx|hx
          · exact jl λz=>hx (.inr (.inr (.inl z)))
          · exact(n x hx).2
  all_goals
    intro j k
  · intro a f as c2 g cs2 hjk q1 q2
    have O:j∉is:=λz=>by obtain⟨_,_,_,_,z⟩:=F j _ z q1;cases z
    have hk:k∉is:=λz=>by obtain⟨_,_,_,_,z⟩:=F k _ z q2;cases z
    rw[nJ O] at q1;rw[nJ hk] at q2;exact W.apart j k a f as c2 g cs2 hjk q1 q2
  · intro a f as c2 g cs2 hjk q1 q2
    have O:j∉is:=λz=>by obtain⟨_,_,_,_,z⟩:=F j _ z q1;cases z
    have hk:k∉is:=λz=>by obtain⟨_,_,_,_,z⟩:=F k _ z q2;cases z
    rw[nJ O] at q1;rw[nJ hk] at q2;exact W.fB j k a f as c2 g cs2 hjk q1 q2
  · intro c2 s hjk q1 q2 a m z
    by_cases O:j∈is
    · obtain⟨k1,c',E,t,e⟩:=F j _ O q1
      cases e;by_cases hk:k∈is
      · obtain⟨k2,d',b,hd',rfl⟩:=F k _ hk q2
        have U:k1≠k2:=λz=>by subst z;rw[E] at b;cases b;exact hjk rfl
        have pw:=tP.mp to.ap;have l1:=bH.mp t;have l2:=bH.mp hd';rcases Gy U with w|w
        · have:=pw k1 k2 l1.1 l2.1 w a (by rw[l1.2];exact m)
          rw[l2.2] at this;exact this z
        · have:=pw k2 k1 l2.1 l1.1 w a (by rw[l2.2];exact z)
          rw[l1.2] at this;exact this m
      · rw[nJ hk] at q2
        exact R k s hk q2 a z (l5.mpr ⟨_,cS t,m⟩)
    · rw[nJ O] at q1
      by_cases hk:k∈is
      · obtain⟨k2,d',b,hd',rfl⟩:=F k _ hk q2
        exact R j _ O q1 a m (l5.mpr ⟨_,cS hd',z⟩)
      · rw[nJ hk] at q2
        exact W.cL j k c2 s hjk q1 q2 a m z
end
noncomputable def jE:List Bool->List V->List V->List V
 |true::r,t::ts,ds=>t::jE r ts ds
 |false::r,ts,d::ds=>d::jE r ts ds
 |_,_,_=>[]
noncomputable def gm:List Bool->List Cu->List PyData->Rh
 |true::r,c::cs,ds=> .cu c::gm r cs ds
 |false::r,cs,d::ds=> .d false d::gm r cs ds
 |_,_,_=>[]
def jY:List Bool->List Cu->List PyData->Prop
 |[],[],[]=>True
 |true::r,_::cs,ds=>jY r cs ds
 |false::r,cs,_::ds=>jY r cs ds
 |_,_,_=>False
noncomputable def mQ:Nat->List Bool->List Nat
 |_,[]=>[]
 |k,true::r=>k::mQ (k+1) r
 |k,false::r=>mQ (k+1) r
abbrev MF:=List Cu->List PyData->(List Cu->Pd)->Prop
def Uh(F:MF):Prop:=∀cs ds (Φ Ψ:List Cu->Pd),F cs ds Φ->(∀cs f d,Φ cs f d->Ψ cs f d)->F cs ds Ψ
def runM(B:Bg)(nb:ar->Prop)(cs:List Cu)(ds:List PyData)(ws:List V)(F:MF)(H:Hp)(Q:VK):Prop:=
 gZ nb H/\(∀c∈cs,c.f=false/\c.P nb H/\∀a∈c.F,nb a)/\(cs.Pairwise λc d=>∀a∈c.F,a∉d.F)/\ah nb H ds ws/\
 F cs ds λcs' f d=>∀v H',qM B cs cs' H H'->(∀c∈cs',c.P (λa=>nb a\/a∈FF cs') H')->af (λa=>nb a\/a∈FF cs'\/(f=true/\H a≠none)) H' d v->Q v H'
def CO(pat:List Bool)(F:MF):Sp:=λvs H Q _=>vs.length=pat.length/\∃(nb:ar->Prop) (cs:List Cu) (ws:List V) (ds:List PyData),vs=jE pat (cs.map (·.v)) ws/\jY pat cs ds/\runM none nb cs ds ws F H Q
section
variable{pat:List Bool}{F:MF}{vs:List V}{H:Hp}{Q:VK}{E:XK}
def Xg(h:CO pat F vs H Q E):∃(nb:ar->Prop) (cs:List Cu) (ws:List V) (ds:List PyData) (Φ:List Cu->Pd),vs=jE pat (cs.map (·.v)) ws/\jY pat cs ds/\
  (∀cs' f d v H',Φ cs' f d->qM none cs cs' H H'->(∀c∈cs',c.P (λa=>nb a\/a∈FF cs') H')->af (λa=>nb a\/a∈FF cs'\/(f=true/\H a≠none)) H' d v->Q v H')/\(gZ nb H/\(∀c∈cs,c.f=false/\c.P nb H/\∀a∈c.F,nb a)/\(cs.Pairwise λc d=>∀a∈c.F,a∉d.F)/\ah nb H ds ws)/\F cs ds Φ:=by
 obtain⟨_,nb,cs,ws,ds,e,ht,h1,h2,h3,h4,hF⟩:=h;exact⟨nb,cs,ws,ds,_,e,ht,λcs' f d v H' q=>q v H',⟨h1,h2,h3,h4⟩,hF⟩
end
noncomputable def ki(B:Bg)(cs:List Cu)(H:Hp)(nb:ar->Prop):Gx:=⟨B,λa=>if a∈FF cs then none else H a,λa=>nb a/\a∉FF cs,[]⟩
noncomputable def QA(G:Gx)(is:List Nat)(cs:List Cu)(Φ:List Cu->Pd):DE where
 nx:=λρ=>∃cs',iw ρ is cs'/\iJ cs cs'/\Φ cs' true .none
 rt:=λ_ _=>False
 rw:=λnb ρ v H=>∃cs' f d,iw ρ is cs'/\iJ cs cs'/\Φ cs' f d/\af (G.S nb f) H d v
theorem Bt:∀{pat:List Bool} {cs:List Cu} {ds:List PyData},jY pat cs ds->(gm pat cs ds).length=pat.length
 |[],[],[],_=>rfl
 |true::r,c::cs,ds,h=>by unfold gm;rw[dM,dM,Bt (pat:=r) (cs:=cs) (ds:=ds) h]
 |false::r,cs,d::ds,h=>by unfold gm;rw[dM,dM,Bt (pat:=r) (cs:=cs) (ds:=ds) (by unfold jY at h;exact h)]
 |[],_::_,_,h=>h.elim
 |[],[],_::_,h=>h.elim
 |true::_,[],[],h=>h.elim
 |true::_,[],_::_,h=>h.elim
 |false::_,[],[],h=>h.elim
 |false::_,_::_,[],h=>h.elim
theorem vd{nb:ar->Prop}{H:Hp}:∀{pat:List Bool} {cs:List Cu} {ds:List PyData} {ws:List V},jY pat cs ds->ah nb H ds ws->(jE pat (cs.map (·.v)) ws).length=pat.length/\∀(i:Nat) s,(gm pat cs ds)[i]?=some s->∃v,(jE pat (cs.map (·.v)) ws)[i]?=some v/\((∃c∈cs,s= .cu c/\v=c.v)\/∃d,s= .d false d/\af nb H d v)
  |[],[],[],ws,_,_=>⟨by unfold jE;rfl,λi s e=>by unfold gm at e;simp at e⟩
  | true :: r, c :: cs, ds, ws, h, hd => by
    obtain⟨l,k⟩:=vd (pat:=r) (cs:=cs) (ds:=ds) (ws:=ws) h hd;simp only[bR,jE,gm];refine⟨by rw[dM,dM,l],λi s e=>?_⟩;cases i with
    |zero=>cases e;exact⟨c.v,rfl, .inl ⟨c,bZ,rfl,rfl⟩⟩
    | succ i =>
      obtain⟨v,e1,q⟩:=k i s (by simpa using e);exact⟨v,by simpa using e1,q.imp (λ⟨c,m,q⟩=>⟨c,bV _ m,q⟩) id⟩
  | false :: r, cs, d :: ds, ws, h, hd => by
    unfold ah at hd;obtain⟨y,ys,rfl,h1,h2⟩:=hd;obtain⟨l,k⟩:=vd (pat:=r) (cs:=cs) (ds:=ds) (ws:=ys) (by unfold jY at h;exact h) h2;simp only[bR,jE,gm];refine⟨by rw[dM,dM,l],λi s e=>?_⟩;cases i with
    |zero=>cases e;exact⟨y,rfl, .inr ⟨d,rfl,h1⟩⟩
    | succ i =>
      obtain⟨v,e1,q⟩:=k i s (by simpa using e);exact⟨v,by simpa using e1,q⟩
  |[],_::_,_,_,h,_=>h.elim
  |[],[],_::_,_,h,_=>h.elim
  |true::_,[],[],_,h,_=>h.elim
  |true::_,[],_::_,_,h,_=>h.elim
  |false::_,[],[],_,h,_=>h.elim
  |false::_,_::_,[],_,h,_=>h.elim
theorem GR:∀{pat:List Bool} {cs:List Cu} {ds:List PyData},jY pat cs ds->∀{i:Nat} {s:Sl},(gm pat cs ds)[i]?=some s->(∃c∈cs,s= .cu c)\/∃d,s= .d false d
  |[],[],[],_,i,s,e=>by unfold gm at e;simp at e
  | true :: r, c :: cs, ds, h, i, s, e => by
    unfold gm at e;cases i with
    |zero=>cases e;exact .inl ⟨c,bZ,rfl⟩
    |succ i=>exact(GR (pat:=r) (cs:=cs) (ds:=ds) h (i:=i) (by simpa using e)).imp (λ⟨c,m,q⟩=>⟨c,bV _ m,q⟩) id
  | false :: r, cs, d :: ds, h, i, s, e => by
    unfold gm at e;cases i with
    |zero=>cases e;exact .inr ⟨d,rfl⟩
    |succ i=>exact GR (pat:=r) (cs:=cs) (ds:=ds) (by unfold jY at h;exact h) (i:=i) (by simpa using e)
  |[],_::_,_,h,_,_,_=>h.elim
  |[],[],_::_,h,_,_,_=>h.elim
  |true::_,[],[],h,_,_,_=>h.elim
  |true::_,[],_::_,h,_,_,_=>h.elim
  |false::_,[],[],h,_,_,_=>h.elim
  |false::_,_::_,[],h,_,_,_=>h.elim
theorem sY:∀{pat:List Bool} {cs:List Cu} {ds:List PyData},jY pat cs ds->(cs.Pairwise λc d=>∀a∈c.F,a∉d.F)->∀{i j:Nat} {c d:Cu},i<j->(gm pat cs ds)[i]?=some (.cu c)->(gm pat cs ds)[j]?=some (.cu d)->∀a∈c.F,a∉d.F
  |[],[],[],_,_,i,j,c,d,_,e,_=>by unfold gm at e;simp at e
  | true :: r, c0 :: cs, ds, h, pw, i, j, c, d, hij, e1, e2 => by
    unfold gm at e1 e2;obtain⟨k,p2⟩:=oh.mp pw;cases j with
    |zero=>omega
    | succ j =>
      have e2:(gm r cs ds)[j]?=some (.cu d):=by simpa using e2
      cases i with
      | zero =>
        cases e1;rcases GR (pat:=r) (cs:=cs) (ds:=ds) h e2 with ⟨c',m,z⟩|⟨_,z⟩
        · cases z;exact k _ m
        · cases z
      |succ i=>exact sY (pat:=r) (cs:=cs) (ds:=ds) h p2 (by omega:i<j) (by simpa using e1) e2
  | false :: r, cs, d0 :: ds, h, pw, i, j, c, d, hij, e1, e2 => by
    unfold gm at e1 e2;cases j with
    |zero=>omega
    | succ j =>
      cases i with
      |zero=>cases e1
      |succ i=>exact sY (pat:=r) (cs:=cs) (ds:=ds) (by unfold jY at h;exact h) pw (by omega:i<j) (by simpa using e1) (by simpa using e2)
  |[],_::_,_,h,_,_,_,_,_,_,_,_=>h.elim
  |[],[],_::_,h,_,_,_,_,_,_,_,_=>h.elim
  |true::_,[],[],h,_,_,_,_,_,_,_,_=>h.elim
  |true::_,[],_::_,h,_,_,_,_,_,_,_,_=>h.elim
  |false::_,[],[],h,_,_,_,_,_,_,_,_=>h.elim
  |false::_,_::_,[],h,_,_,_,_,_,_,_,_=>h.elim
section
variable{B:Bg}{ρ:Rh}{is:List Nat}{cs:List Cu}{ds:List PyData}{ws:List V}{nb:ar->Prop}{H:Hp}{Q:VK}{Φ:List Cu->Pd}{t:TS}{N:List Str}{pat:List Bool}{b l:ar}
theorem iw.pw{G:Gx}{aA:ar->Prop}{M:qr}{H':Hp}(W:Wd G aA ρ M H'):∀{is:List Nat} {cs':List Cu},is.Nodup->iw ρ is cs'->cs'.Pairwise λc d=>∀a∈c.F,a∉d.F
  |[],[],_,_=> .nil
  | i :: is, c :: cs, nd, h => by
    obtain⟨n1,n2⟩:=gf.mp nd;refine oh.mpr ⟨λd m a ha=>?_,iw.pw W n2 h.2⟩;obtain⟨k,hk⟩:=iW m;have hl:=(bH.mp hk).1;have hi:=aL (l:=is) (i:=k) (by rw[h.2.len];exact hl);exact W.cL i _ c _ (λz=>n1 (z▸cS hi)) h.1 (h.2.at hi hk) a ha
  |[],_::_,_,h=>h.elim
  |_::_,[],_,h=>h.elim
def zQ{L:Rh}{M:qr}(W:Wd (ki B cs H nb) aA L M H')(nd:is.Nodup)(e:iw L is cs')(up:iJ cs cs'):
  qM B cs cs' H H'/\(∀c∈cs',c.P (λa=>nb a\/a∈FF cs') H')/\∀f a,nb a\/a∈FF cs'\/(f=true/\H a≠none)->(ki B cs H nb).S aA f a:=by
 have slot:∀c∈cs',∃i:Nat,L[i]?=some (Sl.cu c):=λc m=>by
  obtain⟨k,hk⟩:=iW m;have hl:=(bH.mp hk).1;have hi:=aL (l:=is) (i:=k) (by rw[e.len];exact hl);exact⟨_,e.at hi hk⟩
 have h2:∀a∈FF cs',aA a/\NB B a:=λa m=>by
  obtain⟨c,hc,ha⟩:=l5.mp m;obtain⟨i,v⟩:=slot c hc;obtain⟨A,e1,g1,g2,X⟩:=W.ok i _ v;exact g2 a ha
 have r:∀(f:Bool) a,nb a\/a∈FF cs'\/(f=true/\H a≠none)->(ki B cs H nb).S aA f a:=λf a z=>by
  by_cases m:a∈FF cs';·exact .inl (h2 a m).1
  have R:a∉FF cs:=λz=>m (up.sub a z);rcases z with z|z|z
  .exact .inr (.inl ⟨z,R⟩)
  .exact absurd z m
  .exact .inr (.inr (.inr ⟨z.1,by show(if a∈FF cs then none else H a)≠none;rw[if_neg R];exact z.2⟩))
 refine⟨⟨up,λa m=>?_,e.pw W nd,λa o n hN q=>?_,W.aq,λa m=>W.live a (h2 a m).1⟩,λc m=>?_,r⟩
 .have:=W.cJ a (h2 a m).1 (h2 a m).2;by_cases z:a∈FF cs;·exact .inl z
  .exact .inr (by have q:(if a∈FF cs then none else H a)=none:=this;rwa[if_neg z] at q)
 .exact W.old a o hN (by show(if a∈FF cs then none else H a)=_;rw[if_neg n];exact q)
 .obtain⟨i,v⟩:=slot c m;obtain⟨A,e1,g1,g2,X⟩:=W.ok i _ v;refine c.av (λa z=>?_) X;rw[up.f c m];exact r false a (z.elim .inl λz=> .inr (.inl z))
def N4(Z:∀b l,B=some (b,l)->dO H b l/\nb b/\∀a∈FF cs,a≠b/\a≠l)(hw:gZ nb H/\(∀c∈cs,c.f=false/\c.P nb H/\∀a∈c.F,nb a)/\(cs.Pairwise λc d=>∀a∈c.F,a∉d.F)/\ah nb H ds ws){σ:qr}(hl:σ.length=ρ.length)
    (hok:∀(i:Nat) s,ρ[i]?=some s->(s= .aq/\∃b l,B=some (b,l)/\σ[i]?=some (some (.ref b)))\/(s= .no/\∃x,σ[i]?=some x)\/(∃c∈cs,s= .cu c/\σ[i]?=some (some c.v))\/∃d v,s= .d false d/\σ[i]?=some (some v)/\af nb H d v)
    (h:∀(i j:Nat) c d,i≠j->ρ[i]?=some (.cu c)->ρ[j]?=some (.cu d)->∀a∈c.F,a∉d.F):Wd (ki B cs H nb) (λa=>a∈FF cs) ρ σ H:=by
  obtain⟨h1,h2,h3,h4⟩:=hw;have hF:∀a∈FF cs,nb a:=λa m=>by
    obtain⟨c,hc,ha⟩:=l5.mp m;exact(h2 c hc).2.2 a ha
  have C:∀a∈FF cs,NB B a:=λa m b l e=>((Z b l e).2.2 a m).1;have av:∀a,(ki B cs H nb).S (λa=>a∈FF cs) false a->nb a:=λa z=>by
    rcases z with z|z|z|z
    · exact hF a z
    · exact z.1
    · cases e:B with
      |none=>exact absurd (λb l q=>by rw[show(ki B cs H nb).B=B from rfl,e] at q;cases q) z
      | some bl =>
        obtain⟨b,l⟩:=bl;have:a=b:=jl λn=>z λb' w q=>by rw[show(ki B cs H nb).B=B from rfl,e] at q;cases q;exact n
        rw[this];exact(Z b l e).2.1
    · cases z.1
  refine⟨λb l e=>(Z b l e).1,λa z=>h1 a (hF a z),λa o _ e=>?_,λa z _=>by show(if a∈FF cs then none else H a)=none;rw[if_pos z],λa z=>?_,hl,λb l e=>?_,λ_ m=>(by cases m),λi s e=>?_,?_,?_,?_⟩
  · have e:(if a∈FF cs then none else H a)=some o:=e
    by_cases z:a∈FF cs;· rw[if_pos z] at e;cases e
    · rwa[if_neg z] at e
  · show(if a∈FF cs then none else H a)≠none
    rw[if_neg z.2];exact h1 a z.1
  · obtain⟨hb,hn,hx⟩:=Z b l e
    obtain⟨ns,E,c0,st,n,g1,g2,X⟩:=hb;refine⟨ns,E,c0,st,n,?_,?_,X⟩
    · show(if b∈FF cs then none else H b)=_
      rw[if_neg λz=>(hx b z).1 rfl];exact g1
    · show(if l∈FF cs then none else H l)=_
      rw[if_neg λz=>(hx l z).2 rfl];exact g2
  · rcases hok i s e with ⟨rfl,b,l,e1,e2⟩|⟨rfl,x,e2⟩|⟨c,m,rfl,e2⟩|⟨d,v,rfl,e2,q⟩
    · exact⟨_,e2,b,l,e1,rfl⟩
    · exact⟨x,e2,trivial⟩
    · refine⟨_,e2,rfl,λa ha=>?_,?_⟩
      · have:=l5.mpr ⟨c,m,ha⟩
        exact⟨this,C a this⟩
      · rw[(h2 c m).1]
        exact c.av av (h2 c m).2.1
    · exact⟨_,e2,v,rfl,q.av av⟩
  · intro i j a f as c g cs hij e1
    rcases hok i _ e1 with ⟨z,_⟩|⟨z,_⟩|⟨_,_,z,_⟩|⟨_,_,z,_⟩<;>cases z
  · intro i j a f as c g cs hij e1
    rcases hok i _ e1 with ⟨z,_⟩|⟨z,_⟩|⟨_,_,z,_⟩|⟨_,_,z,_⟩<;>cases z
  · intro i j c s hij e1 e2 a m
    rcases hok j _ e2 with ⟨rfl,_⟩|⟨rfl,_⟩|⟨d,_,rfl,_⟩|⟨_,_,rfl,_⟩
    · exact λz=>by cases z
    · exact λz=>by cases z
    · exact h i j c d hij e1 e2 a m
    · exact λz=>by cases z
theorem Jf:∀{k:Nat} {pat:List Bool},∀i∈mQ k pat,k<=i
  |_,[],_,h=>by cases h
  | k, true :: r, i, h => by
    unfold mQ at h;rcases aM.mp h with z|z
    · omega
    · have:=Jf (k:=k+1) (pat:=r) i z;omega
  | k, false :: r, i, h => by
    unfold mQ at h;have:=Jf (k:=k+1) (pat:=r) i h;omega
theorem se:∀{k:Nat} {pat:List Bool},(mQ k pat).Nodup
 |_,[]=>by unfold mQ;exact .nil
 |k,true::r=>by unfold mQ;exact gf.mpr ⟨λz=>by have:=Jf _ z;omega,se⟩
 |k,false::r=>by unfold mQ;exact se
theorem Sv.ael(B:jY pat cs ds)(G:∀cs' f d v H',Φ cs' f d->qM none cs cs' H H'->(∀c∈cs',c.P (λa=>nb a\/a∈FF cs') H')->af (λa=>nb a\/a∈FF cs'\/(f=true/\H a≠none)) H' d v->Q v H')(hw:gZ nb H/\(∀c∈cs,c.f=false/\c.P nb H/\∀a∈c.F,nb a)/\(cs.Pairwise λc d=>∀a∈c.F,a∉d.F)/\ah nb H ds ws)
  (y:ρ=gm pat cs ds++au (N.length-pat.length) .no) (h:Sv (ki none cs H nb) ρ t (QA (ki none cs H nb) (mQ 0 pat) cs Φ)):t {nx:=λ_ H'=>Q .aN H',rt:=Q} (start N (jE pat (cs.map (·.v)) ws)) H:=by
 obtain⟨al,n⟩:=vd B hw.2.2.2;have rl:=Bt B;refine h (λa=>a∈FF cs) _ H _ (N4 (λ_ _ z=>by cases z) hw (by rw[y];unfold start;simp[al,rl]) (λi s e=>?_) λi j c d hij e1 e2=>?_) ⟨λaA L M H' ⟨c',e,up,p⟩ W=>?_,λ_ _ _ _ q _=>q.elim,λ_ _ _ _ q _=>q.elim,λ_ _ _ _ _ _ _ q _ _=>q.elim,λaA L M v H' ⟨c',f,d,e,up,p,hv⟩ W=>?_⟩
 .rw[y] at e;unfold start;by_cases hi:i<pat.length
  .rw[fO ∅] at e;obtain⟨v,e1,q⟩:=n i s e;have e3:(dj some (jE pat (cs.map (·.v)) ws)++au (N.length-(jE pat (cs.map (·.v)) ws).length) none)[i]?=some (some v):=by rw[fO (by rw[aj];omega),bu,e1];rfl
   rcases q with ⟨c,m,e2,e4⟩|⟨d,e2,q⟩
   .exact .inr (.inr (.inl ⟨c,m,e2,by rw[e3,e4]⟩))
   .exact .inr (.inr (.inr ⟨d,v,e2,e3,q⟩))
  .rw[fJ ∅,eY] at e;split at e
   .rename_i h'
    cases e;refine .inr (.inl ⟨rfl,none,?_⟩);rw[fJ (by rw[aj];omega),eY,aj,al,if_pos ∅]
   .cases e
 .rw[y] at e1 e2;have lo:∀{i:Nat} {c:Cu},(gm pat cs ds++au (N.length-pat.length) Sl.no)[i]?=some (.cu c)->(gm pat cs ds)[i]?=some (.cu c):=λ{i c} e=>by
   by_cases hi:i<pat.length;·rwa[fO ∅] at e
   .rw[fJ ∅,eY] at e;split at e<;>cases e
  rcases Gy hij with z|z
  .exact sY B hw.2.2.1 z (lo e1) (lo e2)
  .exact λa m q=>sY B hw.2.2.1 z (lo e2) (lo e1) a q m
 .obtain⟨a1,a2,C⟩:=zQ W se e up;exact G _ _ _ _ _ p a1 a2 .aN
 .obtain⟨a1,a2,C⟩:=zQ W se e up;exact G _ _ _ _ _ p a1 a2 (hv.av (C f))
theorem Sv.Nw(B:jY pat cs ds)(G:∀cs' f d v H',Φ cs' f d->qM (some (b,l)) cs cs' H H'->(∀c∈cs',c.P (λa=>nb a\/a∈FF cs') H')->af (λa=>nb a\/a∈FF cs'\/(f=true/\H a≠none)) H' d v->Q v H')(hb:dO H b l/\nb b/\(∀a∈FF cs,a≠b/\a≠l))(hw:gZ nb H/\(∀c∈cs,c.f=false/\c.P nb H/\∀a∈c.F,nb a)/\(cs.Pairwise λc d=>∀a∈c.F,a∉d.F)/\ah nb H ds ws)
    (y:ρ= .aq::gm pat cs ds++au (N.length-(pat.length+1)) .no) (h:Sv (ki (some (b,l)) cs H nb) ρ t (QA (ki (some (b,l)) cs H nb) (mQ 1 pat) cs Φ)):t {nx:=λ_ H'=>Q .aN H',rt:=Q} (start N (.ref b::jE pat (cs.map (·.v)) ws)) H:=by
  obtain⟨al,n⟩:=vd B hw.2.2.2;have rl:=Bt B;refine h (λa=>a∈FF cs) _ H _ (N4 (λb' w z=>by cases z;exact hb) hw (by rw[y];unfold start;simp[al,rl]) (λi s e=>?_) λi j c d hij e1 e2=>?_) ⟨λaA L M H' ⟨c',e,up,p⟩ W=>?_,λ_ _ _ _ q _=>q.elim,λ_ _ _ _ q _=>q.elim,λ_ _ _ _ _ _ _ q _ _=>q.elim,λaA L M v H' ⟨c',f,d,e,up,p,hv⟩ W=>?_⟩
  · rw[y] at e
    unfold start;cases i with
    |zero=>cases e;exact .inl ⟨rfl,b,l,rfl,rfl⟩
    | succ i =>
      simp only[lB,kN,bR,dM] at e⊢;by_cases hi:i<pat.length
      · rw[fO ∅] at e
        obtain⟨v,e1,q⟩:=n i s e;have e3:(dj some (jE pat (cs.map (·.v)) ws)++au (N.length-((jE pat (cs.map (·.v)) ws).length+1)) none)[i]?=some (some v):=by rw[fO (by rw[aj];omega),bu,e1];rfl
        rcases q with ⟨c,m,e2,e4⟩|⟨d,e2,q⟩
        · exact .inr (.inr (.inl ⟨c,m,e2,by rw[e3,e4]⟩))
        · exact .inr (.inr (.inr ⟨d,v,e2,e3,q⟩))
      · rw[fJ ∅,eY] at e
        split at e
        · rename_i h'
          cases e;refine .inr (.inl ⟨rfl,none,?_⟩);rw[fJ (by rw[aj];omega),eY,aj,al,if_pos ∅]
        · cases e
  · rw[y] at e1 e2
    have lo:∀{i:Nat} {c:Cu},(Sl.aq::gm pat cs ds++au (N.length-(pat.length+1)) Sl.no)[i]?=some (.cu c)->∃k,i=k+1/\(gm pat cs ds)[k]?=some (.cu c):=λ{i c} e=>by
      cases i with
      |zero=>cases e
      | succ i =>
        simp only[lB,kN] at e;by_cases hi:i<pat.length;· exact⟨i,rfl,by rwa[fO ∅] at e⟩
        · rw[fJ ∅,eY] at e
          split at e<;>cases e
    obtain⟨k,g,g1⟩:=lo e1;obtain⟨j',r,g2⟩:=lo e2;rcases Gy hij with z|z
    · exact sY B hw.2.2.1 (by omega:k<j') g1 g2
    · exact λa m q=>sY B hw.2.2.1 (by omega:j'<k) g2 g1 a q m
  · obtain⟨a1,a2,C⟩:=zQ W se e up
    exact G _ _ _ _ _ p a1 a2 .aN
  · obtain⟨a1,a2,C⟩:=zQ W se e up
    exact G _ _ _ _ _ p a1 a2 (hv.av (C f))
end
def iF(G:Gx)(ρ:Rh)(pat:List Bool)(tvs:List V)(ta:TA)(Θ:List PyData->Prop):Prop:=∀nb σ H (Q:List V->Hp->Prop),Wd G nb ρ σ H->(∀ds ws H',Θ ds->Step G.B H H'->ah (G.S nb false) H' ds ws->Q (jE pat tvs ws) H')->ta σ H Q
section
variable{G:Gx}{ρ:Rh}{Φ:Rh->Pd}{te:TE}{t:TA}{pat:List Bool}{tvs:List V}{Θ:List PyData->Prop}{i j:Nat}{c:Cu}{is:List Nat}{cs:List Cu}{F:MF}
theorem iF.nil(h:Θ []):iF G ρ [] [] bK Θ:=λnb σ H Q W z=>z [] [] H h (.refl W.aq) .nil
def iF.thing(e:ρ[j]?=some (.cu c))(h:iF G ρ pat tvs t Θ):iF G ρ (true::pat) (c.v::tvs) (aU (br j) t) Θ:=λnb σ H Q W z=>by
 obtain⟨x,e1,h1,_⟩:=W.ok j _ e;subst h1;exact⟨c.v,e1,h nb σ H _ W λds ws H1 p s q=>z ds ws H1 p s q⟩
def iF.data(h:Ev G ρ te λ_ d=>iF G ρ pat tvs t λds=>Θ (d::ds)):iF G ρ (false::pat) tvs (aU te t) Θ:=λnb σ H Q W z=>
 h nb σ H _ W λf v H1 d k s1 J=>k nb σ H1 _ (W.step s1) λds ws H2 p2 s2 M=>z (d::ds) (v::ws) H2 p2 (s1.trans s2) (.cons ((J.av (cg (λz=>by cases z) λ_ z=>z)).keep s2.c8) M)
def z3{B:Bg}{f:Bool}{v:V}{Q:VK}(W1:Wd G nb ρ σ H1)(nd:is.Nodup)(T:iw ρ is cs)(to:qM G.B cs cs' H1 H')(Z:∀c∈cs',c.P (λa=>G.S nb false a\/a∈FF cs') H')(hd:af (λa=>G.S nb false a\/a∈FF cs'\/(f=true/\H1 a≠none)) H' d v)(hp:Φ (jt ρ is cs') f d)
  (z:∀aA L f v H' d,Φ L f d->Wd G aA L σ H'->af (G.S aA f) H' d v->Q v H'):Q v H':=by
 refine z _ _ f v H' d hp (W1.setM nd T to λc m=>c.av (λa y=>?_) (Z c m)) (hd.av λa y=>?_)
 .rcases y with (y|y)|y|y|y
  .exact .inl (.inl y)
  .exact .inr y
  .exact .inl (.inr (.inl y))
  .exact .inl (.inr (.inr (.inl y)))
  .cases y.1
 .rcases y with (y|y)|y|y|y
  .exact .inl (.inl y)
  .exact .inr (.inl y)
  .exact .inl (.inr (.inl y))
  .exact .inl (.inr (.inr (.inl y)))
  .exact .inr (.inr ⟨y.1,W1.iG (f:=true) a (.inr (.inr (.inr ⟨rfl,y.2⟩)))⟩)
def D1(W1:Wd G nb ρ σ H1)(nd:is.Nodup)(T:iw ρ is cs)(hf:∀c∈cs,c.f=false):(∀c∈cs,c.f=false/\c.P (G.S nb false) H1/\∀a∈c.F,G.S nb false a)/\(cs.Pairwise λc d=>∀a∈c.F,a∉d.F)/\∀a∈FF cs,nb a/\NB G.B a:=by
 have slot:∀c∈cs,∃i:Nat,ρ[i]?=some (Sl.cu c):=λc m=>by
  obtain⟨k,hk⟩:=iW m;have hl:=(bH.mp hk).1;have hi:=aL (l:=is) (i:=k) (by rw[T.len];exact hl);exact⟨_,T.at hi hk⟩
 refine⟨λc m=>?_,T.pw W1 nd,λa m=>?_⟩
 .obtain⟨i,e⟩:=slot c m;obtain⟨A,e1,g1,g2,X⟩:=W1.ok i _ e;exact⟨hf c m,by rw[hf c m] at X;exact X,λa ha=> .inl (g2 a ha).1⟩
 .obtain⟨c,hc,ha⟩:=l5.mp m;obtain⟨i,e⟩:=slot c hc;obtain⟨A,e1,g1,g2,X⟩:=W1.ok i _ e;exact g2 a ha
def VQ{ws:List V}(h:jY pat cs ds)(hd:ah nb H ds ws):(jE pat (cs.map (·.v)) ws).length=pat.length:=(vd h hd).1
def bz.Qa(is:List Nat)(cs:List Cu)(hm:Uh F)(nd:is.Nodup)(T:iw ρ is cs)(hf:∀c∈cs,c.f=false)(h:iF G ρ pat (cs.map (·.v)) t λds=>jY pat cs ds/\F cs ds λcs' f d=>Φ (jt ρ is cs') f d):bz G ρ (jh (CO pat F) [] E0 t) Φ:=λnb σ H Q W z=>
 h nb σ H _ W λds ws H1 ⟨fit,p⟩ s1 J=>by
  have W1:=W.step s1;obtain⟨g1,g2,X⟩:=D1 W1 nd T hf;rw[ic];refine⟨VQ fit J,G.S nb false,cs,ws,ds,rfl,fit,W1.iG,g1,g2,J,hm _ _ _ _ p λcs' f d hp v H' to Z hd=>?_⟩;refine z3 (B:=none) W1 nd T ⟨to.up,to.new,to.ap,λa o n _ q=>to.kp a o n (λ_ _ z=>by cases z) q,λb l e=>?_,to.lv⟩ Z hd hp z;obtain⟨ns,E,c0,st,n,u,s,j⟩:=W1.aq b l e;have hx:∀x,(x=b\/x=l)->x∉FF cs:=λx hx m=>by
   obtain⟨k1,k2⟩:=X x m;obtain⟨_,_,_,_,_,J,M,_⟩:=W1.gB b l e;have:=W1.cJ x k1 k2;rcases hx with rfl|rfl
   .rw[J] at this;cases this
   .rw[M] at this;cases this
  exact⟨ns,E,c0,st,n,to.kp _ _ (hx b (.inl rfl)) (λ_ _ z=>by cases z) u,to.kp _ _ (hx l (.inr rfl)) (λ_ _ z=>by cases z) s,j⟩
end
inductive fR where
 |lt (a b:Int)|ck (prs:aB) (r:Int)
noncomputable abbrev aZ:=List (Int×fR)
noncomputable def B9(q:Int×fR):Option (Int×PyData):=match q.2 with
 | .lt a b=>some (q.1, .tuple [.int a, .int b])
 | .ck _ _=>none
noncomputable def yN(q:Int×fR):Option (Int×PyData):=match q.2 with
 | .lt _ _=>none
 | .ck prs r=>some (q.1, .tuple [cy prs, .int r])
noncomputable def xp(ds:aZ):Ks:=ds.filterMap B9
noncomputable def bO(ds:aZ):Ks:=ds.filterMap yN
def Lo(p n:Int):fR->Prop
 | .lt a b=>0<=a/\a<n/\0<=b/\b<p
 | .ck prs r=>rY p n prs/\0<=r/\r<p
structure bD(p n many:Int)(ds:aZ):Prop where
 rise:(ds.map (·.1)).Pairwise (· < ·)
 rg:∀q∈ds,0<=q.1/\q.1<many
 ok:∀q∈ds,Lo p n q.2
 len:ds.length<=63
def FO{q:Int×fR}{r:Int×PyData}(h:B9 q=some r):r.1=q.1/\∃a b,q.2= .lt a b/\r.2= .tuple [.int a, .int b]:=by
 obtain⟨k,d⟩:=q;cases d with
 |lt a b=>cases h;exact⟨rfl,a,b,rfl,rfl⟩
 |ck _ _=>cases h
def KD{q:Int×fR}{r:Int×PyData}(h:yN q=some r):r.1=q.1/\∃prs x,q.2= .ck prs x/\r.2= .tuple [cy prs, .int x]:=by
 obtain⟨k,d⟩:=q;cases d with
 |lt _ _=>cases h
 |ck prs x=>cases h;exact⟨rfl,prs,x,rfl,rfl⟩
def HW{ds:aZ}{k:Int}:(k,d)∈xp ds↔∃a b,(k,fR.lt a b)∈ds/\d= .tuple [.int a, .int b]:=by
  unfold xp;rw[qz];constructor
  · rintro⟨q,hq,e⟩
    obtain⟨e1,a,b,e2,e3⟩:=FO e
    exact ⟨a, b, by have : q = (k, .lt a b) := Prod.ext e1.symm e2
                    rwa[<-this],e3⟩
  · rintro⟨a,b,h,rfl⟩
    exact⟨_,h,rfl⟩
def EB{ds:aZ}{k:Int}:(k,d)∈bO ds↔∃prs r,(k,fR.ck prs r)∈ds/\d= .tuple [cy prs, .int r]:=by
  unfold bO;rw[qz];constructor
  · rintro⟨q,hq,e⟩
    obtain⟨e1,a,b,e2,e3⟩:=KD e
    exact ⟨a, b, by have : q = (k, .ck a b) := Prod.ext e1.symm e2
                    rwa[<-this],e3⟩
  · rintro⟨a,b,h,rfl⟩
    exact⟨_,h,rfl⟩
def Mt{ks:Ks}{k:Int}:dh ks k=true↔∃d,(k,d)∈ks:=by
 rw[ko,cM];constructor;·rintro⟨⟨t,d⟩,h,rfl⟩;exact⟨d,h⟩
 .rintro⟨d,h⟩;exact⟨_,h,rfl⟩
def Ax{ds:aZ}{k:Int}:dh (xp ds) k=true↔∃a b,(k,fR.lt a b)∈ds:=by
 rw[Mt];exact⟨λ⟨d,h⟩=>by obtain⟨a,b,h,_⟩:=HW.mp h;exact⟨a,b,h⟩,λ⟨a,b,h⟩=>⟨_,HW.mpr ⟨a,b,h,rfl⟩⟩⟩
def AZ{ds:aZ}{k:Int}:dh (bO ds) k=true↔∃prs r,(k,fR.ck prs r)∈ds:=by
 rw[Mt];exact⟨λ⟨d,h⟩=>by obtain⟨a,b,h,_⟩:=EB.mp h;exact⟨a,b,h⟩,λ⟨a,b,h⟩=>⟨_,EB.mpr ⟨a,b,h,rfl⟩⟩⟩
def vP{ks:Ks}{k:Int}(h:dh ks k≠true):eH ks k d=ks++[(k,d)]:=by unfold eH;rw[if_neg h]
def Az{ds:aZ}(h:(ds.map (·.1)).Pairwise (· < ·)):∀{k:Int} {d e:fR},(k,d)∈ds->(k,e)∈ds->d=e:=by
  induction ds with
  |nil=>intro k d e h;cases h
  | cons q r ih =>
    intro k d e h1 h2;rw[bR] at h;obtain⟨h3,h4⟩:=oh.mp h;rcases aM.mp h1 with e1|e1<;>rcases aM.mp h2 with e2|e2
    · rw[<-e1] at e2;cases e2;rfl
    · have:=h3 k (cM.mpr ⟨_,e2,rfl⟩)
      rw[<-e1] at this;exact absurd this (yg _)
    · have:=h3 k (cM.mpr ⟨_,e1,rfl⟩)
      rw[<-e2] at this;exact absurd this (yg _)
    · exact ih h4 e1 e2
def wK{ks:Ks}{k:Int}(h:(ks.map (·.1)).Nodup)(m:(k,d)∈ks):bJ ks k=some d:=by
  induction ks with
  |nil=>cases m
  | cons q r ih =>
    rw[bR] at h;obtain⟨h1,h2⟩:=gf.mp h;rw[pY];rcases aM.mp m with e|e
    · rw[<-e];exact if_pos rfl
    · rw[if_neg λz=>h1 (cM.mpr ⟨_,e,z.symm⟩)]
      exact ih h2 e
def Qv(ds:aZ):((xp ds).map (·.1)).Sublist (ds.map (·.1)):=by
  induction ds with
  |nil=>exact .slnil
  | cons q r ih =>
    unfold xp at ih⊢;rw[lF];split;· exact ih.cons _
    · rename_i e
      rw[bR,bR,(FO e).1];exact ih.cons₂ _
def NV(ds:aZ):((bO ds).map (·.1)).Sublist (ds.map (·.1)):=by
  induction ds with
  |nil=>exact .slnil
  | cons q r ih =>
    unfold bO at ih⊢;rw[lF];split;· exact ih.cons _
    · rename_i e
      rw[bR,bR,(KD e).1];exact ih.cons₂ _
section
variable{p n many:Int}{ds:aZ}
def bD.nd(h:bD p n many ds):(ds.map (·.1)).Nodup:=h.rise.imp λz=>Gk z
def bD.NM(h:bD p n many ds){k a b:Int}(m:(k,fR.lt a b)∈ds):bJ (xp ds) k=some (.tuple [.int a, .int b]):=wK (h.nd.sublist (Qv ds)) (HW.mpr ⟨a,b,m,rfl⟩)
def bD.F8(h:bD p n many ds){k r:Int}{prs:aB}(m:(k,fR.ck prs r)∈ds):bJ (bO ds) k=some (.tuple [cy prs, .int r]):=wK (h.nd.sublist (NV ds)) (EB.mpr ⟨prs,r,m,rfl⟩)
def bD.acJ(h:bD p n many ds):dh (xp ds) many≠true:=λz=>by
 obtain⟨a,b,m⟩:=Ax.mp z;exact absurd (h.rg _ m).2 (yg _)
def bD.GJ(h:bD p n many ds):dh (bO ds) many≠true:=λz=>by
 obtain⟨a,b,m⟩:=AZ.mp z;exact absurd (h.rg _ m).2 (yg _)
def bD.W6(h:bD p n many ds)(a b:Int):eH (xp ds) many (.tuple [.int a, .int b])=xp (ds++[(many, .lt a b)])/\bO (ds++[(many, .lt a b)])=bO ds:=by
 rw[vP h.acJ];unfold xp bO;rw[vU,vU];exact⟨rfl,ic _⟩
def bD.YV(h:bD p n many ds)(prs:aB)(r:Int):eH (bO ds) many (.tuple [cy prs, .int r])=bO (ds++[(many, .ck prs r)])/\xp (ds++[(many, .ck prs r)])=xp ds:=by
 rw[vP h.GJ];unfold xp bO;rw[vU,vU];exact⟨rfl,ic _⟩
theorem bD.snoc(h:bD p n many ds)(h0:0<=many){d:fR}(hd:Lo p n d)(hl:ds.length<63):bD p n (many+1) (ds++[(many,d)]):=by
 refine⟨?_,λq m=>?_,λq m=>?_,by rw[cP,kc];omega⟩
 .rw[cX];refine Fb.mpr ⟨h.rise,by simp,λx hx y hy=>?_⟩;obtain⟨q,hq,rfl⟩:=cM.mp hx;have:y=many:=by simpa using hy
  rw[this];exact(h.rg q hq).2
 .rcases fN.mp m with m|m
  .have:=h.rg q m;omega
  .rw[aF.mp m];exact⟨h0,by show many<many+1;omega⟩
 .rcases fN.mp m with m|m
  .exact h.ok q m
  .rw[aF.mp m];exact hd
noncomputable def jC(ds:aZ)(k:Int):aZ:=ds.filter λq=>decide (q.1≠k)
def MB(g:Int×fR->Option (Int×PyData))(hg:∀q r,g q=some r->r.1=q.1)(ds:aZ)(k:Int):jz (ds.filterMap g) k=(jC ds k).filterMap g:=by
  induction ds with
  |nil=>rfl
  | cons q r ih =>
    cases e:g q with
    | none =>
      rw[Nr e,ih];unfold jC;by_cases hk:q.1=k;· rw[pW (by simpa using hk)]
      · rw[qD (by simpa using hk),Nr e]
    | some x =>
      rw[DI e];unfold jC jz at ih⊢;by_cases hk:q.1=k
      · rw[pW (by rw[hg q x e];simpa using hk),pW (by simpa using hk)]
        exact ih
      · rw[qD (by rw[hg q x e];simpa using hk),qD (by simpa using hk),DI e]
        exact congrArg _ ih
def NW(ds:aZ)(k:Int):jz (xp ds) k=xp (jC ds k):=MB B9 (λ_ _ h=>(FO h).1) ds k
def OX(ds:aZ)(k:Int):jz (bO ds) k=bO (jC ds k):=MB yN (λ_ _ h=>(KD h).1) ds k
def Va{ks:Ks}{k:Int}(h:dh ks k≠true):jz ks k=ks:=by
 unfold jz;refine KR.mpr λq m=>decide_eq_true λz=>h ?_;rw[ko];exact cM.mpr ⟨q,m,z⟩
def bD.out(h:bD p n many ds)(k:Int):bD p n many (jC ds k):=
 ⟨h.rise.sublist ((Od).map _),λq m=>h.rg q (iN.mp m).1,λq m=>h.ok q (iN.mp m).1,cU (yk ..) h.len⟩
def bD.ZM(h:bD p n many ds){k a b:Int}(m:(k,fR.lt a b)∈ds):jz (xp ds) k=xp (jC ds k)/\bO (jC ds k)=bO ds:=by
 refine⟨NW ds k,?_⟩;rw[<-OX];refine Va λz=>?_;obtain⟨prs,r,R⟩:=AZ.mp z;cases Az h.rise m R
def bD.Vt(h:bD p n many ds){k r:Int}{prs:aB}(m:(k,fR.ck prs r)∈ds):jz (bO ds) k=bO (jC ds k)/\xp (jC ds k)=xp ds:=by
 refine⟨OX ds k,?_⟩;rw[<-NW];refine Va λz=>?_;obtain⟨a,b,R⟩:=Ax.mp z;cases Az h.rise m R
end
structure Pc where
 wd:Wo
 wh:Int->Option PyData
noncomputable def kB(k:Int):PyData:= .tuple [.str "letter", .int k]
noncomputable def i6(k t:Int):PyData:= .tuple [.str "check", .int k, .int t]
noncomputable def fK(ds:aZ)(a:Int):Option (Int×Int):=ds.findSome? λq=>match q.2 with
 | .lt a' b=>if a'=a then some (q.1,b) else none
 | .ck _ _=>none
noncomputable def fS(p:Int)(ds:aZ)(wd:Wo)(a:Int):Option (Int×Int):=ds.findSome? λq=>match q.2 with
  | .lt _ _=>none
  | .ck prs r => match cQ p prs r wd with
    |some (a',x)=>if a'=a then some (q.1,x) else none
    |none=>none
noncomputable def ir(n:Int)(ds:aZ):Pc where
 wd:=(a4 n.toNat).map λ(i:Nat)=>(fK ds i).map (·.2)
 wh:=λa=>if 0<=a/\a<n then(fK ds a).map λx=>kB x.1 else none
noncomputable def j7(p:Int)(ds:aZ)(t:Int)(c:Pc):Pc where
 wd:=(a4 c.wd.length).map λ(i:Nat)=>match c.wd[i]? with
  |some (some x)=>some x
  |_=>(fS p ds c.wd i).map (·.2)
 wh:=λa=>match c.wh a with
  |some w=>some w
  |none=>if 0<=a/\a<c.wd.length then(fS p ds c.wd a).map λx=>i6 x.1 t else none
noncomputable def bG(p n:Int)(ds:aZ):Nat->Pc
 |0=>ir n ds
 |t+1=>j7 p ds ((t:Int)+1) (bG p n ds t)
noncomputable def jg(p n:Int)(ds:aZ):Pc:=bG p n ds (n.toNat+1)
def sr(p n:Int)(ds:aZ)(d:PyData):Prop:=∃W:Ks,d= .tuple [fL (jg p n ds).wd, .dict (W.map aH)]/\∀a,bJ W a=(jg p n ds).wh a
def LastOk(p n:Int)(ds:aZ)(d:PyData):Prop:=d= .none\/sr p n ds d
noncomputable abbrev jD(p n:Int)(a b:ar)(ds:aZ)(many:Int)(last:PyData):Fs:=[("p", .d (.int p)),("n", .d (.int n)),("letter_deeds", .cu (dI a (xp ds))),("check_deeds", .cu (dI b (bO ds))),("many", .d (.int many)),("last", .d last)]
noncomputable abbrev dY(C x dx a b:ar)(p n:Int)(ds:aZ)(many:Int)(last:PyData):Cu:=aC C x dx (jD p n a b ds many last)
noncomputable def tY:Option PyData->PyData
 |none=> .none
 |some d=>d
noncomputable abbrev QR(d:PyData)(l:List Str):PyData:= .tuple [d, .list (l.map .str)]
structure aib(L:UN)(o o1 o2:ar)(m:Int)(ns gs:List Int):Prop where
 nd:[o,o1,o2].Nodup
 h0:L.lookup o=some (.lst [.dat (.int m), .own o1, .own o2])
 h1:L.lookup o1=some (.lst (ns.map λn=> .dat (.int n)))
 h2:L.lookup o2=some (.lst (gs.map λn=> .dat (.int n)))
def Np:R2:=λx y H Q=>∃a b ps,x= .ref a/\y= .ref b/\Rd H a (.dK ps)/\Rd H b (.dK [])/\Q (.bl (!ps.isEmpty)) H
theorem LO(Y:X.A.units+64<tj):fu X (da .NotEq) Np:=by
  intro pins s σ H x y v u Q I rx ry h;obtain⟨a,b,ps,rfl,rfl,ha,hb,q⟩:=h;cases (show v=cc a from rx);cases (show u=cc b from ry);obtain⟨l,hd1,vs,D,n⟩:=nU I.hok ha;obtain⟨z2,hd2,us,k,c⟩:=nU I.hok hb;have j:us=[]:=by have:=k.length;simpa using this.symm
  subst j;show wpAny _ _ (richCompare .NotEq (.ref a) (.ref b)) _ _ _;refine wpAny_richCompare_same_room (T:="dict") (id:="dict.__ne__") n.typeIs c.typeIs OQ ?_ ∅;refine cv OQ n.typeIs PySem.F.entry_dict_ne ?_ (PySem.F.args_dict_ne_2 _ _);have e:eP "__ne__" ⟨[.ref a, .ref b],[]⟩=pure (.ref a, .ref b):=by
    unfold eP
    rfl
  unfold g8.«dict.__ne__»;refine ae (m:=eP "__ne__" _) ?_;rw[e];refine a3 ?_;refine ae (ia (T:="dict") (U:="dict") (b:=true) c.typeIs (by rfl) ?_);refine ae (m:=jv (.ref a)) (a3 ?_);refine ae (m:=jv (.ref b)) (a3 ?_);obtain⟨oa,es,ep,z,xa,g,ka,i,na⟩:=n;obtain⟨B,fs,eq,E,xb,db,kb,C,nb⟩:=c;have r:fs.size=0:=by have:=C.length;rw[mj] at this;simpa using this
  have o:es.size=ps.length:=by have:=i.length;rw[mj] at this;rw[this];exact D.length.symm
  have key:∀{d:Bool->aw->Prop} {t:ag->aw->Prop} {M:Model} {w:c4},d ps.isEmpty s->wpAny M w (ij "dict.__ne__" a b) d t s:=λ{d t M w} hq=>by
    unfold ij;refine ae (m:=dk a) ?_;rw[show dk a=pure () by unfold dk;rw[if_neg (by rw[hd1];decide)]];refine a3 ?_;refine ae (m:=dk b) ?_;rw[show dk b=pure () by unfold dk;rw[if_neg (by rw[hd2];decide)]];refine a3 ?_;refine ae (ml z g ?_);refine ae (ml E db ?_);rw[r,o];cases ps with
    | nil =>
      rw[if_neg ⋯];refine ae (wpAny_dictEpoch z g ?_);have O:∀(f:Nat->Option Bool×Unit->Sem (ForInStep (Option Bool×Unit))),forIn [:([]:List (Key×V)).length] ((none,()):Option Bool×Unit) f=pure (none,()):=λf=>by
        rw[show[:([]:List (Key×V)).length]=[:0] from rfl];simp
      rw[O];exact ae (a3 (a3 hq))
    | cons p ps =>
      rw[if_pos (by simp)];exact ae (m:=rule _) (l3 (a3 hq))
  refine ae (key ?_);refine a3 ⟨_,rfl,by simp, .bl _,H,I,rfl,?_⟩;rw[show(ps.isEmpty==false)=!ps.isEmpty by cases ps<;>rfl];exact q
section
variable{G:Gx}{ρ dg:Rh}{ta te:TE}{gt:TG}{K:PySem.W.Frag}{Θ:Bool->List PyData->Prop}{tc:TT}{mp:List (Option Nat)}
theorem aD.ahe{k:ar->Prop}{t:TE}(hm:(mp.filterMap id).Nodup)(y:oS mp ρ=dg)(C:∀f c v,(f,HD.th c,v)∈G.hold->∀S H b ps,c.P S H->b∈c.F->¬Rd H b (.dK ps))
  (h:Ev G ρ t λfi x=>∃ks:Ks,x= .dict (ks.map aH)/\ks.length<=10000/\∀G':Gx,(∀x∈G.hold,x∈G'.hold)->jH G' dg ks.length (λi d=>∃p,ks[i]?=some p/\d= .int p.1) fi gt tc te Θ):aD G ρ (Kz k (mR (zk k t) gt tc te mp)) Θ:=λnb σ H Q W z=>by
 unfold Kz mR zk;refine h nb σ H _ W λfi v H1 x ⟨ks,ex,hn,q⟩ s1 hv=>?_;subst ex;have W1:=W.step s1;have hv0:=hv;unfold af at hv;obtain⟨a,ps,rfl,n,hp,hd⟩:=hv;have hlen:ps.length=ks.length:=by have:=congrArg eQ (ao.keys hd);simpa using this
 have N:¬G.S nb false a:=λz=>n (cg (λw=>by cases w) (λ_ w=>w) a z);have hN:NB G.B a:=jl λz=>N (.inr (.inr (.inl z)));have s2:Step G.B H1 H1:= .refl W1.aq;have W2:=W1;have hv2:=hv0;have hp2:=hp;generalize X:H1=H2 at s1 s2 W1 W2 hv2 hp2 hv0 hp hd;have yl:∀{G':Gx} {o:Obj} {nb ρ σ H i x H'},Wd (G'.hd fi (.dict (ks.map aH)) (.ref a)) nb ρ σ H->H a=some (.cC o (.dK ps))->i<ks.length->(qm a o ps).nO i H x H'->∃d,(∃p,ks[i]?=some p/\d= .int p.1)/\Step (G'.hd fi (.dict (ks.map aH)) (.ref a)).B H H'/\af ((G'.hd fi (.dict (ks.map aH)) (.ref a)).S nb fi) H' d x:=λ{G' o nb ρ σ H i x H'} W ha hi hy=>by
  obtain⟨rfl,r,hr,rfl⟩:=hy;obtain⟨a',T,e',l,s,hd'⟩:=(show af (G'.S nb fi) H' (.dict (ks.map aH)) (.ref a) from W.jF.2)|>λh=>by unfold af at h;exact h
  cases e';have U:T=ps:=by
   rcases s with s|⟨o',s⟩
   .rw[ha] at s;cases s
   .rw[ha] at s;cases s;rfl
  subst U;obtain⟨v,hv,O⟩:=ao.at hd' (aL hi);rw[hr] at hv;cases hv;exact⟨_,⟨_,aL hi,rfl⟩, .refl W.aq, .int _⟩
 refine⟨a,ps,rfl,?_⟩;rcases hp2 with hp2|⟨o,hp2⟩
 .refine .inl ⟨hp2,λo J acc g=>?_⟩;have A:∀u,G.H0 a=some u->u= .dK ps:=λu e=>by have:=W2.old a u hN e;rw[hp2] at this;exact(gz this).symm
  have hF:∀f o' j v,(f,HD.fz o' j,v)∈G.hold->v≠ .ref a:=λf o' j v m e=>by
   obtain⟨c,e1,_,e3⟩:=(show fh (G.S nb f) H2 (.fz o' j) v from W2.dw _ m);rw[e1] at e;cases e
   rw[hp2] at e3;cases e3
  have hT:∀f c v,(f,HD.th c,v)∈G.hold->a∉c.F:=λf c v m z=>C f c v m _ _ _ _ (show fh _ H2 (.th c) v from W2.dw _ m).2.2 z (.inl hp2);have mv:=Mv.cC (o:=o) hp2;have W3:=(W2.freeze (o:=o) hp2 N hT).hd (f:=fi) (d:= .dict (ks.map aH)) (v:= .ref a) ((af.mv mv hv2).av λb z=>Gx.sF.mp z);have D:Wd ((G.fz a o ps).hd fi (.dict (ks.map aH)) (.ref a)) nb dg (iY mp σ) (upd H2 a (.cC o (.dK ps))):=by rw[<-y];exact W3.iY hm
  have V:acc≠a:=λe=>by subst e;rw[aV] at g;cases g
  refine Pn (G':=(G.fz a o ps).hd fi (.dict (ks.map aH)) (.ref a)) (n:=ks.length) (λi H h hi=>⟨h,∅⟩) (λH h=>⟨h,hlen⟩) hn (λW=>(W.jF.1.l6 A hF hT).2) (λW hi hy=>yl (G':=G.fz a o ps) W (W.jF.1.l6 A hF hT).2 hi hy) D g (q _ λx m=>bV _ (bV _ m)) λM H' ds xs fl W' st hx I L=>?_;obtain⟨E,hz⟩:=W'.jF.1.l6 A hF hT;refine .inr ⟨a,o,ps,hz,J,?_⟩;have R:H2 acc=none:=by rw[aG V] at g;exact g
  have o9:Step G.B H2 (upd H' a (.dK ps)):=⟨λb u K e=>by
   by_cases hb:b=a
   .subst hb;rw[hp2] at e;cases e
    exact aV
   .rw[aG hb];exact st.1 b u K (by rw[aG hb];exact e),E.aq⟩
  refine B7 W (s1.trans s2) R o9 (by rw[aG V];exact hx) ((ah.mv (Mv.l6 hz) I).av λb z=>?_) L z;exact Gx.sF.mpr z
 .refine .inr ⟨o,hp2,λacc g=>?_⟩;have W3:=(W2.hz N hp2).hd (f:=fi) (d:= .dict (ks.map aH)) (v:= .ref a) hv2;have D:Wd ((G.hz a o ps).hd fi (.dict (ks.map aH)) (.ref a)) nb dg (iY mp σ) H2:=by rw[<-y];exact W3.iY hm
  refine Pn (G':=(G.hz a o ps).hd fi (.dict (ks.map aH)) (.ref a)) (n:=ks.length) (λi H h hi=>⟨h,∅⟩) (λH h=>⟨h,hlen⟩) hn (λW=>W.jF.1.wI.2) (λW hi hy=>yl (G':=G.hz a o ps) W W.jF.1.wI.2 hi hy) D g (q _ λx m=>bV _ (bV _ m)) λM H' ds xs fl W' st hx I L=>?_;exact .inl (B7 W (s1.trans s2) g st hx I L z)
end
def Om:V->List V->Hp->VK->Prop:=λx vs H Q=>∃a kvs k,x= .ref a/\vs=[kV k]/\Rd H a (.dK kvs)/\Q ((iD kvs k).getD .aN) H
def x7:IB X "dict.get" Om:=by
 intro pins s σ H x xs v us Q I rx rv h;obtain⟨a,kvs,k,rfl,rfl,p,q⟩:=h;cases rx;obtain⟨u,rfl,g⟩:=vals1 rv;obtain⟨z,hd,vs,rel,dd⟩:=nU I.hok p;refine m3 Rc dd.typeIs PySem.F.entry_dict_get (PySem.F.args_dict_get_2 _ _) (meets_dict_get (iy X.prog X.w) a (nY g) hd) ⟨_,dd.mapOf,?_⟩;exact⟨_,H,I.tok _,(rel.val k).getD (show RelV .aN .none from rfl),q⟩
section
variable{G:Gx}{ρ:Rh}{Φ:Pd}{ta te:TE}{t:TA}
def Ev.neE(h:Ev G ρ ta λ_ d=>∃ks:Ks,d= .dict (ks.map aH)/\Φ true (.bool (!ks.isEmpty))):Ev G ρ (er Np ta vm) Φ:=λnb σ H Q W z=>by
  refine h nb σ H _ W λf v H1 x ⟨ks,ex,q⟩ s1 hv=>?_;subst ex;unfold af at hv;obtain⟨a,ps,rfl,n,hp,hd⟩:=hv;intro p hpn;have b:a≠p:=λe=>by
    subst e;rcases hp with hp|⟨o,hp⟩<;>rw[hpn] at hp<;>cases hp
  have hlen:ps.length=ks.length:=by have:=congrArg eQ (ao.keys hd);simpa using this
  have W1:=W.step s1;refine⟨a,p,ps,rfl,rfl,?_, .inl aV,?_⟩
  · rcases hp with hp|⟨o,hp⟩
    · exact .inl (by rw[aG b];exact hp)
    · exact .inr ⟨o,by rw[aG b];exact hp⟩
  · have e:ps.isEmpty=ks.isEmpty:=by
      cases ps with
      | nil => cases ks with
        |nil=>rfl
        |cons=>simp at hlen
      | cons => cases ks with
        |nil=>simp at hlen
        |cons=>rfl
    rw[e];exact z true _ _ _ q (s1.trans (.same W1.aq (dU hpn))) (.bl _)
end
section
variable{G:Gx}{ρ:Rh}{Φ:Pd}{ta tb te:TE}{t:TA}{i j:Nat}{E:DE}{C x dx:ar}{fs:Fs}{K:PySem.W.Frag}{f m:Str}{d:PyData}
theorem Wd.Gc{c:Cu}{vs:List (Str×V)}(W:Wd G nb ρ σ H)(s1:Step G.B H H1)(e:ρ[i]?=some (.cu (aC C x dx fs)))(hl:fs.lookup f=none)(hlen:fs.length<900)(hnd:c.F.Nodup)(u:∀a∈c.F,H a=none)(h:∀a∈c.F,H1 a≠none)
  (Z:c.P (λa=>G.S nb false a\/a∈c.F) H1) (p:H1 x=some (.ins C dx vs)):Wd G (λa=>(nb a\/a∈c.F)\/a∈bW x dx (fs++[(f, .cu c)])) (ρ.set i (.cu (aC C x dx (fs++[(f, .cu c)])))) σ (upd H1 x (.ins C dx (gQ f c.v vs))):=by
 have M:∀a∈c.F,H a=none:=u;obtain⟨Q,O,J,_⟩:=W.kP e;have iR:∀l∈c.F,l∉bW x dx fs:=λl T z=>W.live l (J l z).1 (u l T);obtain⟨W1,L,K⟩:=W.JI s1 M h;obtain⟨I,e1,h2,n,h3,len,D,r⟩:=W1.kP e;rw[p] at D;cases D;have hn:=n;unfold bW at hn;obtain⟨n1,n2⟩:=gf.mp hn;have k:dx≠x:=λz=>n1 (by rw[z];exact bZ ..);have hx:x∉fs.flatMap λg=>g.2.adr:=λz=>n1 (bV _ z);have A:x∉c.F:=λz=>iR x z (by simp[bW]);have E:x∈bW x dx fs:=by simp[bW]
 have t:bW x dx (fs++[(f, .cu c)])=bW x dx fs++c.F:=by
  unfold bW;rw[GU];show _::_::(_++(c.F++[]))=_;rw[ic]
  rfl
 have N:∀{a},G.S (λy=>(nb y\/y∈c.F)\/y∈bW x dx (fs++[(f, .cu c)])) false a->G.S (λy=>nb y\/y∈c.F) false a:=λ{a} z=>by
  rcases z with (z|z)|z|z|z
  .exact .inl z
  .rw[t,fN] at z;rcases z with z|z
   .exact .inl (h2 a z).1
   .exact .inl (.inr z)
  .exact .inr (.inl z)
  .exact .inr (.inr (.inl z))
  .exact .inr (.inr (.inr z))
 refine W1.yo (c:=aC C x dx fs) (c':=aC C x dx (fs++[(f, .cu c)])) e (λa o na q=>?_) rfl (λa m=>?_) (λa m=>?_) ?_;·rw[aG (λz=>na (by rw[z];exact E))];exact q
 .rw[show(aC C x dx (fs++[(f, .cu c)])).F=bW x dx fs++c.F from t,fN] at m;rcases m with m|m
  .exact .inl m
  .refine .inr (.inr ⟨.inr m,L a m,λj s hs z=>?_⟩);obtain⟨y,_,q⟩:=W.ok j s hs;exact W.live a (q.yr a z).1 (u a m)
 .by_cases z:a=x;·rw[z,aV];exact gx _
  .rw[aG z];rcases m with m|m
   .exact W1.live a (h2 a m).1
   .rw[show(aC C x dx (fs++[(f, .cu c)])).F=bW x dx fs++c.F from t,fN] at m;rcases m with m|m
    .exact W1.live a (h2 a m).1
    .exact h a m
 .refine⟨?_,by rw[aG k];exact h3,by rw[cP,kc];omega,_,aV,?_⟩
  .rw[t,mF];exact⟨n,hnd,λa m b R z=>iR b R (by rw[<-z];exact m)⟩
  .have w:G.S (λy=>nb y\/y∈c.F) false x:= .inl (h2 x E).1;have:=cV.FT (f:=f) (fl:= .cu c) (v:=c.v) (o:= .ins C dx (gQ f c.v vs)) w ⟨rfl,c.keep (S:=G.S (λy=>nb y\/y∈c.F) false) (.of λa o m q=>?_) (c.av (λa z=>?_) Z)⟩ hx r
   .rw[xQ hl] at this;exact this.map (λd v z=>z.av λa=>N) λg m c' e z=>c'.av (λa=>N) z
   .rw[aG];·exact q
    .rintro rfl;rcases m with m|m
     .exact m w
     .exact A m
   .rcases K false a z with z|z
    .exact .inl z
    .exact .inr z
noncomputable def kL(a0:ar)(bs:List ar)(rs:List (List Int)):Cu where
 v:= .ref a0
 F:=a0::bs
 f:=false
 P:=λ_ H=>H a0=some (.lst (bs.map .ref))/\bs.length=rs.length/\∀(i:Nat) b r,bs[i]?=some b->rs[i]?=some r->H b=some (.lst (r.map V.int))
 keep:=λk ⟨h1,h2,h3⟩=>⟨k.own _ bZ _ h1,h2,λi b r e1 e2=>k.own _ (bV _ (cS e1)) _ (h3 i b r e1 e2)⟩
 av:=λ_ h=>h
 fresh:=λ_ h=>h
theorem Sv.adu(e:ρ[i]?=some (.cu (aC C x dx fs)))(cl:cD K C)(na:bf K C f)(hl:fs.lookup f=none)(hlen:fs.length<900)
  (h:Dv G ρ te λd=>∃rs:List (List Int),d=rs.map (·.map .int)/\∀a0 bs,bs.length=rs.length->E.nx (ρ.set i (.cu (aC C x dx (fs++[(f, .cu (kL a0 bs rs))]))))):Sv G ρ (rW K (br i) te f) E:=λnb σ H D W KK=>
 h nb σ H _ W λa0 bs d H1 ⟨rs,I,q⟩ s1 nd hn X h0 hr=>by
  subst I;rw[aj] at X;obtain⟨vs,e1,h2,n,h3,len,p,r⟩:=(W.step s1).kP e;have M:∀(i:Nat) b r,bs[i]?=some b->rs[i]?=some r->H1 b=some (.lst (r.map V.int)):=λi b r e1 e2=>by
   obtain⟨xs,g1,g2⟩:=hr i b (r.map .int) e1 (by rw[bu,e2];rfl);rw[g1,vO g2]
  refine⟨.ref x,e1,x,C,dx,vs,rfl,p,cl,na,by rw[r.len];omega,KK.nx _ _ _ _ (q a0 bs X) (W.Gc (c:=kL a0 bs rs) s1 e hl hlen nd hn (λa m=>?_) ⟨h0,X,M⟩ p)⟩;rcases aM.mp m with rfl|m
  .rw[h0];exact gx _
  .obtain⟨k,hk⟩:=iW m;have hlt:k<rs.length:=by rw[<-X];exact(bH.mp hk).1
   rw[M k a _ hk (aL hlt)];exact gx _
end
section
variable{G:Gx}{ρ:Rh}{te:TE}{Θ:List (List PyData)->Prop}
theorem Dv.ZA(h:Ev G ρ te λ_ x=>∃n:Int,x= .int n/\0<=n/\n<=9999/\Θ (au n.toNat [])):
  Dv G ρ (mR (sy (aU te bK)) (gh 0) pD (oX bK) [none]) Θ:=λnb σ H Q W KK=>
 h nb σ H _ W λf v H1 x ⟨n,ex,n0,n1,q⟩ s1 hv=>by
  subst ex;rw[hv.bT];refine⟨n,rfl,∅,∅,λacc g=>?_⟩;refine R.yG (λj σ H2=>∃bs:List ar,bs.length=j/\H2 acc=some (.lst (bs.map V.ref))/\bs.Nodup/\(∀b∈bs,H1 b=none/\H2 b=some (.lst []))/\acc∉bs/\∀b o,H1 b=some o->H2 b=some o) ?_ ?_ ?_;·exact⟨[],rfl,aV,qP,(λ_ z=>by cases z),(λz=>by cases z),λb o e=>by rw[aG (λz=>by rw[z,g] at e;cases e)];exact e⟩
  .rintro j σ H2 hj ⟨bs,g9,hA,hnd,hb,hab,hk⟩;refine⟨iP _,λb a=>?_⟩;have p:b≠acc:=λz=>by rw[z,hA] at a;cases a
   have i:b∉bs:=λz=>by have:=(hb b z).2;rw[a] at this;cases this
   have d:H1 b=none:=by
    cases e:H1 b with
    |none=>rfl
    |some o=>rw[hk b o e] at a;cases a
   refine⟨bs.map V.ref,by rw[aG (cY p)];exact hA,by rw[aj,g9];exact fX (show j<10000 by omega) ⋯,bs++[b],by rw[cP,g9];rfl,by rw[aV,cX];rfl,?_,?_,?_,?_⟩
   .rw[mF];exact⟨hnd,by simp,λx hx y hy z=>by rw[aF.mp hy] at z;exact i (z▸hx)⟩
   .intro x hx;rcases fN.mp hx with z|z
    .obtain⟨g1,g2⟩:=hb x z;refine⟨g1,?_⟩;rw[aG (λy=>hab (by rw[<-y];exact z)),aG (λy=>i (by rw[<-y];exact z))];exact g2
    .rw[aF.mp z];exact⟨d,by rw[aG p,aV]⟩
   .intro z;rcases fN.mp z with z|z
    .exact hab z
    .exact p (aF.mp z).symm
   .intro x o e;have:=hk x o e;rw[aG (λz=>by rw[z,g] at e;cases e),aG (λy=>by rw[y,a] at this;cases this)];exact this
  .rintro σ2 H2 ⟨bs,g9,hA,hnd,hb,hab,hk⟩;have s2:Step G.B H H2:=s1.trans (.same s1.2 hk);refine KK acc bs _ H2 q s2 (gf.mpr ⟨hab,hnd⟩) (λb c=>?_) (by rw[sL,g9]) hA λj b l e1 e2=>?_
   .rcases aM.mp c with z|z
    .rw[z];exact W.none_of s1 g
    .exact W.none_of s1 (hb b z).1
   .have s:l=[]:=by
     rw[eY] at e2;split at e2;·cases e2;rfl
     .cases e2
    subst s;exact⟨[],(hb b (cS e1)).2, .nil⟩
end
section
variable{G:Gx}{ρ:Rh}{Φ:Pd}{ta tb te:TE}{t:TA}{i j:Nat}{E:DE}{C x dx a0:ar}{fs:Fs}{K K':PySem.W.Frag}{f m:Str}{d:PyData}{bs:List ar}{rs:List (List Int)}{Ψ:ar->Prop}
def tV.Og(e:ρ[i]?=some (.cu (aC C x dx fs)))(cl:cD K C)(na:bf K C f)(hl:fs.lookup f=some (.cu (kL a0 bs rs)))(h:Ev G ρ tb λ_ y=>∃k j b,y= .int k/\ji bs.length k=some j/\bs[j]?=some b/\Ψ b):
  tV G ρ (er (c6 K') (ja K (br i) f) tb) Ψ:=λnb σ H Q W z=>
 oz W e cl na hl λhF Z=>h nb σ H _ W λg u H1 y ⟨k,j,b,r,O,hb,p⟩ s1 Y=>by
  subst r;refine⟨a0,bs.map .ref,k, .ref b,rfl,Y.bT,bL.of (s1.1 _ _ (hF a0 bZ).2 Z.1),?_,z b H1 p s1⟩;unfold cI;rw[aj,O];show(bs.map V.ref)[j]?=_;rw[bu,hb];rfl
def Wd.rows(W:Wd G nb ρ σ H)(e:ρ[i]?=some (.cu (aC C x dx fs)))(hl:fs.lookup f=some (.cu (kL a0 bs rs))):(a0::bs).Nodup/\(∀a∈a0::bs,nb a/\NB G.B a)/\(kL a0 bs rs).P (G.S nb false) H:=by
  obtain⟨vs,e1,h2,n,h3,len,q,r⟩:=W.kP e;obtain⟨v,g1,g2,X⟩:=r.get hl;refine⟨?_,λa m=>h2 a (rK hl m),X⟩;unfold bW at n;have n2:=(gf.mp (gf.mp n).2).2;have key:∀{fs:Fs},(fs.flatMap λg=>g.2.adr).Nodup->fs.lookup f=some (.cu (kL a0 bs rs))->(a0::bs).Nodup:=λ{fs}=>by
    induction fs with
    |nil=>intro _ h;cases h
    | cons g r ih =>
      obtain⟨g1,g2⟩:=g;intro hn h;rw[qL,mF] at hn;rw[gJ] at h;cases hb:(f==g1) with
      |true=>rw[hb] at h;cases h;exact hn.1
      |false=>rw[hb] at h;exact ih hn.2.1 h
  exact key n2 hl
def Sv.He(e:ρ[i]?=some (.cu (aC C x dx fs)))(hl:fs.lookup f=some (.cu (kL a0 bs rs)))
  (h:tV G ρ ta λb=>∃(j:Nat) (r:List Int),bs[j]?=some b/\rs[j]?=some r/\r.length<10000/\Ev G ρ te λ_ d=>∃n,d= .int n/\E.nx (ρ.set i (.cu (aC C x dx (dP f (.cu (kL a0 bs (rs.set j (r++[n])))) fs))))):
  Sv G ρ (nu (n9 K "list" yU ta (aU te bK))) E:=λnb σ H D W KK=>
 h nb σ H _ W λb H1 ⟨j,r,hb,hr,m,q⟩ s1=>by
  have W1:=W.step s1;obtain⟨nd,hF,h0,X,M⟩:=W1.rows e hl;refine⟨.inl ⟨rfl,_,bL.of (M j b r hb hr)⟩,?_⟩;refine q nb σ H1 _ W1 λg u H2 d ⟨n,I,p⟩ s2 Y=>?_;subst I;have W2:=W1.step s2;obtain⟨_,_,l,_,o⟩:=W2.rows e hl;have a:b∈a0::bs:=bV _ (cS hb);have L:a0≠b:=λz=>(gf.mp nd).1 (by rw[z];exact cS hb);refine⟨b,r.map .int,u,rfl,rfl,o j b r hb hr,fX (by rw[aj];exact m) ⋯,KK.nx nb _ _ _ p (W2.vX (c:=kL a0 bs rs) (c':=kL a0 bs (rs.set j (r++[n]))) e hl a rfl rfl ⟨?_,?_,λk b' r' e1 e2=>?_⟩)⟩;·rw[aG L];exact l
  .rw[gR];exact X
  .by_cases c:j=k
   .subst c;rw[hb] at e1;cases e1
    rw[dB (bH.mp hr).1] at e2;cases e2;rw[aV,Y.bT,cX];rfl
   .rw[bQ c] at e2;have:b'≠b:=λz=>by
     subst z;have l1:=(bH.mp hb);have l2:=(bH.mp e1);exact c ((mn l1.1 (gf.mp nd).2).mp (hb.trans e1.symm))
    rw[aG this];exact o k b' r' e1 e2
def Sv.Z7{s:TS}(e:ρ[i]?=some (.cu (aC C x dx fs)))(hl:fs.lookup f=some (.cu (kL a0 bs rs)))(h:tV G ρ ta λb=>∃(q:Nat) (r:List Int),bs[q]?=some b/\rs[q]?=some r/\∃I:Nat->Rh->Prop,I 0 ρ/\
   (∀m L,I m L->∃fs',L[i]?=some (.cu (aC C x dx fs'))/\fs'.lookup f=some (.cu (kL a0 bs rs)))/\
   (∀m n L,r[m]?=some n->I m L->Sv G (L.set j (.d true (.int n))) s {nx:=I (m+1),rt:=E.rt,bk:=E.nx,ct:=I (m+1),rw:=E.rw})/\∀L,I r.length L->E.nx L):
  Sv G ρ (pA (qq K ta) (gh j) s) E:=λnb σ H D W KK=>
 h nb σ H _ W λb H1 ⟨q0,r,hb,hr,I,h0,hI,ht,he⟩ s1=>by
  have W1:=W.step s1;have key:∀{nb L σ H m},Wd G nb L σ H->I m L->H b=some (.lst (r.map .int)):=λ{nb L σ H m} W q=>by
   obtain⟨fs',e',hl'⟩:=hI m L q;exact(W.rows e' hl').2.2.2.2 q0 b r hb hr
  refine⟨b,rfl,⟨_,bL.of (key W1 h0)⟩,?_⟩;refine G9 (xs:=r.map .int) (λm σ H=>∃nb L,I m L/\Wd G nb L σ H) ⟨nb,ρ,h0,W1⟩ (λm σ H _ ⟨nb,L,q,W⟩=>bL.of (key W q)) ?_ ?_
  .rintro m x σ H hx ⟨nb,L,q,W⟩;rw[bu] at hx;obtain⟨c,hc,rfl⟩:=jJ.mp hx;refine ht m c L hc q nb _ H _ (W.set (s:= .d true (.int c)) (x:=some (.int c)) ⟨_,rfl, .int c⟩ (λ_ _ _ z=>by cases z)) ?_;exact⟨λnb ρ σ H q W=>⟨nb,ρ,q,W⟩,KK.nx,λnb ρ σ H q W=>⟨nb,ρ,q,W⟩,KK.rt,KK.rw⟩
  .rintro σ H ⟨nb,L,q,W⟩;rw[aj] at q;exact KK.nx nb L σ H (he L q) W
end
def S8:OS X jG:=by
 intro pins s σ H o i ov iv Q I ro ri h;obtain⟨a,kvs,k,z,rfl,rfl,p,hv,q⟩:=h;cases ro;obtain⟨hz,hd,vs,rel,dd⟩:=nU I.hok p;obtain⟨w',hw,b⟩:=i8.some_of (v:=z) (o:=iq vs k) (by rw[<-hv];exact rel.val k);exact n7 (nY ri) dd.mapOf hw ⟨z,H,I.tok _,b,q⟩
def Sv.aeT{tb:TE}{E:DE}{A l:ar}{fs:Fs}{K:PySem.W.Frag}{f:Str}{ks:Ks}{g:Int->Int->Int}{c:Int}(e:ρ[i]?=some (.cu (aC C A dx fs)))(cl:cD K C)(na:bf K C f)(hl:fs.lookup f=some (.cu (dI l ks)))
  (h:Ev G ρ tb λ_ y=>∃k x,y= .int k/\bJ ks k=some (.int x)/\ks.length<=10000/\E.nx (ρ.set i (.cu (aC C A dx (dP f (.cu (dI l (eH ks k (.int (g x c))))) fs))))):Sv G ρ (Q7 (ja K (br i) f) tb (tC (.int c)) jG (ND g) vn) E:=λnb σ H D W KK=>
 oz W e cl na hl λhF ⟨ps,hp,hd⟩=>h nb σ H _ W λg' u H2 y ⟨k,m,r,hk,a,p⟩ s2 Y=>by
  subst r;have W2:=W.step s2;have iR:=hF l (aF.mpr rfl);have N:G.S nb false l:= .inl iR.1;have hp2:=s2.1 _ _ iR.2 hp;have hd2:=hd.keep s2.c8;have hv:=ao.val k hd2;rw[hk] at hv;obtain⟨v,e',O⟩:=hv;have Ij:=O.bT;subst Ij;have hlen:=hd2.len;refine⟨l,ps, .inl k,_,rfl,Y.bT, .inl hp2,e',m,c,rfl,rfl,l,ps, .inl k,rfl,Y.bT,hp2,qi (by rw[hlen];exact a) ⋯,KK.nx nb _ _ _ p (W2.vX (c:=dI l ks) (c':=dI l (eH ks k (.int (g m c)))) e hl (aF.mpr rfl) rfl rfl ⟨_,aV,?_⟩)⟩;exact(ao.put hd2 (.int _)).keep (bC.set N)
noncomputable abbrev LT:=Int×Int×Int
noncomputable abbrev CT:=Int×aB×Int
noncomputable def Eh(q:Int×fR):Option LT:=match q.2 with
 | .lt a b=>some (q.1,a,b)
 | .ck _ _=>none
noncomputable def xJ(q:Int×fR):Option CT:=match q.2 with
 | .lt _ _=>none
 | .ck prs r=>some (q.1,prs,r)
noncomputable def gD(es:aZ):List LT:=es.filterMap Eh
noncomputable def aK(es:aZ):List CT:=es.filterMap xJ
noncomputable def XR(t:LT):Int×PyData:=(t.1, .tuple [.int t.2.1, .int t.2.2])
noncomputable def RR(t:CT):Int×PyData:=(t.1, .tuple [cy t.2.1, .int t.2.2])
def Ku(es:aZ):xp es=(gD es).map XR:=by
 unfold xp gD;rw[kz]
 congr 1
 funext q
 obtain⟨k,d⟩:=q;cases d<;>rfl
def Gm(es:aZ):bO es=(aK es).map RR:=by
 unfold bO aK;rw[kz]
 congr 1
 funext q
 obtain⟨k,d⟩:=q;cases d<;>rfl
def UZ{es:aZ}{t:LT}(h:t∈gD es):(t.1,fR.lt t.2.1 t.2.2)∈es:=by
 obtain⟨⟨k,d⟩,h1,h2⟩:=qz.mp h;cases d with
 |lt a b=>cases h2;exact h1
 |ck prs r=>cases h2
def UB{es:aZ}{t:CT}(h:t∈aK es):(t.1,fR.ck t.2.1 t.2.2)∈es:=by
 obtain⟨⟨k,d⟩,h1,h2⟩:=qz.mp h;cases d with
 |lt a b=>cases h2
 |ck prs r=>cases h2;exact h1
variable{p n many:Int}{es:aZ}
def bD.Y8(h:bD p n many es):((gD es).map (·.1)).Pairwise (· < ·):=by
 have:=RG (Qv es) h.rise;rw[Ku,l7] at this;exact this
def bD.D5(h:bD p n many es):((aK es).map (·.1)).Pairwise (· < ·):=by
 have:=RG (NV es) h.rise;rw[Gm,l7] at this;exact this
def F4(es:aZ):(xp es).map (·.1)=(gD es).map (·.1):=by rw[Ku,l7];rfl
def EK(es:aZ):(bO es).map (·.1)=(aK es).map (·.1):=by rw[Gm,l7];rfl
def aaH(es:aZ):(xp es).length=(gD es).length:=by rw[Ku,aj]
def FX(es:aZ):(bO es).length=(aK es).length:=by rw[Gm,aj]
def bD.Rt(h:bD p n many es):(gD es).length<=63:=cU (CW _ _) h.len
def bD.Bd(h:bD p n many es):(aK es).length<=63:=cU (CW _ _) h.len
def bD.aaO(h:bD p n many es){t:LT}(m:t∈gD es):bJ (xp es) t.1=some (.tuple [.int t.2.1, .int t.2.2]):=h.NM (UZ m)
def bD.SQ(h:bD p n many es){t:CT}(m:t∈aK es):bJ (bO es) t.1=some (.tuple [cy t.2.1, .int t.2.2]):=h.F8 (UB m)
noncomputable def rq(F:Ks)(t:LT):Ks:=if dh F t.2.1=true then F else F++[(t.2.1, .tuple [.int t.2.2,kB t.1])]
noncomputable def iZ(ts:List LT):Ks:=ts.foldl rq []
def Cj(ts:List LT)(t:LT):iZ (ts++[t])=rq (iZ ts) t:=by unfold iZ;rw[pN];rfl
def WU{ts:List LT}{t:LT}(h:ts[i]?=some t):iZ (ts.take (i+1))=rq (iZ (ts.take i)) t:=by rw[xj h,Cj]
def snoc_ind{α:Type}{P:List α->Prop}(h0:P [])(h1:∀l a,P l->P (l++[a])):∀l,P l:=λl=>by
 rw[<-List.reverse_reverse l];induction l.reverse with
 |nil=>exact h0
 |cons a r ih=>rw[IQ];exact h1 _ _ ih
def Fn(a:Int):∀ts,bJ (iZ ts) a=(ts.find? λt=>decide (t.2.1=a)).map λt=> .tuple [.int t.2.2,kB t.1]:=by
 refine snoc_ind rfl λts t ih=>?_;rw[Cj,List.find?_append];unfold rq;by_cases L:dh (iZ ts) t.2.1=true
 .rw[if_pos L,ih];by_cases c:t.2.1=a
  .subst c;rw[<-mH,ih] at L;cases e:ts.find? (λu=>decide (u.2.1=t.2.1)) with
   |none=>rw[e] at L;cases L
   |some u=>rfl
  .cases e:ts.find? (λu=>decide (u.2.1=a)) with
   |none=>simp[sh,c]
   |some u=>rfl
 .rw[if_neg L,Ip,ih];by_cases c:t.2.1=a
  .subst c;rw[<-mH,ih] at L;cases e:ts.find? (λu=>decide (u.2.1=t.2.1)) with
   |none=>simp[sh]
   |some u=>rw[e] at L;exact absurd rfl L
  .cases e:ts.find? (λu=>decide (u.2.1=a)) with
   |none=>simp[sh,c,cY c]
   |some u=>rfl
def NP(es:aZ)(a:Int):fK es a=((gD es).find? λt=>decide (t.2.1=a)).map λt=>(t.1,t.2.2):=by
  unfold fK gD;induction es with
  |nil=>rfl
  | cons q r ih =>
    obtain⟨k,d⟩:=q;rw[v8,lF];cases d with
    |ck prs x=>exact ih
    | lt b c =>
      by_cases z:b=a;· simp[Eh,z]
      · simp only[Eh,if_neg z,m5,decide_eq_false z]
        exact ih
structure qN(F:Ks)(g:Int->Option (Int×PyData)):Prop where
 nd:(F.map (·.1)).Nodup
 val:∀a,bJ F a=(g a).map λx=> .tuple [.int x.1,x.2]
def Oc:∀ts,((iZ ts).map (·.1)).Nodup:=by
 refine snoc_ind .nil λts t ih=>?_;rw[Cj];unfold rq;split;·exact ih
 .rename_i hh
  rw[cX,mF]
  exact⟨ih,by simp,λx hx y hy z=>by
   rw[ko] at hh;have:y=t.2.1:=by simpa using hy
   rw[z,this] at hx;exact hh hx⟩
theorem KU:∀ts,(iZ ts).length<=ts.length:=by
 refine snoc_ind (aW _) λts t ih=>?_;rw[Cj];unfold rq;split;·rw[cP];omega
 .rw[cP,cP];simp;omega
def Dp(es:aZ):qN (iZ (gD es)) λa=>(fK es a).map λx=>(x.2,kB x.1):=⟨Oc _,λa=>by
 rw[Fn,NP,Ff,Ff];rfl⟩
noncomputable def El(wd:Wo)(t:CT):Int×PyData:=(t.1, .int ((cA wd t.2.1).length:Int))
noncomputable def dN(wd:Wo)(ts:List CT):Ks:=ts.map (El wd)
noncomputable def jm(ts:List CT)(a:Int):List Int:=(ts.filter λt=>t.2.1.any λpr=>decide (pr.1=a)).map (·.1)
noncomputable def gW(n:Int)(ts:List CT):List (List Int):=(a4 n.toNat).map λ(a:Nat)=>jm ts a
noncomputable def nK(n:Int)(ts:List CT)(k:Int)(prs:aB):List (List Int):=(a4 n.toNat).map λ(a:Nat)=>jm ts a++if prs.any (λpr=>decide (pr.1=(a:Int)))=true then[k] else[]
theorem agX(n:Int):gW n []=au n.toNat []:=by
 unfold gW;apply iu;intro i;rw[bu,eY];by_cases c:i<n.toNat;·rw[if_pos c,jA c];rfl
 .rw[if_neg c,eO (by rw[gC];omega)];rfl
def LQ(n:Int)(ts:List CT)(k:Int):nK n ts k []=gW n ts:=by
 unfold nK gW
 congr 1
 funext a
 simp
def Kn(n:Int)(ts:List CT)(t:CT):nK n ts t.1 t.2.1=gW n (ts++[t]):=by
 unfold nK gW
 congr 1
 funext a
 unfold jm;rw[mS,cX]
 congr 1
 rw[oF];split<;>simp_all
theorem Ry{n:Int}{ts:List CT}{k a:Int}(h0:0<=a)(h1:a<n)(h:∀pr∈prs,pr.1≠a):(nK n ts k prs)[a.toNat]?=some (jm ts a):=by
 unfold nK;rw[bu,jA ∅];have e:((a.toNat:Nat):Int)=a:=∅
 have:prs.any (λpr=>decide (pr.1=a))=false:=by
  rw[lr];intro pr m;simpa using h pr m
 simp[e,this]
theorem OK{n:Int}{ts:List CT}{k:Int}(h0:0<=pr.1)(h1:pr.1<n)(h:∀q∈prs,q.1≠pr.1):(nK n ts k prs).set pr.1.toNat (jm ts pr.1++[k])=nK n ts k (prs++[pr]):=by
 unfold nK;apply iu;intro i;rw[bu];by_cases c:i<n.toNat
 .rw[jA c];by_cases e:pr.1.toNat=i
  .subst e;rw[dB (by rw[aj,gC];exact c)];have e:((pr.1.toNat:Nat):Int)=pr.1:=∅
   simp[e]
  .rw[bQ e,bu,jA c];have:¬pr.1=(i:Int):=∅
   simp only[wA,List.any_append,oE,tI,this,decide_false,qh]
 .rw[eO (by rw[gR,aj,gC];omega),eO (by rw[gC];omega)]
  rfl
def ahw(ts:List CT)(a:Int):(jm ts a).length<=ts.length:=by unfold jm;rw[aj];exact yk ..
theorem YC{n:Int}(h:∀pr∈prs,0<=pr.1/\pr.1<n):cA (au n.toNat none) prs=prs:=by
 unfold cA;rw[KR];intro pr m;obtain⟨g1,g2⟩:=h pr m;rw[eY,if_pos ∅]
 rfl
def T5(wd:Wo)(ts:List CT):(dN wd ts).map (·.1)=ts.map (·.1):=by unfold dN;rw[l7];rfl
def Ed(wd:Wo)(ts:List CT):(dN wd ts).length=ts.length:=by unfold dN;rw[aj]
def bD.uV(h:bD p n many es){t:CT}(m:t∈aK es):rY p n t.2.1/\0<=t.2.2/\t.2.2<p:=h.ok _ (UB m)
theorem Qs(h:rY p n prs):(prs.length:Int)<=n:=by
  have hp:(prs.map (·.1)).Pairwise (· < ·):=ow.mpr h.2.1;have hr:∀a∈prs.map (·.1),0<=a/\a<n:=λa m=>by
    obtain⟨pr,R,rfl⟩:=cM.mp m;exact⟨(h.2.2 pr R).1,(h.2.2 pr R).2.1⟩
  have key:∀(l:List Int) (b:Int),l.Pairwise (· < ·)->(∀a∈l,b<=a/\a<n)->b<=n->(l.length:Int)<=n-b:=λl=>by
    induction l with
    |nil=>intro b _ _ hb;simp;omega
    | cons x r ih =>
      intro b hp hr hb;obtain⟨g1,g2⟩:=oh.mp hp;have:=ih (x+1) g2 (λa m=>⟨g1 a m,(hr a (bV _ m)).2⟩) (by have:=(hr x bZ).2;omega);have:=(hr x bZ).1;simp;omega
  have hn:0<=n:=by
    cases prs with
    |nil=>exact absurd rfl h.1
    |cons pr r=>have:=h.2.2 pr bZ;omega
  have:=key _ 0 hp hr hn;rw[aj] at this;omega
def Kp.sup{S S':ar->Prop}{F:List ar}(k:Kp S F H H')(h:∀a,S a->S' a):Kp S' F H H':=
 ⟨k.own,λa xs n e=>k.lst a xs (λz=>n (h a z)) e,λa xs n e=>k.tup a xs (λz=>n (h a z)) e,λa ps n e=>k.bB a ps (λz=>n (h a z)) e⟩
noncomputable def iU(R:ar->Prop)(a:ar)(ks:Ks):Cu where
 v:= .ref a
 F:=[a]
 f:=false
 P:=λS H=>∃ps,H a=some (.dK ps)/\ao (λx=>S x\/R x) H (ks.map aH) ps
 keep:=λk ⟨xs,h,q⟩=>⟨xs,k.own _ (aF.mpr rfl) _ h,ao.kp (k.sup λ_=> .inl) q⟩
 av:=λz ⟨xs,h,q⟩=>⟨xs,h,q.av λa y=>y.imp (z a) id⟩
 fresh:=λz ⟨xs,h,q⟩=>⟨xs,h,(q.fresh z).av λa y=>by
  rcases y with (y|y)|y
  .exact .inl (.inl y)
  .exact .inr y
  .exact .inl (.inr y)⟩
section
variable{G:Gx}{ρ:Rh}{te:TE}{i:Nat}{E:DE}{C x dx:ar}{fs:Fs}{K:PySem.W.Frag}{f:Str}{R:ar->Prop}
theorem Sv.Wp(e:ρ[i]?=some (.cu (aC C x dx fs)))(cl:cD K C)(na:bf K C f)(hl:fs.lookup f=none)(hlen:fs.length<900)(h:∀l,E.nx (ρ.set i (.cu (aC C x dx (fs++[(f, .cu (iU R l []))]))))):Sv G ρ (rW K (br i) vm f) E:=λnb σ H D W KK=>
 (kZ.new (Θ := λ_ ks => ks = []) rfl : kZ G ρ vm _) nb σ H _ W λb l ps H1 ks I s1 u s hd => by
  subst I;obtain⟨vs,e1,h2,n,h3,len,p,r⟩:=(W.step s1).kP e;refine⟨.ref x,e1,x,C,dx,vs,rfl,p,cl,na,by rw[r.len];omega,KK.nx _ _ _ _ (h l) (W.EF (c:=iU R l []) s1 e hl hlen rfl rfl u (by rw[s];exact gx _) ⟨ps,s,?_⟩ p)⟩;unfold ao at hd⊢;exact hd
end
noncomputable abbrev fj(p:Int)(cd:Fl)(ll lw a0:ar)(bs:List ar)(lc:ar)(wd:Wo)(W:Cu)(rs:List (List Int))(N:Ks):Fs:=[("p", .d (.int p)),("check_deeds",cd),("letters", .cu (c9 ll (wd.map aT))),("whys", .cu W),("having", .cu (kL a0 bs rs)),("counts", .cu (dI lc N))]
noncomputable def n6(v:V):Cu where
 v:=v
 F:=[]
 f:=false
 P:=λ_ _=>True
 keep:=λ_ h=>h
 av:=λ_ h=>h
 fresh:=λ_ h=>h
noncomputable def gY(wd:Wo)(g:Int->Option (Int×PyData))(ks:List Int):Wo:=(a4 wd.length).map λ(a:Nat)=>if(a:Int)∈ks then(g a).map (·.1) else wd.getD a none
def sW(wd:Wo)(g:Int->Option (Int×PyData))(ks:List Int):(gY wd g ks).length=wd.length:=by unfold gY;rw[aj,gC]
theorem ad9(wd:Wo)(g:Int->Option (Int×PyData)):gY wd g []=wd:=by
 unfold gY;apply iu;intro i;rw[bu];by_cases c:i<wd.length;·rw[jA c,aL c];simp[iM,c]
 .rw[eO (by rw[gC];omega),eO ∅];rfl
def DZ{a:Nat}(h:a<wd.length):(gY wd g ks)[a]?=some (if(a:Int)∈ks then(g a).map (·.1) else wd.getD a none):=by
 unfold gY;rw[bu,jA h];rfl
theorem QI{a x:Int}{w:PyData}(h0:0<=a)(h1:a<wd.length)(hg:g a=some (x,w)):(gY wd g ks).set a.toNat (some x)=gY wd g (ks++[a]):=by
 apply iu;intro i;by_cases c:i<wd.length
 .rw[DZ c];by_cases e:a.toNat=i
  .subst e;rw[dB (by rw[sW];exact c)];have e:((a.toNat:Nat):Int)=a:=∅
   rw[e,if_pos (kQ _ (aF.mpr rfl)),hg];rfl
  .rw[bQ e,DZ c];have:¬(i:Int)=a:=∅
   simp only[fN,aF,this,or_false]
 .rw[eO (by rw[gR,sW];omega),eO (by rw[sW];omega)]
noncomputable def fW(W:Ks)(g:Int->Option (Int×PyData))(ks:List Int):Ks:=ks.foldl (λW a=>match g a with|some (_,w)=>eH W a w|none=>W) W
def yR{W:Ks}{a x:Int}{w:PyData}(hg:g a=some (x,w)):fW W g (ks++[a])=eH (fW W g ks) a w:=by unfold fW;rw[pN];simp only[tQ,HE,hg]
def Qb(W:Ks)(a:Int)(w:PyData):(eH W a w).length<=W.length+1:=by
 unfold eH;split;·rw[aj];exact xD _
 .rw[cP];exact aW _
theorem ZH(W:Ks)(g:Int->Option (Int×PyData)):∀ks:List Int,(fW W g ks).length<=W.length+ks.length:=by
  refine snoc_ind (aW _) λks a ih=>?_;cases hg:g a with
  | none =>
    have:fW W g (ks++[a])=fW W g ks:=by unfold fW;rw[pN];simp only[tQ,HE,hg]
    rw[this,cP];omega
  | some d =>
    obtain⟨x,w⟩:=d;rw[yR hg,cP];have:=Qb (fW W g ks) a w;simp;omega
def abo(W:Ks)(g:Int->Option (Int×PyData))(b:Int):∀ks:List Int,bJ (fW W g ks) b=match(if b∈ks then g b else none) with|some (_,w)=>some w|none=>bJ W b:=by
  refine snoc_ind (by simp[fW]) λks a ih=>?_;cases hg:g a with
  | none =>
    have:fW W g (ks++[a])=fW W g ks:=by unfold fW;rw[pN];simp only[tQ,HE,hg]
    rw[this,ih];by_cases c:b=a;· subst c;simp[hg]
    · simp[c]
  | some d =>
    obtain⟨x,w⟩:=d;rw[yR hg,N7,ih];by_cases c:b=a;· subst c;simp[hg]
    · simp[c]
noncomputable def kC(wd:Wo)(ts:List CT)(a:Int)(m:Nat):Ks:=ts.map λt=>(t.1, .int (((cA wd t.2.1).length:Int)-if t.1∈(jm ts a).take m then 1 else 0))
def VA(wd:Wo)(ts:List CT)(a:Int):kC wd ts a 0=dN wd ts:=by
 unfold kC dN;exact r6 λt _=>by simp[El]
def F5(wd:Wo)(ts:List CT)(a:Int)(m:Nat):(kC wd ts a m).length=ts.length:=by unfold kC;rw[aj]
def Lj{ts:List CT}{a k:Int}:k∈jm ts a↔∃t∈ts,t.1=k/\∃pr∈t.2.1,pr.1=a:=by
 unfold jm;rw[cM];constructor
 .rintro⟨t,h,rfl⟩;obtain⟨h1,h2⟩:=iN.mp h;obtain⟨pr,m,e⟩:=tE.mp h2;exact⟨t,h1,rfl,pr,m,by simpa using e⟩
 .rintro⟨t,h,rfl,pr,m,e⟩;exact⟨t,iN.mpr ⟨h,tE.mpr ⟨pr,m,by simpa using e⟩⟩,rfl⟩
def ag5{ts:List CT}(h:(ts.map (·.1)).Nodup)(a:Int):(jm ts a).Nodup:=by
 unfold jm;exact h.sublist (wY _ Od)
def S2{ts:List CT}(h:(ts.map (·.1)).Nodup){t u:CT}(ht:t∈ts)(Y:u∈ts)(e:t.1=u.1):t=u:=by
  induction ts with
  |nil=>cases ht
  | cons b r ih =>
    rw[bR,gf] at h;rcases aM.mp ht with rfl|ht'
    · rcases aM.mp Y with rfl|hu'
      · rfl
      · exact absurd (cM.mpr ⟨u,hu',e.symm⟩) h.1
    · rcases aM.mp Y with rfl|hu'
      · exact absurd (show u.1∈r.map (·.1) from cM.mpr ⟨t,ht',e⟩) h.1
      · exact ih h.2 ht' hu'
theorem NJ{l:List Int}(h:l.Nodup){m:Nat}{k:Int}(hk:l[m]?=some k):k∉l.take m:=λz=>by
 obtain⟨j,O⟩:=iW z;rw[yh] at O;split at O
 .rename_i c
  have l1:=(bH.mp hk).1;have l2:=(bH.mp O).1;have:=(mn l2 h).mp (O.trans hk.symm);omega
 .cases O
def zt{ts:List CT}{a:Int}{k:Int}(h:(ts.map (·.1)).Nodup)(hk:(jm ts a)[m]?=some k):∃v,bJ (kC wd ts a m) k=some (.int v)/\eH (kC wd ts a m) k (.int (v-1))=kC wd ts a (m+1):=by
 obtain⟨t,ht,e,_⟩:=Lj.mp (cS hk);have hout:=NJ (ag5 h a) hk;have hkeys:(kC wd ts a m).map (·.1)=ts.map (·.1):=by unfold kC;rw[l7];rfl
 have hv:bJ (kC wd ts a m) k=some (.int ((cA wd t.2.1).length:Int)):=by
  refine wK (by rw[hkeys];exact h) ?_;unfold kC;refine cM.mpr ⟨t,ht,?_⟩;rw[e,if_neg hout,xx]
 refine⟨_,hv,?_⟩;unfold eH;rw[if_pos (by rw[ko,hkeys];exact cM.mpr ⟨t,ht,e⟩)];unfold kC;rw[l7];refine r6 λu Y=>?_;have htk:(jm ts a).take (m+1)=(jm ts a).take m++[k]:=xj hk;show(if u.1=k then(u.1,ba (((cA wd t.2.1).length:Int)-1)) else _)=_;rw[htk];by_cases c:u.1=k
 .have o:u=t:=S2 h Y ht (c.trans e.symm);rw[if_pos c,o,e,if_pos (kQ _ (aF.mpr rfl))]
 .rw[if_neg c];simp only[fN,aF,c,or_false]
theorem Ph{wd:Wo}{a x:Int}(h0:0<=a)(ha:wd[a.toNat]?=some none):∀{prs:aB},(prs.Pairwise λa b=>a.1<b.1)->(∀pr∈prs,0<=pr.1)->((cA wd prs).length:Int)=((cA (wd.set a.toNat (some x)) prs).length:Int)+if∃pr∈prs,pr.1=a then 1 else 0
  |[],_,_=>by simp[cA]
  | pr :: r, hp, hg => by
    obtain⟨k,p2⟩:=oh.mp hp;have ih:=Ph (x:=x) h0 ha p2 λq m=>hg q (bV _ m);have g0:=hg pr bZ;have hal:a.toNat<wd.length:=(bH.mp ha).1;unfold cA at ih⊢;rw[oF,oF];by_cases c:pr.1=a
    · have hno:¬∃q∈r,q.1=a:=λ⟨q,m,e⟩=>by have:=k q m;omega
      rw[if_neg hno] at ih;rw[c,ha,dB hal,if_pos (by rfl),if_neg (by simp),if_pos ⟨pr,bZ,c⟩,dM];omega
    · have hn:¬a.toNat=pr.1.toNat:=∅
      rw[bQ hn]
      have d:(∃q∈pr::r,q.1=a)↔∃q∈r,q.1=a:=⟨λ⟨q,m,e⟩=>by
        rcases aM.mp m with rfl|m
        · exact absurd e c
        · exact⟨q,m,e⟩,λ⟨q,m,e⟩=>⟨q,bV _ m,e⟩⟩
      simp only[d];split;· rw[dM,dM];omega
      · exact ih
theorem O2{ts:List CT}{a x:Int}{n:Int}(h:(ts.map (·.1)).Nodup)(hc:∀t∈ts,(t.2.1.Pairwise λa b=>a.1<b.1)/\∀pr∈t.2.1,0<=pr.1)(h0:0<=a)(ha:wd[a.toNat]?=some none):kC wd ts a (jm ts a).length=dN (wd.set a.toNat (some x)) ts:=by
 unfold kC dN;refine r6 λt ht=>?_;rw[jO];have e:=Ph (x:=x) h0 ha (hc t ht).1 (hc t ht).2;have d:t.1∈jm ts a↔∃pr∈t.2.1,pr.1=a:=by
  rw[Lj];exact⟨λ⟨u,Y,e,q⟩=>by rw[<-S2 h Y ht e];exact q,λq=>⟨t,ht,rfl,q⟩⟩
 unfold El;rw[e];simp only[d]
 congr 2
 omega
noncomputable abbrev o4(p:Int)(D:PyData)(wd:Wo)(vw vh:V)(N:Ks):Fs:=[("p", .d (.int p)),("check_deeds", .d D),("letters", .d (fL wd)),("whys", .cu (n6 vw)),("having", .cu (n6 vh)),("counts", .d (.dict (N.map aH)))]
def Vm{x ll lw a0 lc:ar}{p:Int}{D:PyData}{bs:List ar}{W:Cu}{N:Ks}(h:(aC C x dx (fj p (.d D) ll lw a0 bs lc wd W rs N)).P nb H)(hF:∀a∈(aC C x dx (fj p (.d D) ll lw a0 bs lc wd W rs N)).F,¬nb a/\H a≠none):
  (aC C x dx (o4 p D wd W.v (.ref a0) N)).P nb H/\∀a∈(aC C x dx (o4 p D wd W.v (.ref a0) N)).F,¬nb a/\H a≠none:=by
 obtain⟨nd,hd,hl,vs,hx,v1,r,e1,h1,U,b,e2,h2,g,k,e3,h3,c,w,e4,h4,n,e,e5,h5,t,u,f,h6,o⟩:=h
 have L:∀a,a∈[ll]++(W.F++((a0::bs)++[lc]))->¬nb a/\H a≠none:=λa m=>hF a (by
  show a∈x::dx::([]++([]++([ll]++(W.F++((a0::bs)++([lc]++[]))))));rw[ic];exact bV _ (bV _ m))
 have zK:=(L ll (by simp)).1;have XT:=(L lc (by simp)).1;obtain⟨X,xs,s,I⟩:=h3;obtain⟨j,ps,hps,l⟩:=h6;refine⟨⟨?_,hd,iQ rfl,vs,hx,v1,r,e1,h1,U,b,e2,h2,g,k,e3,?_,c,w,e4,⟨h4.1,trivial⟩,n,e,e5,⟨h5.1,trivial⟩,t,u,f,?_,o⟩,λa m=>hF a ?_⟩
 .show(x::dx::[]).Nodup;have:(x::dx::([]++([]++([ll]++(W.F++((a0::bs)++([lc]++[]))))))).Nodup:=nd;exact this.sublist (kA _ (kA _ (List.nil_sublist _)))
 .rw[X];show af nb H (.list (wd.map aT)) (.ref ll);unfold af;exact⟨ll,xs,rfl,zK,s,I⟩
 .rw[j];show af nb H (.dict (N.map aH)) (.ref lc);unfold af;exact⟨lc,ps,rfl,XT, .inl hps,l⟩
 .have m:a∈x::dx::[]:=m;show a∈x::dx::_;rcases aM.mp m with rfl|m
  .exact bZ
  .rw[aF.mp m];exact bV _ bZ
def Y1{x:ar}{p:Int}{D:PyData}{c a:V}{N:Ks}:∀(S:ar->Prop) (H:Hp) b ps,(aC C x dx (o4 p D wd c a N)).P S H->b∈(aC C x dx (o4 p D wd c a N)).F->¬Rd H b (.dK ps):=λS H b ps ⟨nd,hd,hl,vs,hx,_⟩ m z=>by
 have m:b∈x::dx::[]:=m;rcases aM.mp m with rfl|m
 .rcases z with z|⟨o,z⟩<;>rw[hx] at z<;>cases z
 .rw[aF.mp m] at z;rcases z with z|⟨o,z⟩<;>rw[hd] at z<;>cases z
noncomputable def qS(p:Int)(wd:Wo)(B:Int)(F:Ks)(t:CT):Ks:=match cQ p t.2.1 t.2.2 wd with
 |some ax=>if dh F ax.1=true then F else F++[(ax.1, .tuple [.int ax.2,i6 t.1 B])]
 |none=>F
noncomputable def iB(p:Int)(wd:Wo)(B:Int)(ts:List CT):Ks:=ts.foldl (qS p wd B) []
noncomputable def gv(wd:Wo)(ts:List CT):List CT:=ts.filter λt=>decide ((cA wd t.2.1).length=1)
def D0(p:Int)(wd:Wo)(B:Int)(ts:List CT)(t:CT):iB p wd B (ts++[t])=qS p wd B (iB p wd B ts) t:=by unfold iB;rw[pN];rfl
theorem U3(p:Int)(wd:Wo)(B:Int):∀ts,(iB p wd B ts).length<=ts.length:=by
 refine snoc_ind (aW _) λts t ih=>?_;rw[D0,cP];unfold qS;split
 .split;·omega
  .rw[cP];simp;omega
 .omega
def Sb{p r:Int}(h:(cA wd prs).length=1):∃ax,cQ p prs r wd=some ax:=by
 unfold cQ
 match e:cA wd prs,h with
 |[pr],_=>exact⟨_,rfl⟩
def Dr{p r:Int}(h:(cA wd prs).length≠1):cQ p prs r wd=none:=by
 unfold cQ;split;·rename_i e;rw[e] at h;exact absurd rfl h
 .rfl
def Vk{K:PySem.W.Frag}{f:Str}(b:X.K=K)(he:PE X e ta)(hb:hV e f X.env (eval e X.env)=eval e X.env):PE X (.Attribute e f pos) (ja K ta f):=by
 subst b;exact dS he hb
section
variable{G:Gx}{ρ:Rh}{Φ:Rh->Pd}{t:TA}{i:Nat}{c:Cu}{cp:V->Cu}{C:ar}{m:Str}{n:Nat}{F:CF}{D:PyData}
def bz.PR(hm:i9 F)(e:ρ[i]?=some (.cu c))(T:c.f=false)(hi:∀S H,c.P S H->∃a dx fs,c.v= .ref a/\H a=some (.ins C dx fs)/\fs.lookup m=none)
  (b:∀v,(cp v).v=c.v/\(cp v).F=c.F/\(cp v).f=false) (s:∀S H,c.P S H->∃v,af S H D v/\(cp v).P (λa=>S a\/G.H0 a≠none) H)
  (h:Av G ρ t λes=>es.length+1=n/\kG es=true/\∀v,F (cp v) (es.map (·.2)) λc1 f d=>∃c2:Cu,c2.v=c.v/\c2.F=c.F/\c1.F=c.F/\c2.f=false/\(∀S H,c1.P (λa=>S a\/G.H0 a≠none) H->af S H D v->c2.P S H)/\Φ (ρ.set i (.cu c2)) false d):
  bz G ρ (om C m (cz n F) [] E0 (br i) t) Φ:=λnb σ H Q W z=>by
 obtain⟨A,e1,h1,h2,h3⟩:=W.ok i _ e;subst h1;obtain⟨a,dx,fs,g1,g2,X⟩:=hi _ _ h3;refine⟨c.v,e1,a,dx,fs,g1,g2,X,h nb σ H _ W λes vs H1 ⟨hl,u,p⟩ s1 J=>?_⟩;have W1:=W.step s1;obtain⟨M,e2,k1,k2,k3⟩:=W1.ok i _ e;subst k1;rw[T] at k3;obtain⟨v,O,Z⟩:=s _ _ k3;obtain⟨u1,u2,j⟩:=b v;have E:∀a,G.S nb true a->G.S nb false a\/G.H0 a≠none:=λa y=>by
  rcases y with y|y|y|y
  .exact .inl (.inl y)
  .exact .inl (.inr (.inl y))
  .exact .inl (.inr (.inr (.inl y)))
  .exact .inr y.2
 show cz n F (c.v::(vs++[])) H1 Q E0;rw[ic,<-u1];refine⟨by rw[dM,J.len,hl],G.S nb true,cp v,vs,es.map (·.2),rfl,W1.iG,λa m=> .inl (k2 a (by rw[<-u2];exact m)).1,j,(cp v).av E Z,J.all (f:=true) (λ_=>u),hm _ _ _ _ (p v) λc1 f d ⟨c2,R,L,g,I,hb,hp⟩ r H' to B hd=>?_⟩
 have w:Kp (G.S nb false) [] H1 H':= .of λa o na q=>to.kp a o (λl=>by
  rw[u2] at l;rcases na with na|na
  .exact na (.inl (k2 a l).1)
  .cases na) q
 have Ij:af (G.S nb false) H' D v:=af.kp w O;have k:∀a,G.S (λx=>nb x\/x∈c2.F) false a->G.S nb false a:=λa y=>by
  rcases y with (y|y)|y|y|y
  .exact .inl y
  .rw[L] at y;exact .inl (k2 a y).1
  .exact .inr (.inl y)
  .exact .inr (.inr (.inl y))
  .cases y.1
 refine z _ _ false r H' d hp (W1.yo (c':=c2) e (λa o na q=>to.kp a o (by rw[u2];exact na) q) R (λa m=> .inl (by rw[<-L];exact m)) (λa m=>?_) ?_) (hd.av λa y=>?_)
 .have m:a∈c.F:=m.elim id λm=>by rw[<-L];exact m
  exact to.lv a (by rw[g];exact m)
 .rw[I];refine hb _ _ (c1.av (λa y=>?_) B) (Ij.av k);rcases y with y|y
  .exact .inl (by
    rcases k a y with y|y|y|y
    .exact .inl y
    .exact .inr (.inl y)
    .exact .inr (.inr (.inl y))
    .cases y.1)
  .exact .inl (.inr (.inr (.inr ⟨rfl,y⟩)))
 .have:=k a y
  exact .inl (by
   rcases this with y|y|y|y
   .exact .inl y
   .exact .inr (.inl y)
   .exact .inr (.inr (.inl y))
   .cases y.1)
end
theorem ao.ints{S S':ar->Prop}{H:Hp}:∀{N:Ks} {ps:List (Key×V)},(∀q∈N,∃i,q.2= .int i)->ao S H (N.map aH) ps->ao S' H (N.map aH) ps
  |[],_,_,h=>by unfold ao at h⊢;exact h
  | q :: N, ps, hi, h => by
    rw[bR] at h⊢;unfold ao at h⊢;obtain⟨y,ys,e,h1,h2⟩:=h;refine⟨y,ys,e,?_,ao.ints (λq m=>hi q (bV _ m)) h2⟩;obtain⟨i,v⟩:=hi q bZ;obtain⟨k,d⟩:=q;subst v;unfold aH cH at h1⊢;refine⟨h1.1,?_⟩;have:=h1.2;unfold af at this⊢;exact this
def VL(wd:Wo)(ts:List CT):∀q∈dN wd ts,∃i,q.2= .int i:=λq m=>by
 obtain⟨t,_,rfl⟩:=cM.mp m;exact⟨_,rfl⟩
def yS(wd:Wo):fE (wd.map aT)=true:=pZ.mpr λy m=>by
 obtain⟨o,_,rfl⟩:=cM.mp m;cases o<;>rfl
section
variable{S R:ar->Prop}{H:Hp}{C x dx ll lw a0 lc:ar}{p:Int}{D:PyData}{bs:List ar}{wd:Wo}{W:Ks}{rs:List (List Int)}{N:Ks}{v:V}
def V9(hN:∀q∈N,∃i,q.2= .int i)(h:(aC C x dx (fj p (.d D) ll lw a0 bs lc wd (iU R lw W) rs N)).P S H):∃v,af S H D v/\(aC C x dx (fj p (.cu (n6 v)) ll lw a0 bs lc wd (dI lw W) rs N)).P (λa=>S a\/R a) H:=by
 obtain⟨nd,hd,hl,vs,hx,v1,r,e1,h1,U,b,e2,h2,g,k,e3,h3,c,w,e4,h4,n,e,e5,h5,t,u,f,h6,o⟩:=h;obtain⟨X,xs,s,I⟩:=h3;obtain⟨j,ps,hps,l⟩:=h6;refine⟨U,h2,nd,hd,hl,vs,hx,v1,r,e1,?_,U,b,e2,⟨rfl,trivial⟩,g,k,e3,⟨X,xs,s,I.kg (yS wd)⟩,c,w,e4,h4,n,e,e5,h5,t,u,f,⟨j,ps,hps,ao.ints hN l⟩,o⟩;have:af S H (.int p) v1:=h1;show af (λa=>S a\/R a) H (.int p) v1;unfold af at this⊢;exact this
def OB(h:(aC C x dx (fj p (.cu (n6 v)) ll lw a0 bs lc wd (dI lw W) rs N)).P (λa=>S a\/R a) H)(O:af S H D v):(aC C x dx (fj p (.d D) ll lw a0 bs lc wd (iU R lw W) rs N)).P S H:=by
 obtain⟨nd,hd,hl,vs,hx,v1,r,e1,h1,U,b,e2,h2,g,k,e3,h3,c,w,e4,h4,n,e,e5,h5,t,u,f,h6,o⟩:=h;obtain⟨X,xs,s,I⟩:=h3;obtain⟨j,ps,hps,l⟩:=h6;have i:U=v:=h2.1;subst i;exact⟨nd,hd,hl,vs,hx,v1,r,e1,(show af (λa=>S a\/R a) H (.int p) v1 from h1).av λ_ z=> .inl z,U,b,e2,O,g,k,e3,⟨X,xs,s,I.av λ_ z=> .inl z⟩,c,w,e4,h4,n,e,e5,h5,t,u,f,⟨j,ps,hps,l.av λ_ z=> .inl z⟩,o⟩
end
noncomputable def fZ(p:Int)(wd:Wo)(a:Int)(t:CT):Option (Int×Int):=match cQ p t.2.1 t.2.2 wd with
 |some ax=>if ax.1=a then some (t.1,ax.2) else none
 |none=>none
def XN(p:Int)(wd:Wo)(B a:Int):∀ts,bJ (iB p wd B ts) a=(ts.findSome? (fZ p wd a)).map λkx=> .tuple [.int kx.2,i6 kx.1 B]:=by
  refine snoc_ind rfl λts t ih=>?_;rw[D0,List.findSome?_append];unfold qS;cases ht:cQ p t.2.1 t.2.2 wd with
  | none =>
    have e:[t].findSome? (fZ p wd a)=none:=by simp[fZ,ht]
    dsimp only;rw[e,ih];cases ts.findSome? (fZ p wd a)<;>rfl
  | some ax =>
    obtain⟨b,x⟩:=ax;dsimp only;by_cases L:dh (iB p wd B ts) b=true
    · rw[if_pos L,ih]
      by_cases c:b=a
      · subst c
        rw[<-mH,ih] at L;cases e:ts.findSome? (fZ p wd b) with
        |none=>rw[e] at L;cases L
        |some u=>rfl
      · have e:[t].findSome? (fZ p wd a)=none:=by simp[fZ,ht,c]
        rw[e];cases ts.findSome? (fZ p wd a)<;>rfl
    · rw[if_neg L,Ip,ih]
      by_cases c:b=a
      · subst c
        rw[<-mH,ih] at L;cases e:ts.findSome? (fZ p wd b) with
        |none=>simp[fZ,ht]
        |some u=>rw[e] at L;exact absurd rfl L
      · have e:[t].findSome? (fZ p wd a)=none:=by simp[fZ,ht,c]
        rw[e];cases ts.findSome? (fZ p wd a) with
        |none=>simp[cY c]
        |some u=>rfl
def Bl(p:Int)(es:aZ)(wd:Wo)(a:Int):fS p es wd a=(aK es).findSome? (fZ p wd a):=by
  unfold fS aK;induction es with
  |nil=>rfl
  | cons q r ih =>
    obtain⟨k,d⟩:=q;rw[v8,lF];cases d with
    |lt b c=>exact ih
    | ck prs x =>
      simp only[xJ,v8,fZ];cases ht:cQ p prs x wd with
      |none=>exact ih
      | some f =>
        obtain⟨b,y⟩:=f;dsimp only;by_cases c:b=a;· rw[if_pos c]
        · rw[if_neg c];exact ih
def ZR(p:Int)(wd:Wo)(a:Int)(ts:List CT):(gv wd ts).findSome? (fZ p wd a)=ts.findSome? (fZ p wd a):=by
  unfold gv;induction ts with
  |nil=>rfl
  | cons t r ih =>
    rw[oF,v8];by_cases c:(cA wd t.2.1).length=1;· rw[if_pos (by simpa using c),v8,ih]
    · have e:fZ p wd a t=none:=by unfold fZ;rw[Dr c]
      rw[if_neg (by simpa using c),ih,e]
def Yp(p:Int)(wd:Wo)(B:Int):∀ts,((iB p wd B ts).map (·.1)).Nodup:=by
 refine snoc_ind .nil λts t ih=>?_;rw[D0];unfold qS;split
 .split;·exact ih
  .rename_i ax _ hh
   rw[cX,mF]
   exact⟨ih,by simp,λx hx y hy z=>by
    rw[ko] at hh;have:y=ax.1:=by simpa using hy
    rw[z,this] at hx;exact hh hx⟩
 .exact ih
def JP(p:Int)(wd:Wo)(B:Int)(es:aZ):qN (iB p wd B (gv wd (aK es))) λa=>(fS p es wd a).map λkx=>(kx.2,i6 kx.1 B):=⟨Yp _ _ _ _,λa=>by
 rw[XN,ZR,Bl,Ff];rfl⟩
def bD.vL(h:bD p n many es)(hp:0<p){wd:Wo}{a:Int}{kx:Int×Int}(e:fS p es wd a=some kx):0<=a/\a<n/\wd[a.toNat]?=some none/\0<=kx.2/\kx.2<p:=by
  rw[Bl] at e;obtain⟨t,ht,e⟩:=M4 e;unfold fZ at e;cases h2:cQ p t.2.1 t.2.2 wd with
  |none=>rw[h2] at e;cases e
  | some f =>
    obtain⟨b,y⟩:=f;rw[h2] at e;dsimp only at e;split at e
    · rename_i c
      cases e;subst c;obtain⟨pr,m,rfl,g1,g2,X⟩:=Bw hp h2;obtain⟨q0,J,_⟩:=(h.uV ht).1.2.2 pr m;exact⟨q0,J,g1,g2,X⟩
    · cases e
def bD.JY(h:bD p n many es){a:Int}{kx:Int×Int}(e:fK es a=some kx):0<=a/\a<n/\0<=kx.2/\kx.2<p:=by
 rw[NP] at e;obtain⟨t,ht,rfl⟩:=jJ.mp e;have hm:=TN ht;have ha:t.2.1=a:=by simpa using pE ht
 have:=h.ok _ (UZ hm);obtain⟨g0,g1,g2,X⟩:=this;exact⟨by rw[<-ha];exact g0,by rw[<-ha];exact g1,g2,X⟩
def qN.key{F:Ks}(h:qN F g)(a:Int):a∈F.map (·.1)↔(g a).isSome=true:=by
 rw[<-ko,<-mH,h.val a,Af]
def T3{F:Ks}(h:qN F g){i:Nat}(hi:i<wd.length):(gY wd g (F.map (·.1)))[i]?=some (match g i with|some d=>some d.1|none=>wd.getD i none):=by
 rw[DZ hi];cases e:g i with
 |none=>rw[if_neg (by rw[h.key,e];decide)]
 |some d=>rw[if_pos (by rw[h.key,e];rfl)];rfl
def RQ{W F:Ks}(h:qN F g)(a:Int):bJ (fW W g (F.map (·.1))) a=match g a with|some d=>some d.2|none=>bJ W a:=by
 rw[abo];cases e:g a with
 |none=>rw[if_neg (by rw[h.key,e];decide)]
 |some d=>rw[if_pos (by rw[h.key,e];rfl)]
theorem JT(h0:0<=n)(h:bD p n many es):gY (au n.toNat none) (λa=>(fK es a).map λx=>(x.2,kB x.1)) ((iZ (gD es)).map (·.1))=(ir n es).wd/\∀a,bJ (fW [] (λa=>(fK es a).map λx=>(x.2,kB x.1)) ((iZ (gD es)).map (·.1))) a=(ir n es).wh a:=by
  refine⟨?_,λa=>?_⟩
  · apply iu
    intro i;show _=((a4 n.toNat).map λ(i:Nat)=>(fK es i).map (·.2))[i]?;rw[bu];by_cases c:i<n.toNat
    · rw[T3 (Dp es) (by rw[sL];exact c),jA c]
      cases e:fK es i with
      |none=>simp[iM,c,e]
      |some x=>simp[e]
    · rw[eO (by rw[sW,sL];omega),eO (by rw[gC];omega)];rfl
  · rw[RQ (Dp es)]
    show _=if 0<=a/\a<n then(fK es a).map λx=>kB x.1 else none
    cases e:fK es a with
    |none=>simp[bJ]
    | some x =>
      obtain⟨g0,g1,_⟩:=h.JY e;rw[if_pos ⟨g0,g1⟩];rfl
theorem XP(hp:0<p)(h:bD p n many es)(t:Int)(c:Pc){W:Ks}(hW:∀a,bJ W a=c.wh a)(hl:c.wd.length=n.toNat)(hk:∀a w,c.wh a=some w->0<=a/\∃x,c.wd[a.toNat]?=some (some x)):
    gY c.wd (λa=>(fS p es c.wd a).map λkx=>(kx.2,i6 kx.1 t)) ((iB p c.wd t (gv c.wd (aK es))).map (·.1))=(j7 p es t c).wd/\∀a,bJ (fW W (λa=>(fS p es c.wd a).map λkx=>(kx.2,i6 kx.1 t)) ((iB p c.wd t (gv c.wd (aK es))).map (·.1))) a=(j7 p es t c).wh a:=by
  refine⟨?_,λa=>?_⟩
  · apply iu
    intro i;show _=((a4 c.wd.length).map λ(i:Nat)=>match c.wd[i]? with|some (some x)=>some x|_=>(fS p es c.wd i).map (λ(x:Int×Int)=>x.2))[i]?;rw[bu];by_cases b:i<c.wd.length
    · rw[T3 (JP p c.wd t es) b,jA b]
      cases e:fS p es c.wd i with
      | none =>
        simp only[e,pU,wA,iM];cases e2:c.wd[i]? with
        |none=>rfl
        |some o=>cases o<;>rfl
      | some kx =>
        have:=(h.vL hp e).2.2.1;rw[Ho] at this;simp only[e,this,wA]
    · rw[eO (by rw[sW];omega),eO (by rw[gC];omega)];rfl
  · rw[RQ (JP p c.wd t es)]
    show _=(match c.wh a with|some w=>some w|none=>if 0<=a/\a<c.wd.length then(fS p es c.wd a).map λ(x:Int×Int)=>i6 x.1 t else none);cases e:fS p es c.wd a with
    | none =>
      simp only[pU];rw[hW];cases c.wh a with
      |none=>simp
      |some w=>rfl
    | some kx =>
      obtain⟨g0,g1,g2,_⟩:=h.vL hp e;have hn:c.wh a=none:=by
        cases e2:c.wh a with
        |none=>rfl
        |some w=>obtain⟨_,x,e3⟩:=hk a w e2;rw[g2] at e3;cases e3
      rw[hn];simp only[wA];rw[if_pos ⟨g0,∅⟩]
def zF(p:Int)(es:aZ)(t:Int)(c:Pc):(j7 p es t c).wd.length=c.wd.length:=by
 show((a4 c.wd.length).map _).length=_;rw[aj,gC]
def vG(p:Int)(es:aZ)(t:Int)(c:Pc){i:Nat}(hi:i<c.wd.length):(j7 p es t c).wd[i]?=some (match c.wd[i]? with|some (some x)=>some x|_=>(fS p es c.wd i).map (λ(x:Int×Int)=>x.2)):=by
 show((a4 c.wd.length).map _)[i]?=_;rw[bu,jA hi];rfl
theorem rM(hp:0<p)(h:bD p n many es):∀t:Nat,(bG p n es t).wd.length=n.toNat/\(∀a w,(bG p n es t).wh a=some w->0<=a/\∃x,(bG p n es t).wd[a.toNat]?=some (some x))/\∀x,some x∈(bG p n es t).wd->0<=x/\x<p
  | 0 => by
    have hw:∀i:Nat,i<n.toNat->(ir n es).wd[i]?=some ((fK es i).map (·.2)):=λi hi=>by
      show((a4 n.toNat).map _)[i]?=_;rw[bu,jA hi];rfl
    have hl:(ir n es).wd.length=n.toNat:=by show((a4 n.toNat).map _).length=_;rw[aj,gC]
    refine⟨hl,λa w e=>?_,λx m=>?_⟩
    · have e:(if 0<=a/\a<n then(fK es a).map λx=>kB x.1 else none)=some w:=e
      split at e
      · rename_i c
        obtain⟨kx,e2,_⟩:=jJ.mp e;refine⟨c.1,kx.2,?_⟩;show(ir n es).wd[a.toNat]?=_;rw[hw _ ∅,show((a.toNat:Nat):Int)=a by omega,e2];rfl
      · cases e
    · obtain⟨i,hi⟩:=iW m
      have hi:(ir n es).wd[i]?=some (some x):=hi;have D:i<n.toNat:=by rw[<-hl];exact(bH.mp hi).1
      rw[hw i D] at hi;obtain⟨kx,e2,rfl⟩:=jJ.mp (gz hi);exact(h.JY e2).2.2
  | t + 1 => by
    obtain⟨R,j,i3⟩:=rM hp h t;generalize hc:bG p n es t=c at R j i3;have O:bG p n es (t+1)=j7 p es ((t:Int)+1) c:=by rw[<-hc];rfl
    rw[O];have keep:∀{i:Nat} {x:Int},c.wd[i]?=some (some x)->(j7 p es ((t:Int)+1) c).wd[i]?=some (some x):=λ{i x} e=>by
      rw[vG _ _ _ _ (bH.mp e).1,e]
    refine⟨by rw[zF];exact R,λa w e=>?_,λx m=>?_⟩
    · have e:(match c.wh a with|some w=>some w|none=>if 0<=a/\a<c.wd.length then(fS p es c.wd a).map λ(x:Int×Int)=>i6 x.1 ((t:Int)+1) else none)=some w:=e
      cases e2:c.wh a with
      | some w' =>
        obtain⟨g0,x,g1⟩:=j a w' e2;exact⟨g0,x,keep g1⟩
      | none =>
        rw[e2] at e;dsimp only at e;split at e
        · rename_i hc
          obtain⟨kx,e3,_⟩:=jJ.mp e;obtain⟨g0,g1,g2,_⟩:=h.vL hp e3;refine⟨g0,kx.2,?_⟩;rw[vG _ _ _ _ ∅,g2,show((a.toNat:Nat):Int)=a by omega,e3];rfl
        · cases e
    · obtain⟨i,hi⟩:=iW m
      have D:i<c.wd.length:=by rw[<-zF p es ((t:Int)+1) c];exact(bH.mp hi).1
      rw[vG _ _ _ _ D] at hi;have hi:=gz hi;split at hi
      · rename_i y e
        cases hi;exact i3 _ (cS e)
      · obtain⟨kx,e3,rfl⟩:=jJ.mp hi
        exact(h.vL hp e3).2.2.2
theorem V7{c:Pc}(hf:∀a,fS p es c.wd a=none)(t:Int):j7 p es t c=c:=by
  obtain⟨wd,wh⟩:=c;show Pc.mk _ _=Pc.mk _ _
  congr 1
  · apply iu
    intro i;rw[bu];by_cases b:i<wd.length
    · rw[jA b,aL b]
      have:=hf i;dsimp only at this;cases e:wd[i] with
      | none =>
        have e':wd[i]?=some none:=by rw[aL b,e]
        simp[e',this]
      | some x =>
        have e':wd[i]?=some (some x):=by rw[aL b,e]
        simp[e']
    · rw[eO (show(a4 wd.length).length<=i by rw[gC];omega),eO (show wd.length<=i by omega)];rfl
  · funext a
    have:=hf a;dsimp only at this⊢;rw[this];cases wh a<;>simp
theorem UL{t:Nat}(hf:∀a,fS p es (bG p n es t).wd a=none):∀k:Nat,bG p n es (t+k)=bG p n es t
  |0=>rfl
  | k + 1 => by
    show j7 p es _ (bG p n es (t+k))=_;rw[UL hf k,V7 hf]
theorem adj{W:Ks}{c:Pc}(hn:(W.map (·.1)).Nodup)(hW:∀a,bJ W a=c.wh a)(hk:∀a w,c.wh a=some w->0<=a/\∃x,c.wd[a.toNat]?=some (some x)):W.length<=c.wd.length:=by
 have:=AK (l₂:=(a4 c.wd.length).map λ(i:Nat)=>(i:Int)) hn λk b=>by
  have h1:=ko.mpr b;rw[<-mH,hW] at h1;obtain⟨w,hw⟩:=qC.mp h1;obtain⟨g0,x,g1⟩:=hk k w hw;exact cM.mpr ⟨k.toNat,qW.mpr (bH.mp g1).1,∅⟩
 rw[aj,aj,gC] at this;exact this
theorem MH{W:Ks}(hW:(W.map (·.1)).Nodup):∀ks:List Int,ks.Nodup->(∀a∈ks,(g a).isSome=true/\dh W a≠true)->((fW W g ks).map (·.1)).Nodup/\(fW W g ks).length=W.length+ks.length/\∀b,dh (fW W g ks) b=true->b∈ks\/dh W b=true:=by
 refine snoc_ind (λ_ _=>⟨hW,rfl,λb hb=> .inr hb⟩) λks a ih hn hg=>?_;rw[mF] at hn;obtain⟨R,j,i3⟩:=ih hn.1 λb m=>hg b (pR _ m);obtain⟨g1,g2⟩:=hg a (kQ _ (aF.mpr rfl));obtain⟨⟨x,w⟩,e⟩:=qC.mp g1;have hno:dh (fW W g ks) a≠true:=λz=>(i3 a z).elim (λm=>hn.2.2 a m a (aF.mpr rfl) rfl) g2;rw[yR e,vP hno];refine⟨?_,by rw[cP,cP,j];simp;omega,λb hb=>?_⟩
 .rw[cX,mF]
  exact⟨R,by simp,λy hy z hz q=>by
   have:z=a:=by simpa using hz
   rw[q,this] at hy;exact hno (ko.mpr hy)⟩
 .rw[ko,cX,fN] at hb;rcases hb with hb|hb
  .exact(i3 b (ko.mpr hb)).imp (pR _) id
  .have:b=a:=by simpa using hb
   rw[this];exact .inl (kQ _ (aF.mpr rfl))
def Sv.Vv{E:DE}{x ll lw a0 lc:ar}{K:PySem.W.Frag}{p:Int}{j:Fl}{bs:List ar}{W:Ks}{N:Ks}(e:ρ[i]?=some (.cu (aC C x dx (fj p j ll lw a0 bs lc wd (iU (λa=>G.H0 a≠none) lw W) rs N))))(cl:cD K C)(t:bf K C "letters")(w:bf K C "whys")
  (h:E.rt true (.tuple [fL wd, .dict (W.map aH)])):Sv G ρ (pT (qA (aU (ja K (br i) "letters") (aU (ja K (br i) "whys") bK)))) E:=λnb σ H D d KK=>by
 obtain⟨vs,e1,h2,n,h3,len,q,r⟩:=d.kP e;have hml:ll∈bW x dx (fj p j ll lw a0 bs lc wd (iU (λa=>G.H0 a≠none) lw W) rs N):=rK (f:="letters") (fl:= .cu (c9 ll (wd.map aT))) rfl (aF.mpr rfl);have F:lw∈bW x dx (fj p j ll lw a0 bs lc wd (iU (λa=>G.H0 a≠none) lw W) rs N):=rK (f:="whys") (fl:= .cu (iU (λa=>G.H0 a≠none) lw W)) rfl (aF.mpr rfl);obtain⟨g,X,k3,xs,s,I⟩:=r.get (f:="letters") (fl:= .cu (c9 ll (wd.map aT))) rfl;obtain⟨c,u,k,ps,hps,l⟩:=r.get (f:="whys") (fl:= .cu (iU (λa=>G.H0 a≠none) lw W)) rfl;have hno:∀a,G.H0 a=none->NB G.B a->¬G.S (λ_=>False) true a:=λa h0 hN z=>by
  rcases z with z|z|z|z
  .exact z
  .exact d.gA a z h0
  .exact z hN
  .exact z.2 h0
 have own:∀a∈bW x dx (fj p j ll lw a0 bs lc wd (iU (λa=>G.H0 a≠none) lw W) rs N),¬G.S (λ_=>False) true a:=λa m=>hno a (d.cJ a (h2 a m).1 (h2 a m).2) (h2 a m).2;refine⟨.ref x,e1,x,C,dx,vs,g,rfl,q,cl,t,X, .ref x,e1,x,C,dx,vs,c,rfl,q,cl,w,u,by show 2<=sizeLine;decide,λT hT=>?_⟩;have k3:g= .ref ll:=k3;have k:c= .ref lw:=k;subst k3 k;have A:G.H0 T=none:=by
  cases z:G.H0 T with
  |none=>rfl
  |some o=>have:=d.old T o (NB.new d.aq hT) z;rw[hT] at this;cases this
 have v:ah (G.S (λ_=>False) true) H (wd.map aT) xs:=I.kg (yS wd);have J:ao (G.S (λ_=>False) true) H (W.map aH) ps:=l.av λa z=>by
  rcases z with z|z|z|z
  .exact z.elim
  .exact .inl (.inr (.inl z))
  .exact .inl (.inr (.inr (.inl z)))
  .exact .inr z.2
 have y:af (G.S (λ_=>False) true) H (.list (wd.map aT)) (.ref ll):=by unfold af;exact⟨ll,xs,rfl,own ll hml,s,v⟩
 have b:af (G.S (λ_=>False) true) H (.dict (W.map aH)) (.ref lw):=by unfold af;exact⟨lw,ps,rfl,own lw F, .inl hps,J⟩
 have sn:dQ H (upd H T (.tup [.ref ll, .ref lw])):=dU hT;exact KK.rt nb ρ σ true _ _ _ h (d.step (.same d.aq sn)) (.tup (hno T A (NB.new d.aq hT)) aV (.cons (y.keep (bC.of sn)) (.cons (b.keep (bC.of sn)) .nil)))
end L2
namespace L2
def Bk(p n:Int):Prop:=gc p/\p<10^40/\0<=n/\n<=4000
def mV(G:Gx)(ρ:Rh)(te:TE)(Φ:Rh->Bool->List PyData->Prop):Prop:=∀nb σ H (Q:VK),Wd G nb ρ σ H->
 (∀aA L f a xs H1 H' ds,Φ L f ds->Wd G aA L σ H1->Step G.B H1 H'->H1 a=none->H' a=some (.lst xs)->ah (λx=>G.S aA f x\/x=a) H' ds xs->Q (.ref a) H')->te σ H Q
section
variable{G:Gx}{ρ:Rh}{Φ:Rh->Pd}{ta tb te:TE}{t:TA}{K:PySem.W.Frag}{i:Nat}{E:DE}{Θ:Rh->Bool->List PyData->Prop}
def mV.ev(h:mV G ρ te λL f ds=>Φ L f (.list ds)):bz G ρ te Φ:=λnb σ H Q W z=>
 h nb σ H Q W λaA L f a xs H1 H' ds p W1 st n e hd=>z aA L f _ H' _ p (W1.step st) (.lst (W1.fresh n) e (hd.av λ_ x=> .inl x))
def bz.nV(h:bz G ρ ta λL f x=>∃ds,x= .tuple ds/\Ev G L tb λ_ y=>∃k,y= .int k/\∃e,cI ds k=some e/\Φ L f e):bz G ρ (er (dR K) ta tb) Φ:=λnb σ H Q W z=>
 h nb σ H _ W λaA L f u H1 x ⟨ds,ex,q⟩ W1 Y=>q aA σ H1 _ W1 λg v H2 y ⟨k,r,e,he,p⟩ s2 hv=>by
  subst ex r;obtain⟨a,xs,rfl,n,hx,hd⟩:=(Y.keep s2.c8).ofT;obtain⟨w,hw,O⟩:=hd.cI he;exact⟨a,xs,k,w,rfl,hv.bT, .of hx,hw,z aA L f _ H2 _ p (W1.step s2) O⟩
def mV.listOf(h:bz G ρ te λL f x=>∃ds,(x= .list ds\/x= .tuple ds)/\Θ L (f||fE ds) ds):mV G ρ (gk (jQ K) (aU te bK)) Θ:=λnb σ H Q W z=>
 h nb σ H _ W λaA L f v H1 d ⟨ds,e,q⟩ W1 hv=>by
  have fin:∀{f a xs H' ds},Θ L f ds->Step G.B H1 H'->H1 a=none->H' a=some (.lst xs)->ah (λx=>G.S aA f x\/x=a) H' ds xs->Q (.ref a) H':=λp st n e hd=>z aA L _ _ _ H1 _ _ p W1 st n e hd;rcases e with e|e
  .subst e;obtain⟨a,xs,rfl,n,hx,hd⟩:=hv.ig;exact⟨a,xs,rfl, .inl (.of hx),λp hp=>aD.fin W1 (.refl W1.aq) hp hd q λf a xs H' ds=>fin⟩
  .subst e;obtain⟨a,xs,rfl,n,hx,hd⟩:=hv.ofT;exact⟨a,xs,rfl, .inr (.of hx),λp hp=>aD.fin W1 (.refl W1.aq) hp hd q λf a xs H' ds=>fin⟩
def bz.agU{tc:TE}(h:bz G ρ tc λL f x=>∃ks:Ks,x= .dict (ks.map aH)/\Ev G L ta λ_ y=>∃k,y= .int k/\Φ L f ((bJ ks k).getD .none)):bz G ρ (n9 K "dict" Om tc (aU ta bK)) Φ:=λb σ H Q W0 z=>
  h b σ H _ W0 λnb L f v H1 x ⟨ks,ex,q⟩ W1 hv=>by
    subst ex;unfold af at hv;obtain⟨a,ps,rfl,n,hp,hd⟩:=hv;have hN:NB G.B a:=jl λz=>n (.inr (.inr (.inl z)));have j:uf K "dict" (.ref a) H1:=by
      rcases hp with hp|⟨o,hp⟩
      · exact .inr (.inr (.inl ⟨rfl, .inl ⟨_,hp⟩⟩))
      · exact .inr (.inr (.inl ⟨rfl, .inr (.inr ⟨_,_,hp⟩)⟩))
    refine⟨j,?_⟩;refine q nb σ H1 _ W1 λg w H2 y ⟨k,r,p⟩ s2 hw=>?_;subst r;have hd2:=hd.keep s2.c8;have i:Rd H2 a (.dK ps):=by
      rcases hp with hp|⟨o,hp⟩
      · exact .inl (s2.1 _ _ hN hp)
      · exact .inr ⟨o,s2.1 _ _ hN hp⟩
    have hv:=ao.val k hd2;refine⟨a,ps, .inl k,rfl,by rw[hw.bT];rfl,i,?_⟩;cases hk:bJ ks k with
    | none =>
      rw[hk] at hv p;rw[hv];exact z nb L _ _ H2 _ p (W1.step s2) (show af _ _ .none .aN by unfold af;rfl)
    | some d =>
      rw[hk] at hv p;obtain⟨v,e',O⟩:=hv;rw[e'];exact z nb L _ _ H2 _ p (W1.step s2) O
end
noncomputable def jc(n:Int)(c:Pc):List PyData:=(a4 n.toNat).map λ(a:Nat)=>tY (c.wh a)
def xN(n:Int)(c:Pc):(jc n c).length=n.toNat:=by unfold jc;rw[aj,gC]
theorem Kb(f g:Nat->α)(N a:Nat)(v:α)(h:∀i,i<N->g i=if i=a then v else f i):(a4 N).map g=((a4 N).map f).set a v:=by
 apply iu;intro i;rw[bu,mr,aj,gC,bu];by_cases c:i<N
 .rw[jA c];show some (g i)=_;rw[h i c];by_cases c2:a=i;·rw[if_pos c2,if_pos c2.symm,if_pos ∅]
  .rw[if_neg c2,if_neg λz=>c2 z.symm];rfl
 .rw[eO (by rw[gC];omega)];split;·rw[if_neg ∅];rfl
  .rfl
def EH{α:Type}{f g:Nat->α}{N:Nat}(h:∀i,i<N->g i=f i):(a4 N).map g=(a4 N).map f:=r6 λi m=>h i (qW.mp m)
section
variable{p n many:Int}{es ts:aZ}
def X9{a:Int}(h0:0<=a)(h1:a<n):(ir n ts).wh a=(fK ts a).map λx=>kB x.1:=if_pos ⟨h0,h1⟩
variable{c:Pc}{t:Int}
theorem aiw(hl:c.wd.length=n.toNat):(j7 p [] t c).wd=c.wd/\jc n (j7 p [] t c)=jc n c:=by
 constructor
 .apply iu;intro i;by_cases h:i<c.wd.length
  .rw[vG p [] t c h,aL h];cases c.wd[i]<;>rfl
  .rw[eO (by rw[zF];omega),eO ∅]
 .refine EH λi hi=>?_
  congr 1
  show(match c.wh i with|some w=>some w|none=>if 0<=(i:Int)/\(i:Int)<c.wd.length then(fS p [] c.wd i).map λ(x:Int×Int)=>i6 x.1 t else none)=_;cases c.wh i with
  |some w=>rfl
  |none=>show(if 0<=(i:Int)/\(i:Int)<c.wd.length then none else none)=_;split<;>rfl
theorem V6{a:Int}(hl:c.wd.length=n.toNat)(h0:0<=a)(h1:a<n):(j7 p ts t c).wh a=(c.wh a).or ((fS p ts c.wd a).map λ(x:Int×Int)=>i6 x.1 t):=by
 show(match c.wh a with|some w=>some w|none=>if 0<=a/\a<c.wd.length then(fS p ts c.wd a).map λ(x:Int×Int)=>i6 x.1 t else none)=_;cases c.wh a with
 |some w=>rfl
 |none=>rw[if_pos ⟨h0,∅⟩];rfl
end
abbrev CNF:=Cu->List PyData->(Cu->Bool->List PyData->Prop)->Prop
abbrev vj:=List PyData->(Cu->List PyData->Prop)->Prop
def Tt(F:vj):Prop:=∀ds (Φ Ψ:Cu->List PyData->Prop),F ds Φ->(∀c l,Φ c l->Ψ c l)->F ds Ψ
def lY(p n:Int)(prs:aB):Prop:=rY p n prs/\prs.length<=420
theorem Hv{α g:Type}(pos:g->Nat)(val:g->α):∀(ms:List g) (xs:List α) (i:Nat),(ms.map pos).Nodup->i<xs.length->(ms.foldl (λw m=>w.set (pos m) (val m)) xs)[i]?=((ms.find? λm=>decide (pos m=i)).map val).or xs[i]?
  |[],xs,i,_,_=>rfl
  | m :: ms, xs, i, h, hi => by
    rw[bR,gf] at h;rw[tQ,Hv pos val ms _ i h.2 (by rw[gR];exact hi),m5];by_cases c:pos m=i
    · rw[decide_eq_true c]
      have:ms.find? (λm=>decide (pos m=i))=none:=kS.mpr λx hx=>by
        rw[decide_eq_true_eq];exact λz=>h.1 (cM.mpr ⟨x,hx,by rw[z,c]⟩)
      rw[this,c,dB hi]
      rfl
    · rw[decide_eq_false c,bQ c]
def P1{es:aZ}{a k b:Int}(h:fK es a=some (k,b)):(k,fR.lt a b)∈es:=by
  unfold fK at h;obtain⟨q,hq,e⟩:=M4 h;obtain⟨t,d⟩:=q;cases d with
  | lt a' b' =>
    dsimp only at e;split at e;· rename_i c;cases e;rw[<-c];exact hq
    · cases e
  |ck _ _=>cases e
def VY{es:aZ}{a k b:Int}(h:fK es a=none):(k,fR.lt a b)∉es:=λm=>by
 have:=Nd.mp h _ m;simp at this
structure Bo(cs:List aB)(wd:Wo)(es:aZ)(ls:Ks)(ns:List Int):Prop where
 ct:aK es=(g7 ns cs).map λq=>(q.1,q.2,0)
 nl:ns.length=cs.length
 lt:∀k a b,(k,fR.lt a b)∈es↔bJ ls a=some (.int k)/\0<=a/\wd[a.toNat]?=some (some b)
 lv:∀(a:Nat) x,wd[a]?=some (some x)->∃k,bJ ls (a:Int)=some (.int k)
section
variable{p n many:Int}{cs:List aB}{wd w:Wo}{es:aZ}{ls:Ks}{ns:List Int}
def Bo.first(h:Bo cs wd es ls ns){a b k:Int}(hv:bJ ls a=some (.int k))(h0:0<=a)(hw:wd[a.toNat]?=some (some b)):fK es a=some (k,b):=by
  cases e:fK es a with
  |none=>exact absurd ((h.lt k a b).mpr ⟨hv,h0,hw⟩) (VY e)
  | some q =>
    obtain⟨t,b'⟩:=q;obtain⟨g1,_,g2⟩:=(h.lt t a b').mp (P1 e);rw[hv] at g1;rw[hw] at g2;cases g1;cases g2;rfl
def Bo.no(h:Bo cs wd es ls ns){a:Int}(hw:∀b,wd[a.toNat]?≠some (some b)):fK es a=none:=by
  cases e:fK es a with
  |none=>rfl
  | some q =>
    obtain⟨t,b'⟩:=q;exact absurd ((h.lt t a b').mp (P1 e)).2.2 (hw b')
theorem Bo.round(h:Bo cs wd es ls ns){m:cN}(hm:m∈aP p cs w):fS p es w m.1=some (ns.getD m.2.1.toNat 0,m.2.2):=by
  obtain⟨h0,h1,h2,h3⟩:=A4 hm;have hc:m.2.1.toNat<cs.length:=∅
  have hn:m.2.1.toNat<ns.length:=by rw[h.nl];exact hc
  have hz:m.2.1.toNat<(g7 ns cs).length:=by rw[BW];omega
  rw[Bl,h.ct,k4,List.findSome?_eq_some_iff];refine⟨(g7 ns cs).take m.2.1.toNat,(g7 ns cs)[m.2.1.toNat],(g7 ns cs).drop (m.2.1.toNat+1),?_,?_,λx hx=>?_⟩;· rw[<-List.drop_eq_getElem_cons hz,G8]
  · rw[Ef]
    rw[iM,aL hc] at h2;have h2:cQ p cs[m.2.1.toNat] 0 w=some (m.1,m.2.2):=h2;show fZ p w m.1 (ns[m.2.1.toNat],cs[m.2.1.toNat],0)=_;unfold fZ;rw[h2];show(if m.1=m.1 then _ else _)=_;rw[if_pos rfl,iM,aL hn]
    rfl
  · obtain⟨j,O⟩:=iW hx
    rw[yh] at O;split at O
    · rename_i cj
      have b:j<cs.length:=∅
      have c:j<(g7 ns cs).length:=∅
      rw[aL c,Ef] at O;cases O;have h4:=h3 j ∅;rw[iM,aL b] at h4;have h4:∀x,cQ p cs[j] 0 w≠some (m.1,x):=h4;show fZ p w m.1 (ns[j],cs[j],0)=none;unfold fZ;show(match cQ p cs[j] 0 w with|some ax=>_|none=>_)=_;cases e:cQ p cs[j] 0 w with
      |none=>rfl
      | some ax =>
        show(if ax.1=m.1 then _ else _)=_;rw[if_neg λz=>h4 ax.2 (by rw[e,<-z])]
    · cases O
theorem Bo.quiet(h:Bo cs wd es ls ns){a:Int}(hn:∀m∈aP p cs w,m.1≠a):fS p es w a=none:=by
  rw[Bl,h.ct,k4,Nd];intro x hx;obtain⟨j,O⟩:=iW hx;have c:j<(g7 ns cs).length:=(bH.mp O).1;have b:j<cs.length:=by rw[BW] at c;omega
  have d:j<ns.length:=by rw[h.nl];exact b
  rw[aL c,Ef] at O;cases O;show fZ p w a (ns[j],cs[j],0)=none;unfold fZ;show(match cQ p cs[j] 0 w with|some ax=>_|none=>_)=_;cases e:cQ p cs[j] 0 w with
  |none=>rfl
  | some ax =>
    show(if ax.1=a then _ else _)=_;refine if_neg λz=>?_;obtain⟨m,hm,W⟩:=abl (p:=p) (wd:=w) b (a:=ax.1) (x:=ax.2) (by rw[iM,aL b];exact e);exact hn m hm (W.trans z)
noncomputable def p5(ns:List Int)(t:Int)(ws:List PyData)(ms:List cN):List PyData:=ms.foldl (λw m=>w.set m.1.toNat (i6 (ns.getD m.2.1.toNat 0) t)) ws
def Ud{ns:List Int}{t:Int}{m:cN}:p5 ns t ws (ms++[m])=(p5 ns t ws ms).set m.1.toNat (i6 (ns.getD m.2.1.toNat 0) t):=by unfold p5;rw[pN];rfl
def Le{ns:List Int}{t:Int}:∀ms:List cN,(p5 ns t ws ms).length=ws.length:=by
 refine snoc_ind rfl λms m ih=>?_;rw[Ud,gR,ih]
theorem WI{p:Int}{cs:List aB}{w:Wo}(hp:0<p)(h0:∀prs∈cs,∀pr∈prs,0<=pr.1/\pr.1<w.length):((aP p cs w).map λm=>m.1.toNat).Nodup:=by
 refine ow.mpr ((Iw p cs w).imp_of_mem λ{a b} ha hb z=>?_);obtain⟨a0,_⟩:=oV hp ha h0;obtain⟨b0,_⟩:=oV hp hb h0;omega
theorem Bo.step(h:Bo cs wd es ls ns)(hp:0<p){c:Pc}{t:Int}(hl:c.wd.length=n.toNat)(hk:∀a y,c.wh a=some y->0<=a/\∃x,c.wd[a.toNat]?=some (some x))(h0:∀prs∈cs,∀pr∈prs,0<=pr.1/\pr.1<c.wd.length):
    (j7 p es t c).wd=xk c.wd (aP p cs c.wd)/\jc n (j7 p es t c)=p5 ns t (jc n c) (aP p cs c.wd):=by
  have hnd:=WI hp h0;have hf:∀i:Nat,(∃m∈aP p cs c.wd,m.1=(i:Int)/\((aP p cs c.wd).find? λm=>decide (m.1.toNat=i))=some m/\c.wd[i]?=some none)\/(((aP p cs c.wd).find? λm=>decide (m.1.toNat=i))=none/\fS p es c.wd i=none):=λi=>by
    cases e:(aP p cs c.wd).find? λm=>decide (m.1.toNat=i) with
    | some m =>
      have hm:=TN e;have e1:m.1.toNat=i:=of_decide_eq_true (pE (p:=λm:cN=>decide (m.1.toNat=i)) e);obtain⟨a0,_,a1,_⟩:=oV hp hm h0;rw[e1] at a1;exact .inl ⟨m,hm,∅,rfl,a1⟩
    | none =>
      refine .inr ⟨rfl,h.quiet λm hm z=>?_⟩;have:=kS.mp e m hm;rw[decide_eq_true_eq] at this;exact this ∅
  constructor
  · apply iu
    intro i;by_cases hi:i<c.wd.length
    · rw[vG p es t c hi]
      unfold xk;rw[Hv (λm:cN=>m.1.toNat) (λm=>some m.2.2) _ _ i hnd hi];rcases hf i with ⟨m,hm,e1,e2,e3⟩|⟨e2,e3⟩
      · rw[e2,e3,<-e1,h.round hm];rfl
      · rw[e2,e3]
        rw[aL hi];cases c.wd[i]<;>rfl
    · rw[eO (by rw[zF];omega),eO (by rw[nW];omega)]
  · apply iu
    intro i;by_cases hi:i<n.toNat
    · unfold p5
      rw[Hv (λm:cN=>m.1.toNat) (λm=>i6 (ns.getD m.2.1.toNat 0) t) _ _ i hnd (by rw[xN];exact hi)];have hw:∀c':Pc,(jc n c')[i]?=some (tY (c'.wh (i:Int))):=λc'=>by
        unfold jc;rw[bu,jA hi];rfl
      rw[hw,hw,V6 hl ∅ ∅];rcases hf i with ⟨m,hm,e1,e2,e3⟩|⟨e2,e3⟩
      · rw[e2,<-e1,h.round hm]
        cases e:c.wh m.1 with
        |none=>rfl
        | some y =>
          obtain⟨_,x,hx⟩:=hk _ _ e;rw[e1] at hx;rw[show((i:Int)).toNat=i by omega,e3] at hx;cases hx
      · rw[e2,e3]
        cases c.wh (i:Int)<;>rfl
    · rw[eO (by rw[xN];omega),eO (by rw[Le,xN];omega)]
end
section
variable{G:Gx}{ρ:Rh}{te tb:TE}{E:DE}{K:PySem.W.Frag}{i:Nat}
def Sv.agp(h:bz G ρ te λL g d=>∃f ks,L[i]?=some (.bB a f ks)/\Ev G L tb λ_ y=>∃k,y= .int k/\ks.length<10000/\E.nx (L.set i (.bB a (f && g) (eH ks k d)))):Sv G ρ (gu te (lZ (br i) tb vn)) E:=λnb σ H D W KK=>
 h nb σ H _ W λaA L g v H1 d ⟨f,ks,e,q⟩ W1 hv=>by
  obtain⟨x,e1,h1,h2,h3,ps,hp,hd⟩:=W1.ok i _ e;subst h1;refine⟨.ref a,e1,q aA σ H1 _ W1 λg' u H2 y ⟨k,r,hl,p⟩ s2 Y=>?_⟩;subst r;have W2:=W1.step s2;have hlen:=hd.len;refine⟨a,ps, .inl k,rfl,Y.bT,s2.1 _ _ h3 hp,fX (by rw[hlen];exact hl) ⋯,KK.nx aA _ _ _ p (Pk W2 e ?_)⟩;exact ao.put ((hd.keep s2.c8).av (cg (λz=>(fF _ _▸z).1) λ_ z=>z)) ((hv.keep s2.c8).av (cg (λz=>(fF _ _▸z).2) λ_ z=>z))
def Sv.appendS{f:Bool}(O:ρ[i]?=some (.own a f ds))(h:bz G ρ te λL g d=>L[i]?=some (.own a f ds)/\ds.length<10000/\E.nx (L.set i (.own a (f && g) (ds++[d])))):Sv G ρ (nu (n9 K "list" yU (br i) (aU te bK))) E:=λnb σ H D W KK=>by
 obtain⟨A,c1,c2,u,r,ys,hy,hc⟩:=W.ok i _ O;subst c2;refine⟨.ref a,c1, .inl ⟨rfl,_,bL.of hy⟩,h nb σ H _ W λaA L g v H1 d ⟨e,hl,p⟩ W1 hv=>?_⟩;obtain⟨x,e1,h1,h2,h3,xs,hx,hd⟩:=W1.ok i _ e;refine⟨a,xs,v,rfl,rfl,hx,fX (by rw[hd.length];exact hl) ⋯,KK.nx aA _ _ _ p (AN W1 e ?_)⟩;exact ah.snoc (hv.av (cg (λz=>(fF _ _▸z).2) λ_ z=>z)) (hd.av (cg (λz=>(fF _ _▸z).1) λ_ z=>z))
end
structure mD(cs:List aB)(wd:Wo)(i:Nat)(ts:List (Bool×Int)):Prop where
 ck:(ts.filter λq=>!q.1)=(a4 cs.length).map λ(c:Nat)=>(false,(c:Int))
 lt:∀q∈ts,q.1=true->0<=q.2/\q.2<i/\∃x,wd[q.2.toNat]?=some (some x)
 al:∀(a:Nat) x,a<i->wd[a]?=some (some x)->(true,(a:Int))∈ts
 nd:ts.Nodup
 ln:ts.length<=cs.length+i
section
variable{cs:List aB}{wd:Wo}{i m:Nat}{ts:List (Bool×Int)}
def mD.start:mD cs wd 0 ((a4 cs.length).map λ(c:Nat)=>(false,(c:Int))) where
 ck:=KR.mpr λq hq=>by obtain⟨c,_,rfl⟩:=cM.mp hq;rfl
 lt:=λq hq e=>by obtain⟨c,_,rfl⟩:=cM.mp hq;cases e
 al:=λa x h=>absurd h (J6 a)
 nd:=ow.mpr (List.nodup_range.imp λ{a b} h z=>h (by have:=(t5.mp z).2;exact xi this))
 ln:=by rw[aj,gC];exact aW _
theorem mD.skip(h:mD cs wd i ts)(e:wd[i]?≠none->wd[i]?=some none):mD cs wd (i+1) ts where
 ck:=h.ck
 lt:=λq hq e=>by obtain⟨a,b,c⟩:=h.lt q hq e;exact⟨a,∅,c⟩
 al:=λa x ha hx=>by
  by_cases c:a<i;·exact h.al a x c hx
  .have:a=i:=∅
   subst this;have:=e (by rw[hx];exact gx _);rw[hx] at this;cases this
 nd:=h.nd
 ln:=by have:=h.ln;omega
def BN(ts:List α)(m:Nat)(x:α):(ts.take m++x::ts.drop m).Perm (x::ts):=by
 have h:=List.perm_middle (a:=x) (l₁:=ts.take m) (l₂:=ts.drop m);rwa[G8] at h
theorem mD.ins(h:mD cs wd i ts){x:Int}(e:wd[i]?=some (some x)):mD cs wd (i+1) (ts.take m++(true,(i:Int))::ts.drop m) where
 ck:=by
  rw[mS,pW (by simp),<-mS,G8];exact h.ck
 lt:=λq hq e'=>by
  rcases aM.mp ((BN ts m _).mem_iff.mp hq) with z|z
  .subst z;exact⟨by show(0:Int)<=(i:Int);omega,by show(i:Int)<((i+1:Nat):Int);omega,x,e⟩
  .obtain⟨a,b,c⟩:=h.lt q z e';exact⟨a,∅,c⟩
 al:=λa y ha hy=>by
  refine(BN ts m _).mem_iff.mpr ?_;by_cases c:a<i;·exact bV _ (h.al a y c hy)
  .have:a=i:=∅
   subst this;exact bZ
 nd:=(BN ts m _).nodup_iff.mpr (gf.mpr ⟨λz=>by have:=(h.lt _ z rfl).2.1;exact absurd this (yg _),h.nd⟩)
 ln:=by rw[(BN ts m _).length_eq,dM];have:=h.ln;omega
end
structure Tl(cs:List aB)(wd:Wo)(ts:List (Bool×Int))(j:Nat)(es:aZ)(ls:Ks)(ns:List Int):Prop where
 ct:aK es=(g7 ns cs).map λq=>(q.1,q.2,0)
 nl:((ts.take j).filter λq=>!q.1)=(a4 ns.length).map λ(c:Nat)=>(false,(c:Int))
 lt:∀k a b,(k,fR.lt a b)∈es↔bJ ls a=some (.int k)/\0<=a/\wd[a.toNat]?=some (some b)
 lk:∀a,(true,a)∈ts.take j->∃k,bJ ls a=some (.int k)
 ld:∀a d,bJ ls a=some d->(true,a)∈ts.take j
 ll:ls.length<=j
section
variable{p n many:Int}{cs:List aB}{wd:Wo}{i j:Nat}{ts:List (Bool×Int)}{es:aZ}{ls:Ks}{ns:List Int}
def Tl.start:Tl cs wd ts 0 [] [] [] where
 ct:=rfl
 nl:=rfl
 lt:=λk a b=>⟨(λz=>by cases z),(λz=>by cases z.1)⟩
 lk:=λa z=>by cases z
 ld:=λa d z=>by cases z
 ll:=aW _
def Lm(a b:aZ):aK (a++b)=aK a++aK b:=vU
theorem Tl.letter(h:Tl cs wd ts j es ls ns)(hk:bD p n many es)(hn:ts.Nodup){a x:Int}(e:ts[j]?=some (true,a))(h0:0<=a)(hw:wd[a.toNat]?=some (some x)):Tl cs wd ts (j+1) (es++[(many, .lt a x)]) (eH ls a (.int many)) ns:=by
 have f:(true,a)∉ts.take j:=λm=>by
  obtain⟨k,hk'⟩:=iW m;rw[yh] at hk';split at hk'
  .rename_i c
   obtain⟨h1,e1⟩:=bH.mp hk';obtain⟨h2,e2⟩:=bH.mp e;exact tP.mp hn k j h1 h2 c (e1.trans e2.symm)
  .cases hk'
 have hno:bJ ls a=none:=by
  cases z:bJ ls a with
  |none=>rfl
  |some d=>exact absurd (h.ld a d z) f
 have g:dh ls a≠true:=by rw[<-mH,hno];decide
 have hval:∀a',bJ (eH ls a (.int many)) a'=if a'=a then some (.int many) else bJ ls a':=λa'=>N7
 have ht:ts.take (j+1)=ts.take j++[(true,a)]:=xj e;refine⟨?_,?_,λk a' b=>?_,λa' m=>?_,λa' d z=>?_,?_⟩
 .rw[Lm,h.ct];exact ic _
 .rw[ht,mS,h.nl];exact ic _
 .rw[fN,h.lt,hval];by_cases c:a'=a
  .subst c;rw[if_pos rfl,hno];constructor
   .rintro(z|z);·cases z.1
    .cases aF.mp z;exact⟨rfl,h0,hw⟩
   .rintro⟨l,_,z2⟩;rw[hw] at z2;cases l;cases z2;exact .inr (aF.mpr rfl)
  .rw[if_neg c];constructor
   .rintro(z|z);·exact z
    .cases aF.mp z;exact absurd rfl c
   .exact .inl
 .rw[hval];rw[ht,fN] at m;by_cases c:a'=a;·rw[if_pos c];exact⟨_,rfl⟩
  .rw[if_neg c];rcases m with m|m
   .exact h.lk a' m
   .cases aF.mp m;exact absurd rfl c
 .rw[ht,fN];rw[hval] at z;by_cases c:a'=a;·exact .inr (by rw[c];exact aF.mpr rfl)
  .rw[if_neg c] at z;exact .inl (h.ld a' d z)
 .rw[vP g,cP];have:=h.ll;show _+1<=_;omega
theorem Tl.check(h:Tl cs wd ts j es ls ns)(U:mD cs wd i ts){c:Int}(e:ts[j]?=some (false,c)):c=ns.length/\∃prs,cs[ns.length]?=some prs/\Tl cs wd ts (j+1) (es++[(many, .ck prs 0)]) ls (ns++[many]):=by
 have ht:ts.take (j+1)=ts.take j++[(false,c)]:=xj e;have hf:((ts.take (j+1)).filter λq=>!q.1)=((a4 ns.length).map λ(c:Nat)=>(false,(c:Int)))++[(false,c)]:=by
  rw[ht,mS,h.nl];rfl
 have hp:((ts.take (j+1)).filter λq=>!q.1)<+:(a4 cs.length).map λ(c:Nat)=>(false,(c:Int)):=by
  rw[<-U.ck];exact(List.take_prefix (j+1) ts).filter _
 rw[hf] at hp;obtain⟨r,hr⟩:=hp;have hg:((a4 cs.length).map λ(c:Nat)=>(false,(c:Int)))[ns.length]?=some (false,c):=by
  rw[<-hr,u9,fJ (by rw[aj,gC];exact aW _),aj,gC,EJ]
  rfl
 rw[bu] at hg;have hlt:ns.length<cs.length:=by
  have:=congrArg eQ hr;simp at this;omega
 rw[jA hlt] at hg;have hc:c=ns.length:=((t5.mp (gz hg)).2).symm;refine⟨hc,cs[ns.length],aL hlt,?_,?_,λk a' b=>?_,λa' m=>?_,λa' d z=>?_,?_⟩
 .rw[Lm,h.ct];apply iu;intro x;have hz:(g7 ns cs).length=ns.length:=by rw[BW];omega
  rcases HQ x ns.length with z|z|z
  .rw[fO (by rw[aj,hz];exact z),bu,bu]
   congr 1
   rw[(BK (z:=(ns[x],cs[x]))).mpr ⟨aL z,aL ∅⟩,(BK (z:=(ns[x],cs[x]))).mpr ⟨by rw[fO z];exact aL z,aL ∅⟩]
  .subst z;rw[fJ (by rw[aj,hz];exact aW _),aj,hz,EJ,bu];rw[(BK (z:=(many,cs[ns.length]))).mpr ⟨by rw[fJ (aW _),EJ];rfl,aL hlt⟩]
   rfl
  .rw[eO (by rw[cP,aj,hz];show _+1<=_;omega),eO (by rw[aj,BW,cP];show min (_+1) _<=_;omega)]
 .rw[hf,hc,cP,kc,List.range_succ,cX];rfl
 .rw[fN,<-h.lt];exact⟨λz=>z.elim id (λz=>by cases aF.mp z), .inl⟩
 .rw[ht,fN] at m;rcases m with m|m
  .exact h.lk a' m
  .cases aF.mp m
 .rw[ht];exact pR _ (h.ld a' d z)
 .have:=h.ll;omega
def Tl.done(h:Tl cs wd ts j es ls ns)(U:mD cs wd wd.length ts)(O:ts.length<=j):Bo cs wd es ls ns:=by
 have ht:ts.take j=ts:=qp O;refine⟨h.ct,?_,h.lt,λa x hx=>?_⟩
 .have:=h.nl;rw[ht,U.ck] at this;have:=congrArg eQ this;simp at this;exact this.symm
 .exact h.lk a (by rw[ht];exact U.al a x (bH.mp hx).1 hx)
end
section
variable{G:Gx}{ρ:Rh}{i:Nat}{Θ:Rh->Bool->List PyData->Prop}
theorem mV.Oy{F:CF}{c:Cu}{m:Str}{t:TE}(hm:i9 F)(e:ρ[i]?=some (.cu c))(T:c.f=false)
  (hi:∀k c' r,J k c' r->∀S H,c'.P S H->∃a dx fs,c'.v= .ref a/\H a=some (.ins C dx fs)/\fs.lookup m=none)
  (h : Ev G ρ t λ_ d => ∃ n : Nat, d = .int n /\ n <= 4000 /\ J 0 c [] /\ (∀ (k : Nat) c' r, k < n -> J k c' r -> F c' [.int k] λb _ d => J (k + 1) b (r ++ [d])) /\
   ∀c' r,J n c' r->Θ (ρ.set i (.cu c')) false r):mV G ρ (mR (sy (aU t bK)) (gh 0) pD (om C m (cz 2 F) [] E0 (br 1) (aU (br 0) bK)) [none,some i]) Θ:=λnb σ H Q W z=>by
 refine h nb σ H _ W λf v H1 d ⟨n,I,hn,h0,ht,he⟩ st hv=>?_;subst I;rw[hv.bT];have W1:=W.step st;obtain⟨A,e1,c1,c2,c3⟩:=W1.ok i _ e;subst c1;rw[T] at c3;refine⟨n,rfl,∅,∅,λacc g=>?_⟩;have hcl:∀a∈c.F,H1 a≠none:=λa m=>W1.live a (c2 a m).1;have U:∀a o,H1 a=some o->a≠acc:=λa o q z=>by rw[z,g] at q;cases q
 refine R.yG (λk M H'=>∃c' r xs,J k c' r/\M.length=2/\M[1]?=some (some c.v)/\c'.v=c.v/\c'.f=false/\(∀a∈c.F,a∈c'.F)/\(∀a∈c'.F,a∈c.F\/(H1 a=none/\a≠acc))/\(∀a o,a∉c.F->H1 a=some o->H' a=some o)/\H' acc=some (.lst xs)/\(∀a∈c'.F,H' a≠none)/\c'.P (λa=>G.S nb false a\/a=acc\/a∈c'.F) H'/\r.length<=k/\ah (λa=>G.S nb false a\/a=acc\/a∈c'.F) H' r xs) ?_ ?_ ?_
 .refine⟨c,[],[],h0,rfl,?_,rfl,T,λ_ m=>m,λ_ m=> .inl m,λa o _ q=>?_,aV,λa m=>?_,?_,aW _, .nil⟩
  .show some (match σ[i]? with|some v=>v|none=>none)=_;rw[e1]
  .rw[aG (U a o q)];exact q
  .cases q:H1 a with
   |none=>exact absurd q (hcl a m)
   |some o=>rw[aG (U a o q),q];exact gx _
  .have h3:=c.keep (S:=λa=>G.S nb false a\/a=acc) (.of λa o _ q=>by rw[aG (U a o q)];exact q) (H':=upd H1 acc (.lst [])) (c.fresh g c3);refine c.av (λa q=>?_) h3;rcases q with q|q|q
   .exact .inl q
   .exact .inr q
   .exact .inl (.inl (c2 a q).1)
 .rintro k M H' hk ⟨c',r,xs,l,q1,q2,q3,q4,q5,q6,q7,q8,q9,q10,q11,q12⟩;have hk:k<n:=∅
  have y:acc∉c'.F:=λz=>by
   rcases q6 acc z with w|w
   .exact hcl acc w g
   .exact w.2 rfl
  have s0:(M.set 0 (some (V.int (0+(k:Int)))))[0]?=some (some (.int (0+(k:Int)))):=dB ∅;have s1:(M.set 0 (some (V.int (0+(k:Int)))))[1]?=some (some c.v):=by rw[bQ ⋯];exact q2
  obtain⟨ax,dx,fs,g1,g2,X⟩:=hi k c' r l _ _ q10;refine⟨c.v,s1,ax,dx,fs,by rw[<-q3];exact g1,g2,X,⟨.int (0+(k:Int)),s0,?_⟩⟩;have iG:∀a,(G.S nb false a\/a=acc\/a∈c'.F)->H' a≠none:=λa q=>by
   rcases q with q|q|q
   .by_cases hF:a∈c.F;·exact q9 a (q5 a hF)
    .cases w:H1 a with
     |none=>exact absurd w (W1.iG a q)
     |some o=>rw[q7 a o hF w];exact gx _
   .rw[q,q8];exact gx _
   .exact q9 a q
  have hF:=ht k c' r hk l;rw[show(k:Int)=0+(k:Int) by omega] at hF;refine⟨rfl,λa=>G.S nb false a\/a=acc\/a∈c'.F,c',[.int (0+(k:Int))],[.int (0+(k:Int))],by rw[q3];rfl,iG,λa m=> .inr (.inr m),q4,q10, .cons (.int _) .nil,hm _ _ _ _ hF λb f d E v nq to Z hd=>?_⟩;have hnew:∀a∈b.F,a∈c.F\/(H1 a=none/\a≠acc):=λa m=>by
   rcases to.new a m with w|w
   .exact q6 a w
   .by_cases hF:a∈c.F;·exact .inl hF
    .refine .inr ⟨?_,λz=>by rw[z,q8] at w;cases w⟩;cases u:H1 a with
     |none=>rfl
     |some o=>rw[q7 a o hF u] at w;cases w
  have K:∀a o,a∉c.F->H1 a=some o->nq a=some o:=λa o hF w=>by
   refine to.kp a o (λm=>?_) (q7 a o hF w);rcases q6 a m with u|u
   .exact hF u
   .rw[u.1] at w;cases w
  have O:nq acc=some (.lst xs):=to.kp acc _ y q8
  have B:b.P (λa=>G.S nb false a\/a=acc\/a∈b.F) nq:=b.av (λa q=>by
   rcases q with q|q|q
   .exact .inl (.inl q)
   .exact .inl (.inr (.inl q))
   .exact .inr q) Z
  have Rv:acc∉b.F:=λz=>by
   rcases hnew acc z with w|w
   .exact hcl acc w g
   .exact w.2 rfl
  have hd':af (λa=>G.S nb false a\/a=acc\/a∈b.F) nq d v:=hd.av λa q=>by
   rcases q with q|q|q
   .exact .inl (.inl q)
   .exact .inl (.inr (.inl q))
   .exact .inr (.inl q)
  have s:ah (λa=>G.S nb false a\/a=acc\/a∈b.F) nq r xs:=by
   have h5:=jr (P:=λS=>ah S H' r xs) (λz h=>ah.av z h) (λhp h=>ah.fresh hp h) (L:=b.F.filter λa=>(H' a).isNone) (λa m=>tS.mp (iN.mp m).2) q12;have h6:=ah.keep (H':=nq) (λa o n w=>to.kp a o (λm=>n (.inl (.inr (.inr m)))) w) h5;refine h6.av λa q=>?_;rcases q with q|q|q
   .exact .inl (.inl q)
   .exact .inl (.inr (.inl q))
   .rcases to.new a q with w|w
    .exact .inl (.inr (.inr w))
    .exact .inr (iN.mpr ⟨q,tS.mpr w⟩)
  have hup:∀a o,nq a=some o->a≠acc->upd nq acc (.lst (xs++[v])) a=some o:=λa o w n=>by rw[aG n];exact w
  refine⟨_,O,qi (by rw[q12.length];omega:xs.length<=4000) ⋯,?_⟩;have D:∀{ds vs},ah (λa=>G.S nb false a\/a=acc\/a∈b.F) nq ds vs->ah (λa=>G.S nb false a\/a=acc\/a∈b.F) (upd nq acc (.lst (xs++[v]))) ds vs:=λ{ds vs} h=>ah.keep (λa o n w=>hup a o w λz=>n (.inr (.inl z))) h;refine⟨b,r++[d],xs++[v],E,by rw[gR];exact q1,s1,by rw[to.v,q3],to.f,λa m=>to.sub a (q5 a m),hnew,λa o hF w=>?_,aV,λa m=>?_,?_,by rw[cP,kc];omega,D (ah.snoc hd' s)⟩;·rw[aG (U a o w)];exact K a o hF w
  .rw[aG (λz=>Rv (by rw[<-z];exact m))];exact to.lv a m
  .refine b.keep (.of λa o q w=>?_) B;rw[aG];·exact w
   .rintro rfl;rcases q with q|q
    .exact q (.inr (.inl rfl))
    .exact Rv q
 .rintro M H' ⟨c',r,xs,l,q1,q2,q3,q4,q5,q6,q7,q8,q9,q10,q11,q12⟩;have l:J n c' r:=by
   have e:((n:Int)-0).toNat=n:=∅
   first|exact l|(rw[e] at l;exact l)
  have y:acc∉c'.F:=λz=>by
   rcases q6 acc z with w|w
   .exact hcl acc w g
   .exact w.2 rfl
  obtain⟨p,Nh⟩:∃p:Hp,p=λx=>if x=acc then none else H' x:=⟨_,rfl⟩
  have Y:p acc=none:=by rw[Nh];exact if_pos rfl
  have j:∀a,a≠acc->p a=H' a:=λa n=>by rw[Nh];exact if_neg n
  have W2:=W1.yo (c':=c') (H':=p) e (λa o hF w=>by rw[j a (U a o w)];exact q7 a o hF w) q3 (λa m=>(q6 a m).imp id λw=> .inl w.1) (λa m=>?_) ?_
  .have N:dQ p H':=λa o w=>by
    by_cases hz:a=acc;·rw[hz,Y] at w;cases w
    .rw[j a hz] at w;exact w
   refine z _ _ false acc xs p H' r (he c' r l) W2 (.same W2.aq N) Y q8 (q12.av λa q=>?_);rcases q with ((q|q)|q|q|q)|q
   .exact .inl (.inl q)
   .exact .inr (.inr q)
   .exact .inl (.inr (.inl q))
   .exact .inl (.inr (.inr (.inl q)))
   .cases q.1
   .exact .inr (.inl q)
  .have hz:a≠acc:=by
    rintro rfl;rcases m with m|m
    .exact hcl _ m g
    .exact y m
   rw[j a hz];rcases m with m|m
   .exact q9 a (q5 a m)
   .exact q9 a m
  .rw[q4];refine c'.av (λa q=>?_) (c'.keep (S:=λa=>G.S nb false a\/a=acc\/a∈c'.F) (H:=H') (H':=p) (.of λa o q w=>?_) q10)
   .rcases q with (q|q)|q|q|q
    .exact .inl (.inl q)
    .exact .inr (.inr q)
    .exact .inl (.inr (.inl q))
    .exact .inl (.inr (.inr (.inl q)))
    .cases q.1
   .rw[j a ?_];·exact w
    .rintro rfl;rcases q with q|q
     .exact q (.inr (.inl rfl))
     .exact y q
end
noncomputable def lD(n:Nat)(c:Pc)(i:Nat):List PyData:=(a4 n).map λ(a:Nat)=>if a<i then tY (c.wh (a:Int)) else .none
section
variable{n i:Nat}{c:Pc}
def EI:lD n c 0=au n .none:=by
 unfold lD;rw[List.eq_replicate_iff];refine⟨by rw[aj,gC],λb hb=>?_⟩;obtain⟨a,_,rfl⟩:=cM.mp hb;exact if_neg (J6 a)
def XZ:(lD n c i).length=n:=by unfold lD;rw[aj,gC]
theorem Xw:lD n c (i+1)=(lD n c i).set i (tY (c.wh (i:Int))):=Kb _ _ _ _ _ λj _=>by
 by_cases e:j=i;·subst e;rw[if_pos rfl,if_pos (oQ j)]
 .rw[if_neg e];by_cases h:j<i;·rw[if_pos h,if_pos ∅]
  .rw[if_neg h,if_neg ∅]
theorem Md(h:c.wh (i:Int)=none):lD n c (i+1)=lD n c i:=EH λj _=>by
 by_cases e:j=i;·subst e;rw[if_pos (oQ j),if_neg (lg j),h];rfl
 .by_cases h:j<i;·rw[if_pos h,if_pos ∅]
  .rw[if_neg h,if_neg ∅]
def Vl(n:Int):lD n.toNat c n.toNat=jc n c:=EH λj O=>if_pos O
end
theorem Bo.ir{cs:List aB}{wd:Wo}{es:aZ}{ls:Ks}{ns:List Int}(h:Bo cs wd es ls ns):(ir wd.length es).wd=wd:=by
  show(a4 ((wd.length:Int)).toNat).map (λ(i:Nat)=>(fK es i).map (·.2))=wd;apply iu;intro i;rw[bu,show((wd.length:Int)).toNat=wd.length by omega];by_cases hi:i<wd.length
  · rw[jA hi,aL hi]
    show some ((fK es i).map (·.2))=some wd[i];cases e:wd[i] with
    |none=>rw[h.no (a:=(i:Int)) λb z=>by rw[show((i:Int)).toNat=i by omega,aL hi,e] at z;cases z];rfl
    | some x =>
      have hx:wd[i]?=some (some x):=by rw[aL hi,e]
      obtain⟨k,hk⟩:=h.lv i x hx;rw[h.first hk ∅ (by rw[show((i:Int)).toNat=i by omega];exact hx)];rfl
  · rw[eO (by rw[gC];omega),eO ∅];rfl
theorem Mw{p:Int}{cs:List aB}(hp:0<p):∀{k:Nat} {wd:Wo},(∀prs∈cs,∀pr∈prs,0<=pr.1/\pr.1<wd.length)->∀ms∈jL p cs k wd,ms.length<=wd.length
  |0,wd,_,ms,h=>by rw[jL] at h;cases h
  | k + 1, wd, h0, ms, h => by
    rw[jL] at h;split at h;· cases h
    · rcases aM.mp h with rfl|h
      · rw[(ya p cs wd).length_eq];exact yq hp h0 (aW _)
      · have:=Mw hp (k:=k) (wd:=xk wd (aP p cs wd)) (by rw[nW];exact h0) ms h
        rwa[nW] at this
def Qp(hp:0<p)(h0:∀prs∈cs,∀pr∈prs,0<=pr.1/\pr.1<wd.length)(ms:List cN)(h:ms∈iO p cs wd):ms.length<=wd.length:=Mw hp h0 ms h
theorem Tn{p n:Int}{es:aZ}:∀(t:Nat) {a:Int} {w:PyData},(bG p n es t).wh a=some w->(∃k,w=kB k)\/∃k u,w=i6 k u
  | 0, a, w, h => by
    have h:(if 0<=a/\a<n then(fK es a).map λx=>kB x.1 else none)=some w:=h;split at h
    · obtain⟨x,_,rfl⟩:=jJ.mp h
      exact .inl ⟨_,rfl⟩
    · cases h
  | t + 1, a, w, h => by
    have h:(match(bG p n es t).wh a with|some w=>some w|none=>if 0<=a/\a<(bG p n es t).wd.length then(fS p es (bG p n es t).wd a).map λx=>i6 x.1 ((t:Int)+1) else none)=some w:=h;split at h
    · rename_i w' e
      cases h;exact Tn t e
    · split at h
      · obtain⟨x,_,rfl⟩:=jJ.mp h
        exact .inr ⟨_,_,rfl⟩
      · cases h
section
variable{G:Gx}{nb:ar->Prop}{ρ:Rh}{σ:qr}{H:Hp}{i:Nat}{a:ar}{f:Bool}{ds:List PyData}{E:DE}{s:TS}{te:TE}{Φ:Rh->Pd}
def jZ{x y:Sl}{ρ:Rh}{i:Nat}(h:(ρ.set i x)[j]?=some y):(j=i/\y=x)\/(j≠i/\ρ[j]?=some y):=by
 rw[mr] at h;by_cases c:i=j
 .rw[if_pos c] at h;split at h;·exact .inl ⟨c.symm,(gz h).symm⟩
  .cases h
 .rw[if_neg c] at h;exact .inr ⟨cY c,h⟩
def Wd.uq(W:Wd G nb ρ σ H)(e:ρ[i]?=some (.cu (c9 a ds))):Wd G nb (ρ.set i (.own a false ds)) σ H where
 aq:=W.aq
 live:=W.live
 old:=W.old
 cJ:=W.cJ
 gA:=W.gA
 len:=by rw[gR];exact W.len
 gB:=W.gB
 dw:=W.dw
 ok:=λj s h=>by
  rcases jZ h with ⟨rfl,rfl⟩|⟨_,h⟩
  .obtain⟨x,e1,h1,h2,xs,h3,h4⟩:=W.ok j _ e;obtain⟨g1,g2⟩:=h2 a (aF.mpr rfl);exact⟨x,e1,h1,g1,g2,xs,h3,h4⟩
  .exact W.ok j s h
 apart:=λj k b g as c g' cs l h1 h2=>by
  rcases jZ h1 with ⟨rfl,e1⟩|⟨n1,k1⟩
  .rcases jZ h2 with ⟨rfl,_⟩|⟨n2,k2⟩
   .exact absurd rfl l
   .cases e1;exact λz=>W.cL j k _ _ l e k2 a (aF.mpr rfl) (by rw[z];exact aF.mpr rfl)
  .rcases jZ h2 with ⟨rfl,e2⟩|⟨n2,k2⟩
   .cases e2;exact λz=>W.cL k j _ _ (cY l) e k1 a (aF.mpr rfl) (by rw[<-z];exact aF.mpr rfl)
   .exact W.apart j k b g as c g' cs l k1 k2
 fB:=λj k b g as c g' cs l h1 h2=>by
  rcases jZ h1 with ⟨rfl,e1⟩|⟨n1,k1⟩
  .cases e1
  .rcases jZ h2 with ⟨rfl,e2⟩|⟨n2,k2⟩
   .cases e2
   .exact W.fB j k b g as c g' cs l k1 k2
 cL:=λj k c s l h1 h2 b hb=>by
  rcases jZ h1 with ⟨rfl,e1⟩|⟨n1,k1⟩
  .cases e1
  .rcases jZ h2 with ⟨rfl,e2⟩|⟨n2,k2⟩
   .subst e2;exact W.cL j k c _ l k1 e b hb
   .exact W.cL j k c s l k1 k2 b hb
theorem Wd.c9(W:Wd G nb ρ σ H)(e:ρ[i]?=some (.own a f ds)):Wd G nb (ρ.set i (.cu (L2.c9 a ds))) σ H where
  aq:=W.aq
  live:=W.live
  old:=W.old
  cJ:=W.cJ
  gA:=W.gA
  len:=by rw[gR];exact W.len
  gB:=W.gB
  dw:=W.dw
  ok:=λj s h=>by
    rcases jZ h with ⟨rfl,rfl⟩|⟨_,h⟩
    · obtain⟨x,e1,h1,g1,g2,xs,h3,h4⟩:=W.ok j _ e
      exact⟨x,e1,h1,λb m=>by rw[aF.mp m];exact⟨g1,g2⟩,xs,h3,h4.av (cg (λz=>by cases z) λ_ z=>z)⟩
    · exact W.ok j s h
  apart:=λj k b g as c g' cs l h1 h2=>by
    rcases jZ h1 with ⟨rfl,e1⟩|⟨n1,k1⟩
    · cases e1
    · rcases jZ h2 with ⟨rfl,e2⟩|⟨n2,k2⟩
      · cases e2
      · exact W.apart j k b g as c g' cs l k1 k2
  fB:=λj k b g as c g' cs l h1 h2=>by
    rcases jZ h1 with ⟨rfl,e1⟩|⟨n1,k1⟩
    · cases e1
    · rcases jZ h2 with ⟨rfl,e2⟩|⟨n2,k2⟩
      · cases e2
      · exact W.fB j k b g as c g' cs l k1 k2
  cL:=λj k c s l h1 h2 b hb=>by
    rcases jZ h1 with ⟨rfl,e1⟩|⟨n1,k1⟩
    · cases e1
      have p:b=a:=aF.mp hb;subst p;rcases jZ h2 with ⟨rfl,_⟩|⟨n2,k2⟩
      · exact absurd rfl l
      · obtain⟨x,e1,Oz,g1,g2,xs,h3,h4⟩:=W.ok j _ e
        cases s with
        |own c g cs=>exact λz=>W.apart j k b f ds c g cs l e k2 (aF.mp z)
        | bB c g ks =>
          obtain⟨_,_,_,_,_,ps,hp,_⟩:=W.ok k _ k2;exact λz=>by rw[aF.mp z,hp] at h3;cases h3
        |cu c=>exact λz=>W.cL k j c _ (cY l) k2 e b z (aF.mpr rfl)
        |no=>exact λz=>by cases z
        |d _ _=>exact λz=>by cases z
        |aq=>exact λz=>by cases z
        |raw _=>exact λz=>by cases z
    · rcases jZ h2 with ⟨rfl,e2⟩|⟨n2,k2⟩
      · subst e2
        exact W.cL j k c _ l k1 e b hb
      · exact W.cL j k c s l k1 k2 b hb
theorem Sv.uq(i:Nat)(e:ρ[i]?=some (.cu (L2.c9 a ds)))(h:Sv G (ρ.set i (.own a false ds)) s E):Sv G ρ s E:=λnb σ H D W K=>h nb σ H D (W.uq e) K
theorem Sv.c9(i:Nat)(e:ρ[i]?=some (.own a f ds))(h:Sv G (ρ.set i (.cu (L2.c9 a ds))) s E):Sv G ρ s E:=λnb σ H D W K=>h nb σ H D (W.c9 e) K
theorem bz.c9(i:Nat)(h:bz G ρ te λL f d=>∃a g ds,L[i]?=some (.own a g ds)/\Φ (L.set i (.cu (L2.c9 a ds))) f d):bz G ρ te Φ:=λnb σ H Q W z=>h nb σ H Q W λaA L f v H' d ⟨a,g,ds,e,p⟩ W' hv=>z aA _ f v H' d p (W'.c9 e) hv
end
def w9(F:vj):Sp:=λvs H Q _=>vs.length=3/\∃(b l a:ar) (v1:V) (nb:ar->Prop) (d:PyData) (eG:List PyData) (kK:List V),vs=[.ref b,v1, .ref a]/\dO H b l/\gZ nb H/\nb b/\af nb H d v1/\nb a/\(a≠b/\a≠l)/\H a=some (.lst kK)/\ah nb H eG kK/\eG.all gE=true/\
 F [d, .list eG] λc ll=>∀t xs H',bC (Nb b) H H'->dO H' b l->c.f=false->(∀x∈c.F,H x=none/\H' x≠none)->c.P (λx=>nb x\/x∈c.F) H'->H t=none->t∉c.F->H' t=some (.tup (c.v::xs))->ah (λx=>nb x\/x∈c.F) H' ll xs->Q (.ref t) H'
noncomputable def NY(G:Gx)(a:ar)(eG:List PyData)(Φ:Cu->List PyData->Prop):DE where
 nx:=λ_=>False
 rt:=λ_ _=>False
 rw:=λnb ρ v H=>∃c ll t xs g,v= .ref t/\ρ[2]?=some (.own a g eG)/\Φ c ll/\c.f=false/\(∀x∈c.F,nb x/\NB G.B x/\x≠a)/\c.P (G.S nb false) H/\G.H0 t=none/\t≠a/\t∉c.F/\H t=some (.tup (c.v::xs))/\ah (G.S nb false) H ll xs
theorem Qd{S S':ar->Prop}{H H':Hp}:∀{ds:List PyData} {xs ys:List V},ds.all gE=true->ah S H ds xs->ah S' H' ds ys->xs=ys
  |[],_,_,_,h1,h2=>by unfold ah at h1 h2;rw[h1,h2]
  | d :: ds, _, _, h, h1, h2 => by
    rw[qE,fF] at h;unfold ah at h1 h2;obtain⟨x,xs,rfl,a1,b1⟩:=h1;obtain⟨y,ys,rfl,a2,b2⟩:=h2;rw[Qd h.2 b1 b2]
    congr 1
    have h:=h.1;cases d<;>first|(unfold af at a1 a2;rw[a1,a2])|(cases h)
section
variable{N:List Str}{ρ:Rh}{b l a:ar}{v1:V}{nb:ar->Prop}{H:Hp}{d:PyData}{eG:List PyData}{kK:List V}{t:TS}{Q:VK}{Φ:Cu->List PyData->Prop}
def Sv.x4(hN:3<=N.length)(Z:dO H b l)(hl:gZ nb H)(hb:nb b)(hd:af nb H d v1)(ha:nb a)(hab:a≠b/\a≠l)(hx:H a=some (.lst kK))(I:ah nb H eG kK)(R:eG.all gE=true)
  (G:∀c ll t xs H',Φ c ll->bC (Nb b) H H'->dO H' b l->c.f=false->(∀x∈c.F,H x=none/\H' x≠none)->c.P (λx=>nb x\/x∈c.F) H'->H t=none->t∉c.F->H' t=some (.tup (c.v::xs))->ah (λx=>nb x\/x∈c.F) H' ll xs->Q (.ref t) H')
  (y:ρ=[.aq, .d false d, .own a false eG]++au (N.length-3) .no) (h:Sv (ki (some (b,l)) [L2.c9 a eG] H nb) ρ t (NY (ki (some (b,l)) [L2.c9 a eG] H nb) a eG Φ)):t {nx:=λ_ H'=>Q .aN H',rt:=Q} (start N [.ref b,v1, .ref a]) H:=by
 have A:FF [L2.c9 a eG]=[a]:=rfl;refine Sv.Nw (pat:=[false,true]) (cs:=[L2.c9 a eG]) (ds:=[d]) (ws:=[v1]) (ρ:= .aq::gm [false,true] [L2.c9 a eG] [d]++au (N.length-3) .no) (t:=λ_ σ H1=>t {nx:=λ_ H'=>Q .aN H',rt:=Q} σ H1) (Φ:=λ_ _ _=>False) (Q:=λ_ _=>True) trivial (λ_ _ _ _ _ z=>z.elim) ⟨Z,hb,λx m=>by rw[A] at m;rw[aF.mp m];exact hab⟩ ⟨hl,λc m=>by rw[aF.mp m];exact⟨rfl,⟨kK,hx,I⟩,λx m=>by rw[aF.mp m];exact ha⟩,List.pairwise_singleton _ _, .cons hd .nil⟩ rfl (λaA σ H1 D W _=>?_);have W1:=W.uq (i:=2) rfl;have C:∀x,x≠b->NB (some (b,l)) x:=λx n b' w e=>by cases e;exact n
 refine h aA σ H1 _ (by rw[y];exact W1) ⟨λ_ _ _ _ q _=>q.elim,λ_ _ _ _ q _=>q.elim,λ_ _ _ _ q _=>q.elim,λ_ _ _ _ _ _ _ q _ _=>q.elim,λB r k v H2 ⟨c,ll,t',xs,g,ev,e2,p,g0,g1,g2,X,J,u,s,j⟩ W2=>?_⟩;subst ev;have h0:∀x,x≠a->(ki (some (b,l)) [L2.c9 a eG] H nb).H0 x=H x:=λx n=>if_neg λm=>n (aF.mp m);have hA:∀x,nb x->(ki (some (b,l)) [L2.c9 a eG] H nb).S B false x:=λx n=>by
  by_cases c:x=a
  .obtain⟨_,_,_,k1,_⟩:=W2.ok 2 _ e2;rw[c];exact .inl k1
  .exact .inr (.inl ⟨n,λm=>c (aF.mp m)⟩)
 refine G c ll t' xs H2 p (λx o n e=>?_) (W2.aq b l rfl) g0 (λx m=>⟨?_,W2.live x (g1 x m).1⟩) (c.av (λx z=>?_) g2) ?_ u s (j.av λx z=>?_)
 .by_cases c:x=a
  .subst c;obtain⟨_,_,_,_,_,ys,hy,E⟩:=W2.ok 2 _ e2;rw[hx] at e;cases e;rw[hy,Qd R I E]
  .exact W2.old x o (C x n) (by rw[h0 x c];exact e)
 .rw[<-h0 x (g1 x m).2.2];exact W2.cJ x (g1 x m).1 (g1 x m).2.1
 .rcases z with z|z
  .exact hA x z
  .exact .inl (g1 x z).1
 .rw[<-h0 t' J];exact X
 .rcases z with z|z
  .exact hA x z
  .exact .inl (g1 x z).1
end
def XG{F:vj}{Q:VK}{E:XK}(h:w9 F vs H Q E):∃(b l a:ar) (v1:V) (nb:ar->Prop) (d:PyData) (eG:List PyData) (kK:List V) (Φ:Cu->List PyData->Prop),vs=[.ref b,v1, .ref a]/\dO H b l/\gZ nb H/\nb b/\af nb H d v1/\nb a/\(a≠b/\a≠l)/\H a=some (.lst kK)/\ah nb H eG kK/\eG.all gE=true/\
  (∀c ll t xs H',Φ c ll->bC (Nb b) H H'->dO H' b l->c.f=false->(∀x∈c.F,H x=none/\H' x≠none)->c.P (λx=>nb x\/x∈c.F) H'->H t=none->t∉c.F->H' t=some (.tup (c.v::xs))->ah (λx=>nb x\/x∈c.F) H' ll xs->Q (.ref t) H')/\F [d, .list eG] Φ:=by
 obtain⟨_,b,l,a,v1,nb,d,eG,kK,h1,h2,h3,h4,h5,h6,e,g,j,k,i⟩:=h;exact⟨b,l,a,v1,nb,d,eG,kK,_,h1,h2,h3,h4,h5,h6,e,g,j,k,λc ll t xs H' q=>q t xs H',i⟩
section
variable{G:Gx}{ρ:Rh}{te:TE}{K:PySem.W.Frag}{i j k:Nat}{E:DE}{c:Cu}{F:vj}{Φ:Cu->List PyData->Prop}{f g g':Bool}{d e:PyData}{a:ar}{eG:List PyData}
def Sv.Sr(O:ρ[i]?=some (.cu c))(T:c.f=false)(hi:i≠2)(ew:ρ[2]?=some (.own a g' eG))(e1:ρ[j]?=some (.d f d))(e2:ρ[k]?=some (.d g e))(p:Φ c [d,e]):Sv G ρ (pT (qA (aU (br i) (aU (br j) (aU (br k) bK))))) (NY G a eG Φ):=λnb σ H D W KK=>by
 obtain⟨A,s0,h0,c2,u⟩:=W.ok i _ O;subst h0;rw[T] at u;obtain⟨M,s1,v1,rfl,h1⟩:=W.ok j _ e1;obtain⟨Y,s2,U,rfl,h2⟩:=W.ok k _ e2;obtain⟨_,_,_,L,_,_,hw,_⟩:=W.ok 2 _ ew;refine⟨c.v,s0,v1,s1,U,s2,by show 3<=sizeLine;decide,λt ht=>?_⟩;have W1:=W.step (.same W.aq (dU (o:= .tup [c.v,v1,U]) ht));obtain⟨_,_,_,_,r⟩:=W1.ok i _ O;rw[T] at r;obtain⟨_,l,R,k1,d1⟩:=W1.ok j _ e1;obtain⟨_,y,b,k2,X⟩:=W1.ok k _ e2;rw[s1] at l;rw[s2] at y;cases l;cases y;cases k1;cases k2;have hN:NB G.B t:=NB.new W.aq ht;refine KK.rw nb ρ σ _ _ ⟨c,[d,e],t,[v1,U],g',rfl,ew,p,T,λx m=>⟨(c2 x m).1,(c2 x m).2,λz=>W.cL i 2 c _ hi O ew x m (by rw[z];exact aF.mpr rfl)⟩,r,?_,(λz=>by rw[z,hw] at ht;cases ht),λm=>W.live t (c2 t m).1 ht,aV,?_⟩ W1
 .cases q:G.H0 t with
  |none=>rfl
  |some o=>rw[W.old t o hN q] at ht;cases ht
 .unfold ah;refine⟨v1,_,rfl,d1.av (cg (λz=>by cases z) λ_ z=>z),?_⟩;unfold ah;refine⟨U,_,rfl,X.av (cg (λz=>by cases z) λ_ z=>z),?_⟩;unfold ah
  rfl
def Sv.Vg{w:Nat}(hm:Tt F)(hb:ρ[m]?=some .aq)(ew:ρ[w]?=some (.own a f eG))(R:eG.all gE=true)(h:Ev G ρ te λ_ d=>F [d, .list eG] λc l=>∃d1 X,l=[d1,X]/\E.nx (((ρ.set i (.cu c)).set j (.d false d1)).set k (.d false X))):
  Sv G ρ (gu (jh (w9 F) [] E0 (aU (br m) (aU te (aU (br w) bK)))) (rT K 3 (oq (gh i) (oq (gh j) (oq (gh k) xY))))) E:=λnb σ H D W KK=>by
 obtain⟨b,l,Z,e1,B⟩:=W.vg hb;refine⟨.ref b,e1,h nb σ H _ W λf1 v H1 d p s1 hv=>?_⟩;have W1:=W.step s1;obtain⟨A,L,h1,h2,h3,kK,hx,I⟩:=W1.ok w _ ew;subst h1;refine⟨.ref a,L,?_⟩;show w9 F [V.ref b,v,V.ref a] H1 (λx H1=>rT K 3 (oq (gh i) (oq (gh j) (oq (gh k) xY))) x σ H1 D.nx) E0;refine⟨rfl,b,l,a,v,G.S nb false,d,eG,kK,rfl,W1.aq b l Z,W1.iG, .inr (.inr (.inl λn=>n b l Z rfl)),hv.av (cg (λz=>by cases z) λ_ z=>z), .inl h2,⟨h3 b l Z,λx=>?_⟩,hx,I.av (cg (λz=>by cases z) λ_ z=>z),R,hm _ _ _ p λc ll ⟨d1,X,s,q⟩ t xs H' bt u T hnew hP hn e ht hd=>?_⟩
 .obtain⟨_,_,_,_,_,J,M,_⟩:=W1.gB b l Z;have:=W1.cJ a h2 h3;rw[x,M] at this;cases this
 subst s;unfold ah at hd;obtain⟨v1,g,rfl,g1,hd⟩:=hd;unfold ah at hd;obtain⟨U,O,rfl,g2,hd⟩:=hd;unfold ah at hd;subst hd;have st:Step G.B H1 H':= .uT Z bt u;have N:∀x,G.S (λx=>nb x\/x∈c.F) false x->(G.S nb false x\/x∈c.F):=λx z=>by
  rcases z with (z|z)|z|z|z
  .exact .inl (.inl z)
  .exact .inr z
  .exact .inl (.inr (.inl z))
  .exact .inl (.inr (.inr (.inl z)))
  .cases z.1
 have W2:=W1.R3 (i:=i) (c:=c) st (λa m=>(hnew a m).1) (λa m=>(hnew a m).2) (c.av (λa y=>by rw[T] at y;exact y) hP);have W3:=(W2.nX (i:=j) (f:=false) (g1.av N)).nX (i:=k) (f:=false) (g2.av N);exact⟨t,_,rfl, .of ht,rfl,_,_,rfl,_,_,rfl,_,_,rfl,rfl,KK.nx _ _ _ _ q W3⟩
end
theorem Bo.out{n many:Int}{es:aZ}{ls:Ks}(h:Bo cs wd es ls ns)(hok:bD p n many es){y k v:Int}(hy:0<=y)(hv:bJ ls y=some (.int k))(hw:wd[y.toNat]?=some (some v)):Bo cs (wd.set y.toNat none) (jC es k) ls ns:=by
  have hm:(k,fR.lt y v)∈es:=(h.lt k y v).mpr ⟨hv,hy,hw⟩;have d:∀(j:Nat) (x:Int),(wd.set y.toNat none)[j]?=some (some x)->j≠y.toNat/\wd[j]?=some (some x):=λj x e=>by
    by_cases c:j=y.toNat
    · subst c
      rw[dB (bH.mp hw).1] at e;cases e
    · rw[bQ (cY c)] at e
      exact⟨c,e⟩
  refine⟨?_,h.nl,λt a b=>?_,λa x e=>h.lv a x (d a x e).2⟩
  · rw[<-h.ct]
    unfold aK jC;have key:∀l:aZ,(∀q∈l,q.1=k->xJ q=none)->(l.filter λq=>decide (q.1≠k)).filterMap xJ=l.filterMap xJ:=λl=>by
      induction l with
      |nil=>exact λ_=>rfl
      | cons q r ih =>
        intro hq;have ih:=ih λD m=>hq D (bV _ m);by_cases c:q.1=k;· rw[pW (by simp[c]),ih,lF,hq q bZ c]
        · rw[qD (by simp[c]),lF,lF,ih]
    refine key es λq hq c=>?_;have:q=(k,fR.lt y v):=wt c (Az hok.rise (k:=k) (by rw[<-c];exact hq) hm);subst this
    rfl
  · unfold jC
    rw[iN,h.lt];constructor
    · rintro⟨⟨h1,h2,h3⟩,h4⟩
      have h4:t≠k:=of_decide_eq_true h4;refine⟨h1,h2,?_⟩;rw[bQ];· exact h3
      · intro z
        have:a=y:=∅
        subst this;rw[hv] at h1;cases h1;exact h4 rfl
    · rintro⟨h1,h2,h3⟩
      obtain⟨g1,g2⟩:=d _ _ h3;refine⟨⟨h1,h2,g2⟩,decide_eq_true λz=>?_⟩;have z:t=k:=z;subst z;have:=Az hok.rise ((h.lt t a b).mpr ⟨h1,h2,g2⟩) hm;cases this;exact g1 rfl
end L2
namespace K88
open PySem L2
local macro_rules
 |`(#[0,$a,$b])=>do let hR:=dE `hr;`(@bw _ _ _ _ _ _ _ _ _ _ $a (($hR).mono (by decide)) $b (by rfl) (by decide) (by rfl) (by rfl))
 |`(#[1,$a])=>`(@aa _ _ _ _ _ $a ai rfl)
 |`(#[2,$a,$b,$c])=>`(@ay _ _ _ _ _ $a (@ay _ _ _ _ _ $b (@aE _ _ _ (@bE _ _ _ _ $c))))
 |`(#[3,$a])=>`(aY (i:=0) $a rfl (bg rfl))
 |`(#[4,$a])=>`(@jw _ _ _ _ _ _ _ _ (pv 0) $a rfl)
 |`(#[5,$a,$b])=>`(@aa _ _ _ _ _ $a (@aa _ _ _ _ _ $b ai rfl) rfl)
 |`(#[6,$a,$b,$c,$d,$e,$f,$g,$h,$i,$j,$k])=>`(PySem.W.fnOf $a $b (ie $c) (gX $d) (aI $e) .none $f $g $h $i $j $k)
 |`(#[7,$a,$b])=>`(@dW _ _ _ _ _ $a (@dW _ _ _ _ _ $b kO (by rfl)) (by rfl))
 |`(#[8,$a])=>do let kK:=dE `K;`(@aJ _ _ _ _ _ _ (dR $kK) eg $a ak (λ_ _=>rfl))
 |`(#[9,$a,$b])=>do let kK:=dE `K;`(@cO _ _ _ _ _ _ _ _ (fT $kK) gP rfl $a gM $b (by decide) (by decide) (by rfl) (by rfl))
 |`(#[10,$a,$b,$c])=>`(@iS _ _ _ _ _ _ _ _ gy rfl $a $b $c (by intro _;rfl))
 |`(#[11,$a])=>`(@aa _ _ _ _ _ (pv 0) (@aa _ _ _ _ _ $a ai rfl) rfl)
 |`(#[12,$a,$b])=>`(@bh _ _ (3) _ _ _ _ $a rfl (bg rfl) $b (by rfl) (by first|exact .inl rfl|exact .inr rfl|assumption))
 |`(#[13,$a,$b])=>`(@gF _ _ _ _ _ _ (@fy _ _ _ _ _ $a) $b (by rfl) (by rfl) (by rfl))
 |`(#[14,$a,$b])=>do let kK:=dE `K;`(@kT _ _ _ _ _ _ _ _ (jQ $kK) nM rfl $a kJ $b (by decide) (by decide) (by rfl) (by rfl))
 |`(#[15,$a,$b])=>`(@bh _ _ (5) _ _ _ _ $a rfl (bg rfl) $b (by rfl) (by first|exact .inl rfl|exact .inr rfl|assumption))
 |`(#[16,$a,$b,$c])=>`(@iS _ _ _ _ _ _ _ _ gy rfl $a $b (@aE _ _ _ $c) (by intro _;rfl))
 |`(#[17,$a,$b])=>`(@bh _ _ (2) _ _ _ _ $a rfl (bg rfl) $b (by rfl) (by first|exact .inl rfl|exact .inr rfl|assumption))
 |`(#[18,$a,$b,$c])=>do let hR:=dE `hr;`(@pF _ _ _ _ _ _ _ _ _ _ _ _ _ _ $a $b (($hR).mono (by decide)) $c (by rfl) (by rfl) (by rfl))
 |`(#[19,$a,$b])=>do let kK:=dE `K;`(@cO _ _ _ _ _ _ _ _ (nH $kK) pS rfl $a nE $b (by decide) (by decide) (by rfl) (by rfl))
 |`(#[20,$a,$b])=>`(@bh _ _ (6) _ _ _ _ $a rfl (bg rfl) $b (by rfl) (by first|exact .inl rfl|exact .inr rfl|assumption))
 |`(#[21,$a])=>do let hR:=dE `hr;`(@bw _ _ _ _ _ _ _ _ _ _ $a (($hR).mono (by decide)) (@aa _ _ _ _ _ (pv 0) (@aa _ _ _ _ _ ak ai rfl) rfl) (by rfl) (by decide) (by rfl) (by rfl))
 |`(#[22,$a,$b])=>`(@bh _ _ (4) _ _ _ _ $a rfl (bg rfl) $b (by rfl) (by first|exact .inl rfl|exact .inr rfl|assumption))
 |`(#[23,$a,$b])=>`(@bh _ _ (1) _ _ _ _ $a rfl (bg rfl) $b (by rfl) (by first|exact .inl rfl|exact .inr rfl|assumption))
 |`(#[24,$a])=>do let hR:=dE `hr;`(@bw _ _ _ _ _ _ _ _ _ _ $a (($hR).mono (by decide)) (@aa _ _ _ _ _ (pv 1) (@aa _ _ _ _ _ (pv 2) ai rfl) rfl) (by rfl) (by decide) (by rfl) (by rfl))
 |`(#[25,$a])=>do let kK:=dE `K;`(@cO _ _ _ _ _ _ _ _ (fT $kK) gP rfl $a gM (@aa _ _ _ _ _ (pv 1) ai rfl) (by decide) (by decide) (by rfl) (by rfl))
 |`(#[26,$a])=>do let kK:=dE `K;`(@cO _ _ _ _ _ _ _ _ (fT $kK) gP rfl $a gM (@aa _ _ _ _ _ (pv 2) ai rfl) (by decide) (by decide) (by rfl) (by rfl))
noncomputable def top(i:Nat):el:=PySem.Challenge.pw_fewchecks_k88_whole_desk_and_mender.main.body.getD i (.Pass ⟨0,0,0,0⟩)
noncomputable abbrev aiy:el:=top 0
noncomputable abbrev E3:el:=top 8
noncomputable abbrev GB:el:=top 9
noncomputable abbrev Ky:el:=top 10
noncomputable abbrev HL:el:=top 12
noncomputable abbrev HZ:el:=top 13
noncomputable abbrev Es:el:=top 14
noncomputable abbrev GZ:el:=top 15
noncomputable abbrev aif:el:=top 16
noncomputable abbrev Kr:el:=top 18
noncomputable abbrev BY:el:=top 19
noncomputable abbrev ze:el:=top 20
noncomputable abbrev AE:el:=top 21
noncomputable abbrev Em:el:=top 23
noncomputable abbrev JQ:el:=top 26
noncomputable abbrev J7:el:=top 27
noncomputable abbrev Bv:el:=top 30
noncomputable abbrev Ep:el:=top 31
noncomputable abbrev Dq:el:=top 32
noncomputable abbrev Jy:el:=top 33
noncomputable abbrev KI:el:=top 34
noncomputable abbrev BX:el:=top 35
noncomputable abbrev HV:el:=top 36
noncomputable abbrev FY:el:=top 37
noncomputable abbrev sU:el:=top 38
noncomputable abbrev zR:el:=top 39
noncomputable abbrev zP:el:=top 40
noncomputable abbrev AQ:el:=top 41
noncomputable abbrev uL:el:=top 42
noncomputable abbrev Ib:el:=top 43
noncomputable abbrev Bc:el:=top 44
noncomputable abbrev yP:el:=top 45
noncomputable abbrev AR:el:=top 46
noncomputable abbrev z9:el:=top 47
noncomputable abbrev vz:el:=top 48
noncomputable abbrev Bm:el:=top 49
noncomputable abbrev yQ:el:=top 50
noncomputable abbrev nR:el:=top 51
noncomputable abbrev sD:el:=inClass (top 22) 0
noncomputable abbrev rX:el:=inClass (top 22) 1
noncomputable abbrev sC:el:=inClass (top 22) 2
noncomputable abbrev sq:el:=inClass (top 22) 5
noncomputable abbrev qI:el:=inClass (top 25) 0
noncomputable abbrev tw:el:=inClass (top 25) 1
noncomputable abbrev qV:el:=inClass (top 25) 2
noncomputable abbrev uC:el:=inClass (top 28) 0
noncomputable abbrev tN:el:=inClass (top 28) 1
noncomputable abbrev tH:el:=inClass (top 28) 2
noncomputable abbrev uh:el:=inClass (top 28) 3
noncomputable abbrev sM:el:=inClass (top 28) 4
noncomputable abbrev su:el:=inClass (top 28) 5
noncomputable abbrev sX:el:=inClass (top 28) 6
noncomputable abbrev tX:el:=inClass (top 28) 8
abbrev Tb:Prop:=∀{l:PySem.W.OpenLaw} {w:cx} {K:PySem.W.Frag} {h:eh} {mg:Str->Option ag} {fa:ar} {f0 f1 f2 f3 f4 f5 f6 f7 f8 f9 Mp S7 MT Uj TR LY SW Ls MU SX Ob L7 Uc Oa U8 Lf Li Qi KS Sf NT ML f32 MQ Pf CZ tR uA rJ ud tD t8 rS sA sO t6 t7 rH sS tU sJ:ar} (X:K.In h) (G:h.Ns bc mg) (LX:mg "law"=some (.ref fa))
  {Oq Fc:Option ar} {Uv:Array (Option ag)} {OZ Hu GF Jb De JK:ag} {SV OY:Option ar} {RD:Array (Option ag)} {Uq Ul UK NH GY UJ:ag} {LR LI:Option ar} {SO:Array (Option ag)} {Te NU K1 Tq Jo S9:ag} {QC LH:Option ar} {UD:Array (Option ag)} {Q9 S4 RN RC Jl L0:ag} {Oe MK:Option ar} {Sg:Array (Option ag)} {RX OA Nj UO Hf So:ag} {RV MJ:Option ar} {O8:Array (Option ag)} {Qq NG MW S0 JC T7:ag} {T4 PK:Option ar} {Mc:Array (Option ag)} {PN SN SD Lr Il LZ:ag} {OC LL:Option ar} {PU:Array (Option ag)} {Sw RK Ui QY Gh Nq:ag} {P4 Lk:Option ar} {K9:Array (Option ag)} {KY Lq M3 Uz JR Nz:ag} {SJ RE:Option ar} {Pj:Array (Option ag)} {NI Sy MV Pb HG KW:ag} {Td Q5:Option ar} {P5:Array (Option ag)} {LB Ou K4 Me Kd RZ:ag} {Uo L8:Option ar} {Sa:Array (Option ag)} {Su TX R4 Ra E2 MC:ag} {TM Tz:Option ar} {OW:Array (Option ag)} {QV MY Ow TV Hq Si:ag} {Ml Qk:Option ar} {MM:Array (Option ag)} {RJ UR Mj Ng Iz Lc:ag} {L6 P8:Option ar} {Rz:Array (Option ag)} {T6 Lv SG U1 Jk O5:ag} {Rg PM:Option ar} {MD:Array (Option ag)} {SH ON Ub UM Gq Ug:ag}
  {bU:ar} (yH:PySem.W.nsIn K bc "Mender"=some (some (.ref bU))) (Ae:PySem.W.plainGet K bU oC=true) (DC:PySem.W.hasDictIn K bU=true) (yZ:PySem.W.plainOver K bU=true) (AA:PySem.W.findIn K (.ref bU) "__setattr__"=some (some (.builtin "object.__setattr__"))) (yJ:PySem.W.makesIn K bU=true) (D6:PySem.W.keepIn K (.ref bU)=true)
  {aO:ar} (Au:PySem.W.nsIn K bc "Finding"=some (some (.ref aO))) (BB:PySem.W.plainGet K aO oC=true) (B0:PySem.W.hasDictIn K aO=true) (CV:PySem.W.plainOver K aO=true) (AX:PySem.W.findIn K (.ref aO) "__setattr__"=some (some (.builtin "object.__setattr__"))) (Ct:PySem.W.makesIn K aO=true) (Cg:PySem.W.keepIn K (.ref aO)=true)
  {az:ar} (AM:PySem.W.nsIn K bc "Desk"=some (some (.ref az))) (Ah:PySem.W.plainGet K az oC=true) (zh:PySem.W.hasDictIn K az=true) (Dc:PySem.W.plainOver K az=true) (zp:PySem.W.findIn K (.ref az) "__setattr__"=some (some (.builtin "object.__setattr__"))) (B5:PySem.W.makesIn K az=true) (CK:PySem.W.keepIn K (.ref az)=true)
  (kD:PySem.W.findIn K (.ref aO) "letters"=some none)
  (lP:PySem.W.findIn K (.ref aO) "whys"=some none)
  (oK:PySem.W.findIn K (.ref bU) "net"=some none)
  (lA:PySem.W.findIn K (.ref bU) "letters"=some none)
  (oH:PySem.W.findIn K (.ref aO) "p"=some none)
  (oU:PySem.W.findIn K (.ref aO) "check_deeds"=some none)
  (mZ:PySem.W.findIn K (.ref aO) "having"=some none)
  (kY:PySem.W.findIn K (.ref aO) "counts"=some none)
  (j8:PySem.W.findIn K (.ref az) "p"=some none)
  (jn:PySem.W.findIn K (.ref az) "n"=some none)
  (jV:PySem.W.findIn K (.ref az) "letter_deeds"=some none)
  (jX:PySem.W.findIn K (.ref az) "check_deeds"=some none)
  (mO:PySem.W.findIn K (.ref az) "many"=some none)
  (jo:PySem.W.findIn K (.ref az) "last"=some none)
  (d0:aX K "over" "over" E3 f0)
  (d1:aX K "inverse" "inverse" GB f1)
  (d2:aX K "total" "total" Ky f2)
  (d3:aX K "is_check" "is_check" HL f3)
  (d4:aX K "ask_place" "ask_place" HZ f4)
  (d5:aX K "is_letter" "is_letter" Es f5)
  (d6:aX K "ask_letter" "ask_letter" GZ f6)
  (d7:aX K "told_by" "told_by" Kr f7)
  (d8:aX K "told_for" "told_for" BY f8)
  (d9:aX K "round_of" "round_of" ze f9)
  (DR:aX K "copied" "copied" AE Mp)
  (zm:aX K "mended" "mended" Em S7)
  (AL:aX K "first_found" "first_found" JQ MT)
  (BO:aX K "found_by" "found_by" J7 Uj)
  (Ce:aX K "_law_bag" "_law_bag" Bv TR)
  (BP:aX K "_law_draw" "_law_draw" Ep LY)
  (B8:aX K "_law_prime_from" "_law_prime_from" Dq SW)
  (zO:aX K "_law_prime" "_law_prime" Jy Ls)
  (AW:aX K "_law_over" "_law_over" KI MU)
  (Dz:aX K "_law_sum" "_law_sum" BX SX)
  (Ca:aX K "_law_letter" "_law_letter" HV Ob)
  (C0:aX K "_law_factor" "_law_factor" FY L7)
  (Dy:aX K "_law_letters" "_law_letters" sU Uc)
  (zo:aX K "_law_places" "_law_places" zR Oa)
  (zU:aX K "_law_net" "_law_net" zP U8)
  (Am:aX K "_law_planted_check" "_law_planted_check" AQ Lf)
  (zc:aX K "_law_planted" "_law_planted" uL Li)
  (Dm:aX K "_law_any" "_law_any" Ib Qi)
  (Cd:aX K "_law_lossy" "_law_lossy" Bc KS)
  (zV:aX K "_law_copy" "_law_copy" yP Sf)
  (CB:aX K "_law_alike" "_law_alike" AR NT)
  (D3:aX K "_law_gaps" "_law_gaps" z9 ML)
  (DX:aX K "_law_round" "_law_round" vz f32)
  (yF:aX K "_law_told" "_law_told" Bm MQ)
  (zw:aX K "_law_right" "_law_right" yQ Pf)
  (z7:PySem.W.nsIn K bc "law"=some (some (.ref CZ))) (zd:K.lookup CZ=some ⟨OZ,Oq, .func #[6,"law","law",nR,nR,nR,Hu,GF,Jb,Fc,De,JK],Uv⟩) (zv:PySem.W.codeIn K De "law"=true) (Di:PySem.W.keepIn K (.ref CZ)=true)
  (Bp:PySem.W.findIn K (.ref bU) "__init__"=some (some (.ref tR))) (BZ:PySem.W.isFn K (.ref tR)=true) (zX:K.lookup tR=some ⟨Uq,SV, .func #[6,"__init__","Mender.__init__",sD,sD,sD,Ul,UK,NH,OY,GY,UJ],RD⟩) (Dn:PySem.W.codeIn K GY "Mender.__init__"=true) (zf:PySem.W.keepIn K (.ref tR)=true)
  (zj:PySem.W.findIn K (.ref bU) "step"=some (some (.ref uA))) (yM:PySem.W.isFn K (.ref uA)=true) (AF:K.lookup uA=some ⟨Te,LR, .func #[6,"step","Mender.step",rX,rX,rX,NU,K1,Tq,LI,Jo,S9],SO⟩) (CU:PySem.W.codeIn K Jo "Mender.step"=true) (v7:PySem.W.keepIn K (.ref uA)=true)
  (AD:PySem.W.findIn K (.ref bU) "mend"=some (some (.ref rJ))) (DH:PySem.W.isFn K (.ref rJ)=true) (Ay:K.lookup rJ=some ⟨Q9,QC, .func #[6,"mend","Mender.mend",sC,sC,sC,S4,RN,RC,LH,Jl,L0],UD⟩) (zu:PySem.W.codeIn K Jl "Mender.mend"=true) (wL:PySem.W.keepIn K (.ref rJ)=true)
  (C6:PySem.W.findIn K (.ref bU) "word"=some (some (.ref ud))) (Dg:PySem.W.isFn K (.ref ud)=true) (DP:K.lookup ud=some ⟨RX,Oe, .func #[6,"word","Mender.word",sq,sq,sq,OA,Nj,UO,MK,Hf,So],Sg⟩) (Ck:PySem.W.codeIn K Hf "Mender.word"=true) (wF:PySem.W.keepIn K (.ref ud)=true)
  (Bh:PySem.W.findIn K (.ref aO) "__init__"=some (some (.ref tD))) (Dk:PySem.W.isFn K (.ref tD)=true) (yz:K.lookup tD=some ⟨Qq,RV, .func #[6,"__init__","Finding.__init__",qI,qI,qI,NG,MW,S0,MJ,JC,T7],O8⟩) (zq:PySem.W.codeIn K JC "Finding.__init__"=true) (DU:PySem.W.keepIn K (.ref tD)=true)
  (zL:PySem.W.findIn K (.ref aO) "take"=some (some (.ref t8))) (Cm:PySem.W.isFn K (.ref t8)=true) (DM:K.lookup t8=some ⟨PN,T4, .func #[6,"take","Finding.take",tw,tw,tw,SN,SD,Lr,PK,Il,LZ],Mc⟩) (BS:PySem.W.codeIn K Il "Finding.take"=true) (uS:PySem.W.keepIn K (.ref t8)=true)
  (BA:PySem.W.findIn K (.ref aO) "found_in"=some (some (.ref rS))) (DN:PySem.W.isFn K (.ref rS)=true) (DG:K.lookup rS=some ⟨Sw,OC, .func #[6,"found_in","Finding.found_in",qV,qV,qV,RK,Ui,QY,LL,Gh,Nq],PU⟩) (Ea:PySem.W.codeIn K Gh "Finding.found_in"=true) (uK:PySem.W.keepIn K (.ref rS)=true)
  (CL:PySem.W.findIn K (.ref az) "__init__"=some (some (.ref sA))) (D4:PySem.W.isFn K (.ref sA)=true) (AS:K.lookup sA=some ⟨KY,P4, .func #[6,"__init__","Desk.__init__",uC,uC,uC,Lq,M3,Uz,Lk,JR,Nz],K9⟩) (Bj:PySem.W.codeIn K JR "Desk.__init__"=true) (Ak:PySem.W.keepIn K (.ref sA)=true)
  (CS:PySem.W.findIn K (.ref az) "letter"=some (some (.ref sO))) (DB:PySem.W.isFn K (.ref sO)=true) (BF:K.lookup sO=some ⟨NI,SJ, .func #[6,"letter","Desk.letter",tN,tN,tN,Sy,MV,Pb,RE,HG,KW],Pj⟩) (Du:PySem.W.codeIn K HG "Desk.letter"=true) (yb:PySem.W.keepIn K (.ref sO)=true)
  (z5:PySem.W.findIn K (.ref az) "check"=some (some (.ref t6))) (DA:PySem.W.isFn K (.ref t6)=true) (C9:K.lookup t6=some ⟨LB,Td, .func #[6,"check","Desk.check",tH,tH,tH,Ou,K4,Me,Q5,Kd,RZ],P5⟩) (Aa:PySem.W.codeIn K Kd "Desk.check"=true) (xu:PySem.W.keepIn K (.ref t6)=true)
  (CH:PySem.W.findIn K (.ref az) "new_number"=some (some (.ref t7))) (z6:PySem.W.isFn K (.ref t7)=true) (Dh:K.lookup t7=some ⟨Su,Uo, .func #[6,"new_number","Desk.new_number",uh,uh,uh,TX,R4,Ra,L8,E2,MC],Sa⟩) (yu:PySem.W.codeIn K E2 "Desk.new_number"=true) (vC:PySem.W.keepIn K (.ref t7)=true)
  (yD:PySem.W.findIn K (.ref az) "take_back"=some (some (.ref rH))) (Be:PySem.W.isFn K (.ref rH)=true) (DJ:K.lookup rH=some ⟨QV,TM, .func #[6,"take_back","Desk.take_back",sM,sM,sM,MY,Ow,TV,Tz,Hq,Si],OW⟩) (BH:PySem.W.codeIn K Hq "Desk.take_back"=true) (ye:PySem.W.keepIn K (.ref rH)=true)
  (Bb:PySem.W.findIn K (.ref az) "found"=some (some (.ref sS))) (AI:PySem.W.isFn K (.ref sS)=true) (CN:K.lookup sS=some ⟨RJ,Ml, .func #[6,"found","Desk.found",su,su,su,UR,Mj,Ng,Qk,Iz,Lc],MM⟩) (Dd:PySem.W.codeIn K Iz "Desk.found"=true) (vo:PySem.W.keepIn K (.ref sS)=true)
  (CG:PySem.W.findIn K (.ref az) "known"=some (some (.ref tU))) (yC:PySem.W.isFn K (.ref tU)=true) (As:K.lookup tU=some ⟨T6,L6, .func #[6,"known","Desk.known",sX,sX,sX,Lv,SG,U1,P8,Jk,O5],Rz⟩) (yL:PySem.W.codeIn K Jk "Desk.known"=true) (vV:PySem.W.keepIn K (.ref tU)=true)
  (Bu:PySem.W.findIn K (.ref az) "why"=some (some (.ref sJ))) (Br:PySem.W.isFn K (.ref sJ)=true) (AH:K.lookup sJ=some ⟨SH,Rg, .func #[6,"why","Desk.why",tX,tX,tX,ON,Ub,UM,PM,Gq,Ug],MD⟩) (zG:PySem.W.codeIn K Gq "Desk.why"=true) (wo:PySem.W.keepIn K (.ref sJ)=true)
  (zg:PySem.W.nsIn K bc "abs"=some none)
  (Dj:PySem.W.nsIn K bc "all"=some none)
  (D7:PySem.W.nsIn K bc "bool"=some none)
  (yy:PySem.W.nsIn K bc "int"=some none)
  (yW:PySem.W.nsIn K bc "isinstance"=some none)
  (CY:PySem.W.nsIn K bc "len"=some none)
  (yT:PySem.W.nsIn K bc "list"=some none)
  (Df:PySem.W.nsIn K bc "min"=some none)
  (C5:PySem.W.nsIn K bc "range"=some none)
  (Cy:PySem.W.nsIn K bc "set"=some none)
  (CI:PySem.W.nsIn K bc "sorted"=some none)
  (Ds:PySem.W.nsIn K bc "str"=some none)
  (Co:PySem.W.nsIn K bc "sum"=some none)
  (zz:PySem.W.nsIn K bc "tuple"=some none),
  ∃fd:eI,(∀(s:aw) (v:ag),oI s fd ⟨[v],[]⟩ [("script",v)])/\∀base:eh,K.In base->base.Ns bc mg->bA l.prog w K mg base bF 10 fa fd ["script"] (yE K)
def walk{q:bo}{c:List Str}{A:cx->eh->Prop}{d:DefRec}{K:Params->PySem.W.Frag}(hn:l.most=some 63)(y:d.params.defaults=[])
  (hY:∀(w:cx) (h:eh),A w h->(K w.params).In h)
  (F : ∀ (w : World) (mg : Str -> Option Value) (i : Addr) (h : Heap), (K w.params).In h -> h.Ns mainGlobals mg -> mg d.name = some (.ref i) ->
   ∃fd:eI,(∀(s:aw) (u:ag),oI s fd ⟨[u],[]⟩ [("script",u)])/\∀base:eh,(K w.params).In base->base.Ns bc mg->bA l.prog w (K w.params) mg base bF 10 i fd ["script"] (yE (K w.params))):
  PySem.W.WalkO q c D A l.row.toRowW d [] (λf vs=>PySem.call f vs):=
 L2.BV (n:=63) (k:=10) (x:="script") (CX:=λ_=>bF) (sp:=λw=>yE (K w.params)) hn ⋯ y ⟨rfl,⋯,⋯⟩ hY F (λ_ _ a ns hl _ N=>⟨a,ns,rfl,N,hl,λ_=>rfl⟩) λ_ _ _ _ _ z=>z
local macro_rules| `(tactic|walk_at "d0")=> `(tactic|first|omega (config := {})|assumption|decide|(unfold Sm at*;omega (config := {}))|(unfold Bx;omega (config := {}))|(unfold Ek;decide)|(unfold Ek;omega (config := {})))
local macro_rules| `(tactic|walk_at "ds")=> `(tactic|((try dsimp only);first|walk_at "d0" |(refine xc ?_ ?_<;>walk_at "d0")|(refine bg ?_;walk_at "d0")|(refine e0 (xc ?_ ?_)<;>walk_at "d0")))
local macro_rules| `(tactic|walk_at "s1")=> `(tactic|with_reducible first
 |refine R.seq ?_|refine R.asg ?_|refine R.setC ?_|refine R.mJ ?_|refine R.ret ?_|refine R.next ?_|refine R.c ?_|refine R.op ?_|refine R.test ?_|refine R.bl ?_|refine R.tru ?_
 |refine R.and ?_|refine R.notV ?_|refine R.cb ?_|refine R.call ?_|refine R.nil ?_|refine R.cons ?_
 |refine R.lst ?_|refine R.sl ?_|refine R.Vj ?_|refine R.part ?_|refine R.tyInt ?_|refine R.Rj ?_|refine R.Qr ?_|refine R.W7 ?_|refine R.V4 ?_|refine R.vp ?_
 |refine R.jk ?_|refine R.Wu ?_|refine R.neI ?_|refine R.eqNI ?_|refine R.eqIN ?_|refine R.isI ?_|refine R.TH ?_|refine R.US ?_|refine R.bits ?_
 |refine zN ?_|refine MG ?_|refine R.nilE ?_|refine R.isiII ?_|refine R.isiIB ?_|refine R.rng1 ?_|refine R.Ys ?_|refine R.iL ?_|refine R.ahN ?_|refine R.comp ?_)
local macro_rules| `(tactic|walk_at "st")=> `(tactic|repeat (first
 |walk_at "s1"
 |((with_reducible refine' R.var ?h0 ?_);(case h0=>rfl))
 |((with_reducible refine' R.rI ?h1 ?_);(case h1=>walk_at "ds"))
 |((with_reducible refine' R.KA (o:= .lst []) ?h1 ?_);(case h1=>rfl))
 |((with_reducible refine' R.AG ?h0 ?h1 ?_);(case h0=>assumption);(case h1=>rfl))
 |((with_reducible refine' R.ixTM ?h0 ?h1 ?_);(case h0=>assumption);(case h1=>rfl))
 |((with_reducible refine' R.jt ?h1 ?_);(case h1=>rfl))
 |((with_reducible refine' R.setM ?h0 ?h1 ?_);(case h0=>assumption);(case h1=>rfl))
 |((with_reducible refine' R.Vp ?h0 ?_);(case h0=>assumption))
 |((with_reducible refine' R.lenL ?h0 ?_);(case h0=>assumption))
 |((with_reducible refine' R.rng1I ?h0 ?h1 ?_);(case h0=>walk_at "ds");(case h1=>walk_at "ds"))
 |((with_reducible refine' R.afb ?h0 ?_);(case h0=>walk_at "ds"))
 |((with_reducible refine' R.By ?h0 ?_);(case h0=>assumption))
 |((with_reducible refine' R.UW ?h0 ?_);(case h0=>first|exact R.dT (by omega (config := {}))|exact R.NL (by omega (config := {}))|decide))
 |((with_reducible refine' R.O6 ?h0 ?_);(case h0=>first|exact R.dF (by omega (config := {}))|exact R.LK (by omega (config := {}))|decide))
 |(with_reducible refine R.aaR ?_)|(with_reducible refine R.Cs ?_)))
local macro_rules| `(tactic|walk_at "mo")=> `(tactic|repeat (first|refine Exists.imp fun _=>?_|refine And.imp_right ?_))
local macro_rules| `(tactic|walk_at "fv")=> `(tactic|first|exact bg rfl|exact e0 (bg rfl)|exact e0 (e0 (bg rfl))|exact e0 (e0 (e0 (bg rfl)))|exact e0 (e0 (e0 (e0 rfl))))
local macro_rules| `(tactic|walk_at "d1")=> `(tactic|with_reducible first
 |refine Sv.seq ?_|refine Sv.AJ ?_|refine Sv.asg ?_|refine Sv.Fu ?_|refine Sv.mJ ?_|refine Sv.ret ?_|refine Sv.next ?_|refine Sv.retN ?_
 |refine Ev.int ?_|refine Ev.bl ?_|refine Ev.aN ?_|refine Ev.jk ?_|refine Ev.Xb ?_|refine Ev.rI ?_|refine Ev.rU ?_|refine Ev.eq ?_|refine Ev.ne ?_|refine Ev.is ?_|refine Ev.adp ?_|refine Ev.eqD ?_|refine Ev.str ?_|refine Ev.NC ?_
 |refine Ev.JA ?_|refine Ev.orV ?_|refine Ev.notV ?_|refine Ev.x6 ?_|refine Tv.test ?_|refine Tv.and ?_|refine Tv.or ?_|refine Tv.not ?_|refine Tv.vp ?_|refine Tv.rR ?_
 |refine Ev.JG ?_|refine Ev.lst ?_|refine Av.nil ?_|refine Av.cons ?_|refine Av.Yx ?_|refine Ov.none ?_|refine Ov.some ?_|refine Ev.min2 ?_|refine Ev.max2 ?_|refine Ev.X3 ?_
 |refine R.di ?_|refine R.db ?_|refine R.dl ?_|refine R.dt ?_|refine R.YL ?_|refine R.Vu ?_|refine R.ahO ?_|refine R.eqni ?_|refine R.eqin ?_|refine R.eqnn ?_|refine R.VR ?_
 |refine Gv.nN ?_|refine Gv.nameB ?_|refine Gv.X6 ?_|refine Gv.ahi ?_|refine Gv.JU ?_|refine Gv.VE ?_|refine Gv.Xo ?_|refine zN ?_|refine MG ?_)
local macro_rules| `(tactic|walk_at "dt")=> `(tactic|repeat (first
 |((with_reducible refine' Sv.retOwn ?h0 ?_);(case h0=>rfl))
 |((with_reducible refine' Sv.Ie ?h0 ?_);(case h0=>rfl))
 |walk_at "d1"
 |((with_reducible refine' Ev.var ?h0 ?_);(case h0=>rfl))
 |((with_reducible refine' Ev.draw ?h0 ?_);(case h0=>rfl))
 |((with_reducible refine' Ev.YF ?h0 ?_);(case h0=>rfl))
 |((with_reducible refine' Ev.XA ?h0 ?_);(case h0=>rfl))
 |((with_reducible refine' Ev.C1 ?h0 ?_);(case h0=>rfl))
 |((with_reducible refine' Ev.slOwn ?h0 ?_);(case h0=>rfl))
 |((with_reducible refine' Sv.append ?h0 ?_);(case h0=>rfl))
 |((with_reducible refine' Sv.Ie ?h0 ?_);(case h0=>rfl))
 |((with_reducible refine' Sv.retOwn ?h0 ?_);(case h0=>rfl))
 |((with_reducible refine' Gv.tup ?h0 ?_);(case h0=>rfl))
 |((with_reducible refine' R.at_ ?h0 ?_);(case h0=>first|rfl|assumption))
 |(with_reducible refine Ev.zr ?_)|(with_reducible refine Ev.nV ?_)|(with_reducible refine Ev.listOf ?_)|(with_reducible refine Ev.sl ?_)|(with_reducible refine Ev.cat ?_)|(with_reducible refine Ev.CP ?_)
 |((with_reducible refine' Ev.isi ?h0 ?_);(case h0=>walk_at "fv"))
 |((with_reducible refine' Ev.aaL ?h0 ?h1 ?_);(case h0=>walk_at "fv");(case h1=>walk_at "fv"))
 |(with_reducible refine Ev.all ?_)|(with_reducible refine Ev.sum ?_)|(with_reducible refine Ev.KA ?_)
 |((with_reducible refine' R.acf ?_))
 |((with_reducible refine' R.UW ?h0 ?_);(case h0=>first|exact R.dT (by omega (config := {}))|exact R.NL (by omega (config := {}))|rfl))
 |((with_reducible refine' R.O6 ?h0 ?_);(case h0=>first|exact R.dF (by omega (config := {}))|exact R.LK (by omega (config := {}))|exact eB))
 |((with_reducible refine' R.VZ ?h0 ?_);(case h0=>first|walk_at "ds" |exact iQ rfl))))
local macro_rules| `(tactic|walk_at "wk")=> `(tactic|repeat (first|exact Wk.nil|apply Wk.no|apply Wk.eq))
section
variable{P:bo}{w:cx}{K:PySem.W.Frag}{mg:Str->Option ag}{base:eh}{f:ar}{fd:eI}
def mE:bS ["p","b","last_rest","last_times","rest","times","quotient","next_rest","next_times"] ["p","b"] (aI GB):=⟨rfl,rfl,rfl,by decide+kernel,rfl,by decide+kernel,by decide+kernel⟩
theorem IH(F:bI K "inverse" "inverse" GB f fd):
  bA P w K mg base bF 1 f fd ["p","b"] MZ:=by
 refine F.ok mE (λvs H Q E h=>?_) (λcdv A outer s H vs Q E hr h=>?_)
 .obtain⟨p,b,rfl,hp,i,hb,q⟩:=h
  rfl
 obtain⟨p,b,rfl,hp,i,hb,q⟩:=h;refine⟨_,(@ay _ _ _ _ _ #[17,mE.nd,pv 0] (@ay _ _ _ _ _ (@bh _ _ (3) _ _ _ _ mE.nd rfl (bg rfl) ak (by rfl) (by first|exact .inl rfl|exact .inr rfl|assumption)) (@ay _ _ _ _ _ #[22,mE.nd,@aR _ _ _ _ _ _ _ _ jU (pv 1) (pv 0)] #[2,@bh _ _ (5) _ _ _ _ mE.nd rfl (bg rfl) ak (by rfl) (by first|exact .inl rfl|exact .inr rfl|assumption),@BC _ _ _ _ _ _ gy (@bN _ _ _ _ _ _ _ _ oG (pv 4) ak (bM _)) (@ay _ _ _ _ _ #[20,mE.nd,@aR _ _ _ _ _ _ _ _ rC (pv 2) (pv 4)] (@ay _ _ _ _ _ (@bh _ _ (7) _ _ _ _ mE.nd rfl (bg rfl) (@aR _ _ _ _ _ _ _ _ m8 (pv 2) (@aR _ _ _ _ _ _ _ _ ku (pv 6) (pv 4))) (by rfl) (by first|exact .inl rfl|exact .inr rfl|assumption)) (@ay _ _ _ _ _ (@bh _ _ (8) _ _ _ _ mE.nd rfl (bg rfl) (@aR _ _ _ _ _ _ _ _ m8 (pv 3) (@aR _ _ _ _ _ _ _ _ ku (pv 6) (pv 5))) (by rfl) (by first|exact .inl rfl|exact .inr rfl|assumption)) (@ay _ _ _ _ _ #[17,mE.nd,pv 4] (@ay _ _ _ _ _ #[12,mE.nd,pv 5] (@ay _ _ _ _ _ #[22,mE.nd,pv 7] (@aE _ _ _ #[15,mE.nd,pv 8]))))))),@aR _ _ _ _ _ _ _ _ jU (pv 3) (pv 0)]))),?_⟩;have hp2:=hp.1;walk_at "st";refine ag1 (λσ H1=>H1=H/\∃(L lt r t:Int) (N S B:Option V),σ=[some (.int p),some (.int b),some (.int L),some (.int lt),some (.int r),some (.int t),N,S,B]/\Eu p b L lt r t) (λ(σ:qr) (_:Hp)=>match σ[4]? with|some (some (V.int r))=>r.toNat|_=>0) ⟨rfl,_,_,_,_,_,_,_,rfl,Eu.start hp2⟩ ?_ ?_
 .rintro σ H1 ⟨rfl,L,lt,r,t,N,S,B,rfl,E⟩;obtain⟨l,y⟩:=E.tb;have e1:=E.l0;have e2:=E.r0;have e3:=E.lp;have e4:=E.rp;walk_at "st";refine tT (λc=>?_) (λc=>?_)
  .have c:r≠0:=of_decide_eq_true c;have hr:0<r:=∅
   have J:0<=L/r:=vF ∅ ∅;have M:L/r<=L:=FA _ ∅;obtain⟨g,j⟩:=E.next hr
   walk_at "st";refine⟨⟨rfl,_,_,_,_,_,_,_,rfl,g⟩,?_⟩;show(L-L/r*r).toNat<r.toNat;omega
  .have c:r=0:=by simpa using c
   subst c;walk_at "st";exact q _ (jM _ ∅) (jK _ ∅) (E.fin hp hb)
 .exact λσ H Q d h ⟨v,e,s,k,I,z⟩=>⟨v,e,s,k,I,h _ _ z⟩
def Hn:bS ["p","a","b"] ["p","a","b"] (aI E3):=⟨rfl,rfl,rfl,by decide+kernel,rfl,by decide+kernel,by decide+kernel⟩
theorem Zj(F:bI K "over" "over" E3 f fd)(c:Callee P w K mg base "inverse" 1 ["p","b"] MZ):
  bA P w K mg base bF 2 f fd ["p","a","b"] G1:=by
 refine F.ok Hn (λvs H Q E h=>?_) (λcdv A outer s H vs Q E hr h=>?_)
 .obtain⟨p,a,b,rfl,hp,i,hb,a1,a2,q⟩:=h
  rfl
 obtain⟨p,a,b,rfl,hp,i,hb,a1,a2,q⟩:=h;refine⟨_,(@aE _ _ _ (@bE _ _ _ _ (@aR _ _ _ _ _ _ _ _ jU (@aR _ _ _ _ _ _ _ _ ku (pv 1) #[0,c,@aa _ _ _ _ _ (pv 0) (@aa _ _ _ _ _ (pv 2) ai rfl) rfl]) (pv 0)))),?_⟩;have hp2:=hp.1;walk_at "st";refine⟨p,b,rfl,hp,i,hb,λu u1 u2 ⟨k,hk⟩=>?_⟩;walk_at "st";refine q _ (jM _ ∅) (jK _ ∅) ⟨a*k-a*u/p*b,?_⟩;have e:=pM (a*u) p;have e2:a*u%p=a*u-p*(a*u/p):=∅
 have e3:b*(a*u)=a*(u*b):=by rw[qd b,lG]
 rw[e2,oR,e3,hk,AV,BI,oR,<-lG a p k,qd a p,lG p a k,qd b (p*_),lG p];omega
def vB:bS ["p","pairs","word","reached","place","factor"] ["p","pairs","word"] (aI Ky):=⟨rfl,rfl,rfl,by decide+kernel,rfl,by decide+kernel,by decide+kernel⟩
theorem YU(F:bI K "total" "total" Ky f fd):
    bA P w K mg base bF 1 f fd ["p","pairs","word"] FN:=by
  refine F.ok vB (λvs H Q E h=>?_) (λcdv A outer s H vs Q E hr h=>?_)
  · obtain⟨nb,p,b,d,prs,wd,rfl,hA,hC,hp,h1,h2,q⟩:=h
    rfl
  obtain⟨nb,p,b,d,prs,wd,rfl,hA,hC,hp,h1,h2,q⟩:=h;refine⟨_,#[2,@bh _ _ (3) _ _ _ _ vB.nd rfl (bg rfl) ak (by rfl) (by first|exact .inl rfl|exact .inr rfl|assumption),#[16,gH (K:=K) rfl (pv 1),(PZ rfl #[7,aY (i:=4) vB.nd rfl (bg rfl),aY (i:=5) vB.nd rfl (bg rfl)]),@dZ _ _ _ _ _ _ _ _ (@bN _ _ _ _ _ _ _ _ qX (@aJ _ _ _ _ _ _ _ bY (pv 2) (pv 4) (λ_ _=>rfl)) jf (bM _)) (@aE _ _ _ #[12,vB.nd,@aR _ _ _ _ _ _ _ _ jU (@aR _ _ _ _ _ _ _ _ iA (pv 3) (@aR _ _ _ _ _ _ _ _ ku (pv 5) (@aJ _ _ _ _ _ _ _ bY (pv 2) (pv 4) (λ_ _=>rfl)))) (pv 0)]) eV],pv 3],?_⟩;obtain⟨a,xs,rfl,na,ha,g⟩:=hA.ig;obtain⟨c,ws,rfl,nc,hc,j⟩:=hC.ig;have wG:=g.length;rw[aj] at wG;have ew:=PJ j;subst ew;walk_at "st";refine R.By (bL.of ha) ?_;refine G9 (xs:=xs) (λi σ H1=>H1=H/\∃(r:Int) (x y:Option V),σ=[some (.int p),some (.ref a),some (.ref c),some (.int r),x,y]/\r=dG (prs.take i) wd%p) ⟨rfl,0,none,none,rfl,by simp[dG]⟩ ?_ ?_ ?_
  · rintro i σ H1 hi ⟨rfl,_⟩
    exact bL.of ha
  · rintro i x σ H1 hx ⟨rfl,r,y,z,rfl,hr⟩
    have hi:i<prs.length:=by have:=(bH.mp hx).1;omega
    obtain⟨u,Z,dx⟩:=g.get (i:=i) (by rw[bu,aL hi];rfl);rw[hx] at Z;cases Z
    obtain⟨t,rfl,nt,ht⟩:=x2 dx;obtain⟨g1,g2,X⟩:=h1 _ (jB hi);have hk:prs[i].fst.toNat<wd.length:=∅
    have T:cI (wd.map zW) prs[i].fst=some (zW wd[prs[i].fst.toNat]):=jT g1 (by rw[bu,aL hk];rfl);have S:mT wd prs[i]=match wd[prs[i].fst.toNat] with|some x=>prs[i].snd*x|none=>0:=by
      unfold mT;rw[aL hk];cases wd[prs[i].fst.toNat]<;>rfl
    have hs2:∀x,wd[prs[i].fst.toNat]=some x->Sm x:=λx e=>h2 x (by rw[<-e];exact jB hk);have hd:=QS (wd:=wd) hi;refine R.Ga (i7.of ht) rfl ?_;walk_at "st";refine R.AG hc T ?_;walk_at "st";generalize wd[prs[i].fst.toNat]=o at T S hs2⊢;cases o with
    | none =>
      refine R.US ?_;walk_at "st";refine⟨rfl,_,_,_,rfl,?_⟩;rw[hd,S,hr,Int.add_zero]
    | some x =>
      have hsx:=hs2 x rfl;refine R.TH ?_;walk_at "st";refine R.AG hc T ?_;refine R.rI (e0 ⟨X,hsx⟩) ?_;walk_at "st";refine⟨rfl,_,_,_,rfl,?_⟩;rw[hd,S,hr,mu]
  · rintro σ H1 ⟨rfl,r,x,y,rfl,hr⟩
    walk_at "st";rw[wG,jO] at hr;rw[hr];exact q
def Gs:DF:=λds Φ=>∃(p n:Int) (prs:aB),ds=[.int p, .int n,cy prs]/\∀b:Bool,(b=true↔rY p n prs)->Φ true (.bool b)
def XO:eK Gs:=by
 intro ds Φ Ψ hm z;revert hm;walk_at "mo";exact λq=>λb h=>z _ _ (q b h)
def uQ:bS ["p","n","pairs","last","place","factor"] ["p","n","pairs"] (aI HL):=⟨rfl,rfl,rfl,by decide+kernel,rfl,by decide+kernel,by decide+kernel⟩
theorem DD(F:bI K "is_check" "is_check" HL f fd)(bP:mg "len"=none):
  bA P w K mg base bF 1 f fd ["p","n","pairs"] (cG 3 Gs):=by
 refine F.ok uQ (λvs H Q E h=>h.1) (λcdv A outer s H vs Q E hr h=>?_);obtain⟨nb,ds,Φ,C,I,G,hF⟩:=jP h;obtain⟨p,n,prs,rfl,q⟩:=hF;refine⟨_,#[2,#[12,uQ.nd,@wg _ _ _ _ _ _ xM ak],#[10,gH (K:=K) rfl (pv 2),(@k9 _ (K) _ _ _ (2) _ rfl rfl #[7,aY (i:=4) uQ.nd rfl (bg rfl),aY (i:=5) uQ.nd rfl (bg rfl)] (by rfl) (by rfl)),@ay _ _ _ _ _ (@dZ _ _ _ _ _ _ _ _ (PW.pt (uu (@bN _ _ _ _ _ _ _ _ C2 (pv 4) (pv 3) (bM _)) (uu (@bN _ _ _ _ _ _ _ _ Gb (pv 4) (pv 1) (bM _)) (uu (@bN _ _ _ _ _ _ _ _ vA (pv 5) ak (bM _)) (Ag (@bN _ _ _ _ _ _ _ _ Gb (pv 5) (pv 0) (bM _))))))) (@aE _ _ _ (@bE _ _ _ _ pL)) eV) (@aE _ _ _ #[12,uQ.nd,pv 4])],(@ur _ _ _ _ _ _ _ _ K5 #[26,bP] ak (bM _))],?_⟩;refine Sv.jy C I G (ρ:=[.d false _, .d false _, .d false _, .no, .no, .no]) rfl ?_;clear G I;rfl';refine Sv.forL ?_;rfl';intro v;refine⟨λi ρ=>∃(last:Int) (L S:Sl),ρ=[.d false (.int p), .d false (.int n), .d false (cy prs), .d true (.int last),L,S]/\(-1<=last)/\((prs.take i).Pairwise λa b=>a.1<b.1)/\(∀pr∈prs.take i,pr.1<=last/\0<=pr.1/\pr.1<n/\1<=pr.2/\pr.2<p)/\(last= -1\/∃pr∈prs.take i,pr.1=last),⟨-1,_,_,rfl,∅,by simp,by simp, .inl rfl⟩,?_,?_⟩
 .rintro i d ρ hd ⟨last,L,S,rfl,h1,h2,h3,h4⟩;obtain⟨pr,B,rfl⟩:=fY hd;have es:=xj B;have hm:pr∈prs:=cS B
  have no:∀hb:¬(last<pr.1/\pr.1<n/\1<=pr.2/\pr.2<p),Φ true (.bool false):=λhb=>q false (by
   refine⟨λz=>(by cases z),λ⟨_,l,z2⟩=>?_⟩;exfalso;apply hb;have:=z2 pr hm;refine⟨?_,this.2.1,this.2.2.1,this.2.2.2⟩;rcases h4 with h4|⟨An,h5,h6⟩
   .omega
   .have g:(prs.take (i+1)).Pairwise λa b=>a.1<b.1:=l.sublist (lu _ _);rw[es] at g;have:=(Fb.mp g).2.2 An h5 pr (aF.mpr rfl);omega)
  rfl';by_cases c1:pr.1<=last
  .rfl';exact no ∅
  rfl';by_cases c2:n<=pr.1
  .rfl';exact no ∅
  rfl';by_cases u:pr.2<1
  .rfl';exact no ∅
  rfl';by_cases r:p<=pr.2
  .rfl';exact no ∅
  rfl';refine⟨_,_,_,rfl,∅,?_,?_, .inr ⟨pr,by rw[es];simp,rfl⟩⟩
  .rw[es];refine Fb.mpr ⟨h2,by simp,λa ha b hb=>?_⟩;rw[aF.mp hb];have:=h3 a ha;omega
  .intro a ha;rw[es] at ha;rcases fN.mp ha with ha|ha
   .have:=h3 a ha;omega
   .rw[aF.mp ha];omega
 .rintro ρ ⟨last,L,S,rfl,h1,h2,h3,h4⟩;rw[aj,jO] at h2 h3;rfl';refine q _ ?_;rw[decide_eq_true_eq,aj];constructor
  .intro h;exact⟨λz=>by subst z;simp at h,h2,λpr B=>(h3 pr B).2⟩
  .rintro⟨h,_⟩;cases prs with
   |nil=>exact absurd rfl h
   |cons=>simp
def CC:DF:=λds Φ=>∃(n a:Int),ds=[.int n, .int a]/\0<=a/\a<n/\Φ true .none
def Sn:eK CC:=by
 intro ds Φ Ψ hm z;revert hm;walk_at "mo";exact λq=>z _ _ q
def Xt:bS ["n","place"] ["n","place"] (aI HZ):=⟨rfl,rfl,rfl,by decide+kernel,rfl,by decide+kernel,by decide+kernel⟩
def Zb(F:bI K "ask_place" "ask_place" HZ f fd):
  bA P w K mg base bF 1 f fd ["n","place"] (cG 2 CC):=by
 refine F.ok Xt (λvs H Q E h=>h.1) (λcdv A outer s H vs Q E hr h=>?_);obtain⟨nb,ds,Φ,C,I,G,hF⟩:=jP h;obtain⟨n,a,rfl,a0,a1,q⟩:=hF;refine⟨_,(@aE _ _ _ (@dZ _ _ _ _ _ _ _ _ (PW.pt (uu (@bN _ _ _ _ _ _ _ _ vA (pv 1) ak (bM _)) (Ag (@bN _ _ _ _ _ _ _ _ Gb (pv 1) (pv 0) (bM _))))) (@aE _ _ _ Cr) eV)),?_⟩;refine Sv.jy C I G (ρ:=[.d false _, .d false _]) rfl ?_;clear G I;rfl';exact q
def Hg:DF:=λds Φ=>∃(p a:Int),ds=[.int p, .int a]/\Φ true (.bool (decide (0<=a/\a<p)))
def Y3:eK Hg:=by
 intro ds Φ Ψ hm z;revert hm;walk_at "mo";exact λq=>z _ _ q
def zH:bS ["p","letter"] ["p","letter"] (aI Es):=⟨rfl,rfl,rfl,by decide+kernel,rfl,by decide+kernel,by decide+kernel⟩
theorem NA(F:bI K "is_letter" "is_letter" Es f fd):
  bA P w K mg base bF 1 f fd ["p","letter"] (cG 2 Hg):=by
 refine F.ok zH (λvs H Q E h=>h.1) (λcdv A outer s H vs Q E hr h=>?_);obtain⟨nb,ds,Φ,C,I,G,hF⟩:=jP h;obtain⟨p,a,rfl,q⟩:=hF;refine⟨_,(@aE _ _ _ (@bE _ _ _ _ (@FQ _ _ _ _ _ _ _ (@ur _ _ _ _ _ _ _ _ C2 ak (pv 1) (bM _)) (@Fy _ _ _ _ _ (@ur _ _ _ _ _ _ _ _ vA (pv 1) (pv 0) (bM _)))))),?_⟩;refine Sv.jy C I G (ρ:=[.d false _, .d false _]) rfl ?_;clear G I;by_cases c1:0<=a
 .rw[show decide (0<=a/\a<p)=decide (a<p) by simp[c1]] at q;rfl';exact q
 .rw[decide_eq_false ∅] at q;rfl';exact q
def yX:DF:=λds Φ=>∃(n a:Int),ds=[.int n, .int a]/\0<=a/\a<n/\Φ true .none
def Qm:eK yX:=by
 intro ds Φ Ψ hm z;revert hm;walk_at "mo";exact λq=>z _ _ q
def ZV:bS ["p","letter"] ["p","letter"] (aI GZ):=⟨rfl,rfl,rfl,by decide+kernel,rfl,by decide+kernel,by decide+kernel⟩
def VU(F:bI K "ask_letter" "ask_letter" GZ f fd)(b:Callee P w K mg base "is_letter" 1 ["p","letter"] (cG 2 Hg)):
  bA P w K mg base bF 2 f fd ["p","letter"] (cG 2 yX):=by
 refine F.ok ZV (λvs H Q E h=>h.1) (λcdv A outer s H vs Q E hr h=>?_);obtain⟨nb,ds,Φ,C,I,G,hF⟩:=jP h;obtain⟨n,a,rfl,a0,a1,q⟩:=hF;refine⟨_,(@aE _ _ _ (@dZ _ _ _ _ _ _ _ _ (@rZ _ _ _ _ (@qK _ (K) _ _ rfl #[0,b,@aa _ _ _ _ _ (pv 0) (@aa _ _ _ _ _ (pv 1) ai rfl) rfl] (λ_=>rfl))) (@aE _ _ _ Cr) eV)),?_⟩;refine Sv.jy C I G (ρ:=[.d false _, .d false _]) rfl ?_;clear G I;refine Sv.mJ ?_;rfl';refine Ev.gK Y3 ?_;rfl';refine⟨rfl,n,a,rfl,?_⟩;rw[decide_eq_true (show 0<=a/\a<n from⟨a0,a1⟩)];rfl';exact q
def AY:DF:=λds Φ=>∃(p rest:Int) (prs:aB) (wd:Wo),ds=[.int p,cy prs, .int rest,fL wd]/\gc p/\p<10^40/\0<=rest/\rest<p/\prs.length<=10000/\tK prs wd.length/\EW p prs/\jj wd/\Φ true (Qu (cQ p prs rest wd))
def LC:eK AY:=by
 intro ds Φ Ψ hm z;revert hm;walk_at "mo";exact λq=>z _ _ q
def Dw:bS ["p","pairs","rest","word","lost","place","factor"] ["p","pairs","rest","word"] (aI BY):=⟨rfl,rfl,rfl,by decide+kernel,rfl,by decide+kernel,by decide+kernel⟩
theorem W5(F:bI K "told_for" "told_for" BY f fd)(j:Callee P w K mg base "over" 2 ["p","a","b"] G1)(b:Callee P w K mg base "total" 1 ["p","pairs","word"] FN)(bP:mg "len"=none):
    bA P w K mg base bF 3 f fd ["p","pairs","rest","word"] (cG 4 AY):=by
  refine F.ok Dw (λvs H Q E h=>h.1) (λcdv A outer s H vs Q E hr h=>?_);obtain⟨nb,ds,Φ,C,I,G,hF⟩:=jP h;obtain⟨p,rest,prs,wd,rfl,hp,Y,r0,g,hl,Z,c,hW,q⟩:=hF;refine⟨_,(@ay _ _ _ _ _ (sG (i:=4) Dw.nd rfl rfl (eZ.of (show fU (aI BY) ["p","pairs","rest","word","lost","place","factor"] _ ["place","factor","word"] [none,none,some 3]=true by decide+kernel)) (gH (K:=K) rfl (pv 1)) (λ_ _ _ _=>⟨(@k9 _ (K) _ _ _ (2) _ rfl rfl #[7,aY (i:=0) (by show bx (["place","factor","word"]:List Str);decide+kernel) rfl (bg rfl),aY (i:=1) (by show bx (["place","factor","word"]:List Str);decide+kernel) rfl (bg rfl)] (by rfl) (by rfl)),(pC (@bN _ _ _ _ _ _ _ _ Fp (@aJ _ _ _ _ _ _ (c6 K) bY (pv 2) (pv 0) (λ_ _=>rfl)) jf (bM _))),(@fy _ _ _ _ _ (@aa _ _ _ _ _ (pv 0) (@aa _ _ _ _ _ (pv 1) ai rfl) rfl))⟩)) (@ay _ _ _ _ _ (@dZ _ _ _ _ _ _ _ _ (@bN _ _ _ _ _ _ _ _ oG #[9,bP,@aa _ _ _ _ _ (pv 4) ai rfl] ak (bM _)) (@aE _ _ _ (@bE _ _ _ _ jf)) eV) #[2,#[15,Dw.nd,#[8,@aJ _ _ _ _ _ _ (c6 K) bY (pv 4) ak (λ_ _=>rfl)]],#[20,Dw.nd,#[8,@aJ _ _ _ _ _ _ (c6 K) bY (pv 4) ak (λ_ _=>rfl)]],@fy _ _ _ _ _ (@aa _ _ _ _ _ (pv 5) #[1,#[0,j,@aa _ _ _ _ _ (pv 0) (@aa _ _ _ _ _ (@aR _ _ _ _ _ _ _ _ m8 (pv 2) #[0,b,@aa _ _ _ _ _ (pv 0) (@aa _ _ _ _ _ (pv 1) (@aa _ _ _ _ _ (pv 3) ai rfl) rfl) rfl]) (@aa _ _ _ _ _ (pv 6) ai rfl) rfl) rfl]] rfl)])),?_⟩;refine Sv.jy C I G (ρ:=[.d false _, .d false _, .d false _, .d false _, .no, .no, .no]) rfl ?_;clear G I;have n:(prs.map xl).length=prs.length:=aj ..;have p2:=hp.1;rfl';refine aD.ev (aD.mC ⋯ rfl ?_);rfl';refine λv=>⟨true,λi ds=>ds=(cA wd (prs.take i)).map xl,rfl,?_,?_⟩
  · rintro i d ds hd hl' rfl
    obtain⟨pr,B,rfl⟩:=fY hd;obtain⟨g1,g2,X⟩:=Z pr (cS B);obtain⟨o,U,T⟩:=zx (xs:=wd) aT g1 g2 rfl;rfl';refine⟨by walk_at "wk",?_⟩;rfl';rw[Ej];cases o with
    | none =>
      rfl';refine⟨λ_=>rfl,?_⟩;show _=dj xl (cA wd (prs.take (i+1)));rw[xj B,P6,if_pos U,cX]
      rfl
    | some x =>
      rfl';show _=dj xl (cA wd (prs.take (i+1)));rw[xj B,P6,if_neg (by rw[U];simp)]
  rintro ds hl' rfl;rw[n,jO];rfl';have key:∀L,cA wd prs=L->cQ p prs rest wd=(match L with|[pr]=>some (pr.1,sol p pr.2 (rest-dG prs wd%p))|_=>none):=λL e=>by unfold cQ;rw[e]<;>rfl
  cases y:cA wd prs with
  | nil =>
    rfl';rw[key _ y] at q;exact q
  | cons pr r =>
    cases r with
    | cons a O =>
      have:¬((dj xl (pr::a::O)).length:Int)=1:=by simp;omega
      rfl';rw[key _ y] at q;exact q
    | nil =>
      have hm:=(R7 (wd:=wd) (prs:=prs) (pr:=pr) (by rw[y];simp)).1;have d0:=jM (dG prs wd) (show p≠0 by omega);have d1:=jK (dG prs wd) (show 0<p by omega);rfl';refine Ev.over ?_;rfl';refine Ev.total ?_;rfl';refine⟨p,prs,wd,rfl,∅,Z,hW,?_⟩;rfl';refine⟨p,rest-dG prs wd%p,pr.2,rfl,hp,Y,c pr hm,∅,∅,λx x0 M hx=>?_⟩;rfl';rw[key _ y] at q;have e:=QL hp (c pr hm) x0 M hx;rw[e];exact q
def HB:DF:=λds Φ=>∃(p n c:Int) (cs:List aB) (wd:Wo),ds=[c5 p n cs,fL wd, .int c]/\j3 p cs wd.length/\jj wd/\0<=c/\c<cs.length/\Φ true (Qu (cQ p (cs.getD c.toNat []) 0 wd))
def BQ:eK HB:=by
 intro ds Φ Ψ hm z;revert hm;walk_at "mo";exact λq=>z _ _ q
def afr:bS ["net","word","c"] ["net","word","c"] (aI Kr):=⟨rfl,rfl,rfl,by decide+kernel,rfl,by decide+kernel,by decide+kernel⟩
theorem W8(F:bI K "told_by" "told_by" Kr f fd)(M:Callee P w K mg base "told_for" 3 ["p","pairs","rest","word"] (cG 4 AY)):
  bA P w K mg base bF 4 f fd ["net","word","c"] (cG 3 HB):=by
 refine F.ok afr (λvs H Q E h=>h.1) (λcdv A outer s H vs Q E hr h=>?_);obtain⟨nb,ds,Φ,C,I,G,hF⟩:=jP h;obtain⟨p,n,c,cs,wd,rfl,hN,hW,c0,c1,q⟩:=hF;refine⟨_,(@aE _ _ _ (@bE _ _ _ _ #[0,M,@aa _ _ _ _ _ (@aJ _ _ _ _ _ _ (dR K) eg (pv 0) ak (λ_ _=>rfl)) (@aa _ _ _ _ _ (@aJ _ _ _ _ _ _ (c6 K) bY (@aJ _ _ _ _ _ _ (dR K) eg (pv 0) ak (λ_ _=>rfl)) (pv 2) (λ_ _=>rfl)) (@aa _ _ _ _ _ ak (@aa _ _ _ _ _ (pv 1) ai rfl) rfl) rfl) rfl])),?_⟩;refine Sv.jy C I G (ρ:=[.d false _, .d false _, .d false _]) rfl ?_;clear G I;obtain⟨prs,e1,e2,e3,e4,e5⟩:=hN.at c0 c1;have p2:=hN.1.1;have T:cI (cs.map cy) c=some (cy prs):=jT c0 (by rw[bu,e1];rfl);rfl';refine Ev.gK LC ?_;rfl';rw[e2] at q;exact⟨rfl,p,0,prs,wd,rfl,hN.1,hN.2.1,∅,∅,∅,e4,e5,hW,q⟩
def G7:DF:=λds Φ=>∃(p n:Int) (cs:List aB) (wd:Wo),ds=[c5 p n cs,fL wd]/\j3 p cs wd.length/\jj wd/\wd.length<64/\Φ true (gn (aP p cs wd))
def JS:eK G7:=by
 intro ds Φ Ψ hm z;revert hm;walk_at "mo";exact λq=>z _ _ q
def DV:bS ["net","word","found","c","told"] ["net","word"] (aI ze):=⟨rfl,rfl,rfl,by decide+kernel,rfl,by decide+kernel,by decide+kernel⟩
theorem Ws(F:bI K "round_of" "round_of" ze f fd)(b:Callee P w K mg base "told_by" 4 ["net","word","c"] (cG 3 HB))(cB:mg "range"=none)(bP:mg "len"=none)(kr:mg "sorted"=none):
    bA P w K mg base bF 5 f fd ["net","word"] (cG 2 G7):=by
  refine F.ok DV (λvs H Q E h=>h.1) (λcdv A outer s H vs Q E hr h=>?_);obtain⟨nb,ds,Φ,C,I,G,hF⟩:=jP h;obtain⟨p,n,cs,wd,rfl,hN,hW,hl,q⟩:=hF;refine⟨_,#[2,@bh _ _ (2) _ _ _ _ DV.nd rfl (e0 rfl) nL (by rfl) (by first|exact .inl rfl|exact .inr rfl|assumption),#[10,@j6 _ _ _ _ _ _ rfl cB (@aa _ _ _ _ _ #[9,bP,@aa _ _ _ _ _ (@aJ _ _ _ _ _ _ (dR K) eg (pv 0) ak (λ_ _=>rfl)) ai rfl] ai rfl) (by rfl),aY (i:=3) DV.nd rfl (bg rfl),(@ay _ _ _ _ _ #[22,DV.nd,#[0,b,@aa _ _ _ _ _ (pv 0) (@aa _ _ _ _ _ (pv 1) (@aa _ _ _ _ _ (pv 3) ai rfl) rfl) rfl]] (@aE _ _ _ (@dZ _ _ _ _ _ _ _ _ (PW.pt (o6 (@bN _ _ _ _ _ _ _ _ qX (pv 4) jf (bM _)) (oN (@bN _ _ _ _ _ _ _ _ (Cf hr.units) (@aJ _ _ _ _ _ _ (dR K) eg (pv 4) ak (λ_ _=>rfl)) (pv 2) (by with_unfolding_all rfl))))) (@aE _ _ _ #[13,@aa _ _ _ _ _ (@aJ _ _ _ _ _ _ (dR K) eg (pv 4) ak (λ_ _=>rfl)) (@aa _ _ _ _ _ (pv 3) #[1,@aJ _ _ _ _ _ _ (dR K) eg (pv 4) ak (λ_ _=>rfl)] rfl) rfl,iT (pv 2) (@aJ _ _ _ _ _ _ (dR K) eg (pv 4) ak (λ_ _=>rfl)) set_dict]) eV)))],jd (eZ.of (show fU (aI ze) ["net","word","found","c","told"] _ ["place","found"] [none,some 2]=true by decide+kernel)) (gH (K:=K) rfl (@cO _ _ _ _ _ _ _ _ (qt) (Cc rfl) rfl kr wZ (@aa _ _ _ _ _ (pv 2) ai rfl) ⋯ ⋯ (by rfl) (by rfl))) (λ_ _ _ _=>⟨#[3,(by show bx (["place","found"]:List Str);decide+kernel)],jN,(@aJ _ _ _ _ _ _ (jG) lO (pv 1) (pv 0) (λ_ _=>rfl))⟩)],?_⟩;refine Sv.jy C I G (ρ:=[.d false _, .d false _, .no, .no, .no]) rfl ?_;clear G I;have p2:=hN.1.1;have hcl:=hN.2.2.1;have LN:((cs.map cy).length:Int)=cs.length:=by rw[aj]
  refine Sv.seq ?_;refine Sv.wQ (kZ.new ?_);intro A2;refine Sv.seq ?_;refine Sv.tM ?_;refine Ev.CP ?_;refine Ev.nV ?_;refine Ev.var rfl ?_;refine⟨_,rfl,Ev.int ⟨_,rfl,_,rfl,_, .inl rfl,_,rfl,∅,∅,?_⟩⟩;rw[show((cs.map cy).length:Int).toNat=cs.length by omega];refine⟨λi ρ=>∃(u L:Sl),ρ=[.d false (c5 p n cs), .d false (fL wd), .bB A2 true ((cF p cs wd i).map kM),u,L],⟨_,_,rfl⟩,?_,?_⟩
  · rintro i d ρ' ⟨hi,rfl⟩ ⟨u,L,rfl⟩
    have hfl:=yq (p:=p) (cs:=cs) (wd:=wd) ∅ hN.rg (i:=i) ∅;rfl';refine Ev.gK BQ ?_;rfl';refine⟨rfl,p,n,0+(i:Int),cs,wd,rfl,hN,hW,∅,∅,?_⟩;rw[show(0+(i:Int)).toNat=i by omega]
    have ef:cF p cs wd (i+1)=match cQ p (cs.getD i []) 0 wd with
      |some (a,x)=>if a∈(cF p cs wd i).map (·.1) then cF p cs wd i else cF p cs wd i++[(a,(i:Int),x)]
      |none=>cF p cs wd i:=by rw[cF]<;>rfl
    cases ht:cQ p (cs.getD i []) 0 wd with
    | none =>
      rw[ht] at ef;dsimp only at ef;show Gv _ _ _ _ vE _;rfl';show∃(u L:Sl),(_:Rh)=[Sl.d false (c5 p n cs),Sl.d false (fL wd),Sl.bB A2 true ((cF p cs wd (i+1)).map kM),u,L];rw[ef];exact⟨_,_,rfl⟩
    | some ax =>
      obtain⟨a,x⟩:=ax;rw[ht] at ef;dsimp only at ef;show Gv _ _ _ _ (gL [.int a, .int x]) _;rfl';refine Ev.BG rfl ?_;rfl';rw[Al];by_cases c:a∈(cF p cs wd i).map (·.1)
      · rw[if_pos c] at ef
        have:dh ((cF p cs wd i).map kM) a=true:=by rw[ko,sN];exact c
        rw[this];rfl';show∃(u L:Sl),(_:Rh)=[Sl.d false (c5 p n cs),Sl.d false (fL wd),Sl.bB A2 true ((cF p cs wd (i+1)).map kM),u,L];rw[ef];exact⟨_,_,rfl⟩
      · rw[if_neg c] at ef
        have:dh ((cF p cs wd i).map kM) a=false:=by rw[<-ua,ko,sN];exact c
        rw[this];generalize gG:(gu _ (lZ (br 2) _ _):TS)=tl;rfl';subst gG;refine Sv.BL rfl ?_;rfl';refine⟨by rw[aj];omega,?_⟩;show∃(u L:Sl),(_:Rh)=[Sl.d false (c5 p n cs),Sl.d false (fL wd),Sl.bB A2 true ((cF p cs wd (i+1)).map kM),u,L];rw[ef,cX];unfold eH;rw[this,show(0+(i:Int))=i by omega];exact⟨_,_,rfl⟩
  · rintro ρ' ⟨u,L,rfl⟩
    have hfl:=yq (p:=p) (cs:=cs) (wd:=wd) ∅ hN.rg (i:=cs.length) (aW _);refine Sv.ret (aD.ev (aD.mC ⋯ rfl ?_));refine aD.ev (aD.TL rfl (by rw[aj];omega) λrs o k=>?_);rw[sN] at k;obtain⟨ms,rfl,O⟩:=OJ k _ rfl;have hmr:=K0 O o;have hml:ms.length<=wd.length:=by rw[O.length_eq];exact hfl
    refine⟨_,rfl,by rw[aj,aj];omega,λv=>⟨true,λi ds=>ds=(ms.take i).map xX,rfl,?_,?_⟩⟩
    · rintro i d ds hd hl' rfl
      obtain⟨a,ha,rfl⟩:=fY hd;obtain⟨m,hm,rfl⟩:=fY ha;have hv:=IS (pH (p:=p) (cs:=cs) (wd:=wd) cs.length) (O.mem_iff.mp (cS hm));rfl';refine⟨by walk_at "wk",?_⟩;rfl';refine Ev.Nu rfl ?_;rfl';refine⟨_,hv,λ_=>rfl,?_⟩;show _=dj _ (pX (i+1) ms);rw[xj hm,cX]
      rfl
    · rintro ds hl' rfl
      rw[aj,aj,jO,hmr,uO];exact q
def Gj:DF:=λds Φ=>∃(p n:Int) (cs:List aB),ds=[c5 p n cs]/\cs.length<=10000/\(∀prs∈cs,prs.length<=10000)/\∀f,Φ f (c5 p n cs)
def IP:eK Gj:=by
 intro ds Φ Ψ hm z;revert hm;walk_at "mo";exact λq=>λf=>z _ _ (q f)
def aaa:bS ["net"] ["net"] (aI AE):=⟨rfl,rfl,rfl,by decide+kernel,rfl,by decide+kernel,by decide+kernel⟩
def Hw(F:bI K "copied" "copied" AE f fd)(cW:mg "list"=none):
  bA P w K mg base bF 1 f fd ["net"] (cG 1 Gj):=by
 refine F.ok aaa (λvs H Q E h=>h.1) (λcdv A outer s H vs Q E hr h=>?_);obtain⟨nb,ds,Φ,C,I,G,hF⟩:=jP h;obtain⟨p,n,cs,rfl,hl,g,q⟩:=hF;refine⟨_,(@aE _ _ _ (@bE _ _ _ _ (@fy _ _ _ _ _ (@aa _ _ _ _ _ (@aJ _ _ _ _ _ _ (dR K) eg (pv 0) ak (λ_ _=>rfl)) (@aa _ _ _ _ _ (@aJ _ _ _ _ _ _ (dR K) eg (pv 0) ak (λ_ _=>rfl)) #[1,jd (eZ.of (show fU (aI AE) ["net"] _ ["pairs"] [none]=true by decide+kernel)) (gH (K:=K) rfl (@aJ _ _ _ _ _ _ (dR K) eg (pv 0) ak (λ_ _=>rfl))) (λ_ _ _ _=>⟨#[3,(by show bx (["pairs"]:List Str);decide+kernel)],jN,#[14,cW,@aa _ _ _ _ _ (pv 0) ai rfl]⟩)] rfl) rfl)))),?_⟩;refine Sv.jy C I G (ρ:=[.d false _]) rfl ?_;clear G I;rfl';refine aD.ev (aD.mC ⋯ rfl ?_);rfl';refine⟨by rw[aj];exact hl,λv=>⟨false,λi ds=>ds=(cs.take i).map cy,rfl,?_,?_⟩⟩
 .rintro i d ds hd hl' rfl;obtain⟨prs,W,rfl⟩:=fY hd;rfl';refine⟨by walk_at "wk",?_⟩;rfl';refine⟨λz=>(by cases z),?_⟩;show _=dj cy (pX (i+1) cs);rw[xj W,cX]
  rfl
 .rintro ds hl' rfl;rw[aj,jO];rfl';exact q _
def uI(C:ar):CF:=λc ds Φ=>∃(x dx l:ar) (p n:Int) (cs:List aB) (wd:Wo),c=aC C x dx (lW (c5 p n cs) l wd)/\ds=[]/\j3 p cs wd.length/\jj wd/\wd.length<64/\Φ (aC C x dx (lW (c5 p n cs) l (xk wd (aP p cs wd)))) true (gn (aP p cs wd))
def TY:i9 (uI C):=by
 intro c ds Φ Ψ h z;obtain⟨x,dx,l,p,n,cs,wd,e1,e2,h1,h2,h3,q⟩:=h;exact⟨x,dx,l,p,n,cs,wd,e1,e2,h1,h2,h3,z _ _ _ q⟩
def vJ:bS ["self","found","place","c","letter"] ["self"] (aI rX):=⟨rfl,rfl,rfl,by decide+kernel,rfl,by decide+kernel,by decide+kernel⟩
theorem Kk(F:bI K "step" "Mender.step" rX f fd){bU:ar}(b:cD K bU)(k:bf K bU "net")(j:bf K bU "letters")(g:Callee P w K mg base "round_of" 5 ["net","word"] (cG 2 G7)):
  bA P w K mg base bF 6 f fd ["self"] (cz 1 (uI bU)):=by
 refine F.ok vJ (λvs H Q E h=>h.1) (λcdv A outer s H vs Q E hr h=>?_);obtain⟨_,nb,c,ws,ds,rfl,C,dH,T,ez,I,hF⟩:=h;obtain⟨Φ,G,hF⟩:∃Φ:Cu->Pd,(∀c' f d v H',Φ c' f d->kh c c' H H'->c'.P (λa=>nb a\/a∈c'.F) H'->af (λa=>nb a\/a∈c'.F\/(f=true/\H a≠none)) H' d v->Q v H')/\uI bU c ds Φ:=⟨_,λc' f d v H' q=>q v H',hF⟩;obtain⟨x,dx,l,p,n,cs,wd,rfl,rfl,hN,hW,hl,q⟩:=hF;refine⟨_,#[2,#[23,vJ.nd,#[0,g,@aa _ _ _ _ _ (@dS _ _ _ _ _ (pv 0) rfl) (@aa _ _ _ _ _ (@dS _ _ _ _ _ (pv 0) rfl) ai rfl) rfl]],#[16,gH (K:=K) rfl (pv 1),@k9 _ (K) _ _ _ (3) _ rfl rfl (@dW _ _ _ _ _ (aY (i:=2) vJ.nd rfl (bg rfl)) #[7,aY (i:=3) vJ.nd rfl (bg rfl),aY (i:=4) vJ.nd rfl (bg rfl)] (by rfl)) (by rfl) (by rfl),@gF _ _ _ _ _ _ (pv 4) (iT (@dS _ _ _ _ _ (pv 0) rfl) (pv 2) set_list) (by rfl) (by rfl) (by rfl)],pv 1],?_⟩;refine Sv.k6 C dH T ez I G (ρ:=[.cu _, .no, .no, .no, .no]) rfl ?_;clear G I;have p2:=hN.1.1;refine Sv.seq ?_;refine Sv.asg ?_;refine Ev.G5 JS ?_;refine fq.cons (Ev.fld rfl b k rfl ?_);refine fq.fld rfl b j rfl ?_;refine fq.nil ?_;refine⟨rfl,p,n,cs,wd,rfl,hN,hW,hl, .inl rfl,?_⟩;refine Gv.name ?_;refine Sv.seq ?_;refine Sv.forL ?_;refine Ev.var rfl ?_;refine⟨_,rfl,λv=>⟨λi ρ=>∃(Y u L:Sl),ρ=[.cu (aC bU x dx (lW (c5 p n cs) l (xk wd ((aP p cs wd).take i)))), .d true (gn (aP p cs wd)),Y,u,L],⟨_,_,_,rfl⟩,?_,?_⟩⟩
 .rintro i d ρ hd ⟨Y,u,L,rfl⟩;obtain⟨m,hm,rfl⟩:=fY hd;obtain⟨b1,b2,b3,b4,b5⟩:=oV ∅ (cS hm) hN.rg;generalize gG:(gu (br 4) _:TS)=tl;rfl';subst gG;refine Sv.Sk rfl b j rfl ?_;rfl';refine⟨_,m.1.toNat,rfl,wR b1 (by rw[aj,nW];omega),?_⟩;have e:((xk wd ((aP p cs wd).take i)).map aT).set m.1.toNat (.int m.2.2)=(xk wd ((aP p cs wd).take (i+1))).map aT:=by
   rw[xj hm,QT];show _=((xk wd ((aP p cs wd).take i)).set m.1.toNat (some m.2.2)).map aT;rw[zB]
   rfl
  rw[e,Zn];exact⟨_,_,_,rfl⟩
 .rintro ρ ⟨Y,u,L,rfl⟩;rw[aj,jO];refine Sv.nA (bz.of ?_);refine Ev.var rfl ?_;intro aA v' H' hv;exact⟨_,_,_,rfl,⟨rfl,rfl,λa m=>m⟩,q,hv⟩
def uP(C:ar):CF:=λc ds Φ=>∃(x dx l:ar) (p n:Int) (cs:List aB) (wd:Wo),c=aC C x dx (lW (c5 p n cs) l wd)/\ds=[]/\j3 p cs wd.length/\jj wd/\wd.length<64/\Φ (aC C x dx (lW (c5 p n cs) l (j5 p cs wd))) true (.list ((iO p cs wd).map gn))
def aeY:i9 (uP C):=by
 intro c ds Φ Ψ h z;obtain⟨x,dx,l,p,n,cs,wd,e1,e2,h1,h2,h3,q⟩:=h;exact⟨x,dx,l,p,n,cs,wd,e1,e2,h1,h2,h3,z _ _ _ q⟩
def Cw:bS ["self","rounds","found"] ["self"] (aI sC):=⟨rfl,rfl,rfl,by decide+kernel,rfl,by decide+kernel,by decide+kernel⟩
theorem ahH(F:bI K "mend" "Mender.mend" sC f fd){bU:ar}(b:fQ P w K mg base bU "step" 6 ["self"] (cz 1 (uI bU))):
  bA P w K mg base bF 7 f fd ["self"] (cz 1 (uP bU)):=by
 refine F.ok Cw (λvs H Q E h=>h.1) (λcdv A outer s H vs Q E hr h=>?_);obtain⟨_,nb,c,ws,ds,rfl,C,dH,T,ez,I,hF⟩:=h;obtain⟨Φ,G,hF⟩:∃Φ:Cu->Pd,(∀c' f d v H',Φ c' f d->kh c c' H H'->c'.P (λa=>nb a\/a∈c'.F) H'->af (λa=>nb a\/a∈c'.F\/(f=true/\H a≠none)) H' d v->Q v H')/\uP bU c ds Φ:=⟨_,λc' f d v H' q=>q v H',hF⟩;obtain⟨x,dx,l,p,n,cs,wd,rfl,rfl,hN,hW,hl,q⟩:=hF;refine⟨_,(@ay _ _ _ _ _ #[23,Cw.nd,@iX _ _ _ _ ai] #[2,#[17,Cw.nd,@oj _ _ _ _ _ _ _ _ _ _ _ b (pv 0) (hr.mono ⋯) (by rfl)],@BC _ _ _ _ _ _ gy (@bN _ _ _ _ _ _ _ _ (BD hr.units) (pv 2) (@iX _ _ _ _ ai) (bM _)) (@ay _ _ _ _ _ (@kI _ _ _ _ (o8 uv wM xo tW (pv 1) (@aa _ _ _ _ _ (pv 2) ai rfl)) (by rfl)) (@aE _ _ _ #[17,Cw.nd,@oj _ _ _ _ _ _ _ _ _ _ _ b (pv 0) (hr.mono ⋯) (by rfl)])),pv 1]),?_⟩;refine Sv.k6 C dH T ez I G (ρ:=[.cu _, .no, .no]) rfl ?_;clear G I;have p2:=hN.1.1;have key:∀{w:Wo},w.length=wd.length->j3 p cs w.length:=λ{w} h=>by rw[h];exact hN
 refine Sv.seq ?_;refine Sv.AJ ?_;intro A1;refine Sv.seq ?_;refine Sv.xS (bz.mq TY rfl rfl (aC.is rfl) ?_);refine Av.nil ?_;refine⟨rfl,x,dx,l,p,n,cs,wd,rfl,rfl,hN,hW,hl,?_⟩;refine Gv.name ?_;refine Sv.seq ?_;refine Sv.JW (λρ=>∃(w:Wo) (st:List (List cN)),w.length=wd.length/\jj w/\st++iO p cs w=iO p cs wd/\j5 p cs w=j5 p cs wd/\ρ=[.cu (aC bU x dx (lW (c5 p n cs) l (xk w (aP p cs w)))), .own A1 true (st.map gn), .d true (gn (aP p cs w))]) (λ(ρ:Rh)=>match ρ[1]? with|some (Sl.own _ _ ds)=>wd.length-ds.length|_=>0) ⟨wd,[],rfl,hW,rfl,rfl,rfl⟩ ?_;rintro ρ' ⟨w,st,hwl,hwW,h1,h2,rfl⟩;have wc:=key hwl;rfl';refine⟨Ua _,E6,_,rfl,?_⟩;rw[qQ,O1];by_cases c:aP p cs w=[]
 .rw[if_neg (by rw[decide_eq_true c];simp)];rw[GO c,ic] at h1;rw[Mq c] at h2;subst h1 h2;rw[c];refine Sv.xm 1 rfl ?_;refine Sv.nA (bz.of ?_);refine Ev.var rfl ?_;intro aA v' H' hv;exact⟨_,_,_,rfl,⟨rfl,rfl,λa m=>m⟩,q,hv⟩
 rw[if_pos (by rw[decide_eq_false c];rfl)];have hl':=HU (p:=p) (cs:=cs) (wd:=wd);rw[<-h1,Ba ∅ wc.rg c,cP,dM] at hl';rw[Ba ∅ wc.rg c] at h1;rw[Po ∅ wc.rg c] at h2;have e:j3 p cs (xk w (aP p cs w)).length:=by rw[nW];exact wc
 have QD:=Jq wc hwW;refine Sv.seq ?_;refine Sv.append rfl ?_;refine Ev.var rfl ?_;refine⟨by rw[aj];omega,?_⟩;refine Sv.xS (bz.mq TY rfl rfl (aC.is rfl) ?_);refine Av.nil ?_;refine⟨rfl,x,dx,l,p,n,cs,xk w (aP p cs w),rfl,rfl,e,QD,by rw[nW,hwl];exact hl,?_⟩;refine Gv.name ?_;refine⟨⟨xk w (aP p cs w),st++[aP p cs w],by rw[nW];exact hwl,QD,by rw[u9];exact h1,h2,by rw[cX];rfl⟩,?_⟩;show wd.length-(dj gn st++[_]).length<wd.length-(dj gn st).length;rw[cP,kc,aj];omega
def xA(C:ar):CF:=λc ds Φ=>∃(x dx l:ar) (nd:PyData) (wd:Wo),c=aC C x dx (lW nd l wd)/\ds=[]/\Φ (aC C x dx (lW nd l wd)) true (fL wd)
def Z1:i9 (xA C):=by
 intro c ds Φ Ψ h z;obtain⟨x,dx,l,nd,wd,e1,e2,q⟩:=h;exact⟨x,dx,l,nd,wd,e1,e2,z _ _ _ q⟩
def EE:bS ["self"] ["self"] (aI sq):=⟨rfl,rfl,rfl,by decide+kernel,rfl,by decide+kernel,by decide+kernel⟩
def V1(F:bI K "word" "Mender.word" sq f fd){bU:ar}(b:cD K bU)(j:bf K bU "letters")(cW:mg "list"=none):
  bA P w K mg base bF 1 f fd ["self"] (cz 1 (xA bU)):=by
 refine F.ok EE (λvs H Q E h=>h.1) (λcdv A outer s H vs Q E hr h=>?_);obtain⟨_,nb,c,ws,ds,rfl,C,dH,T,ez,I,hF⟩:=h;obtain⟨Φ,G,hF⟩:∃Φ:Cu->Pd,(∀c' f d v H',Φ c' f d->kh c c' H H'->c'.P (λa=>nb a\/a∈c'.F) H'->af (λa=>nb a\/a∈c'.F\/(f=true/\H a≠none)) H' d v->Q v H')/\xA bU c ds Φ:=⟨_,λc' f d v H' q=>q v H',hF⟩;obtain⟨x,dx,l,nd,wd,rfl,rfl,q⟩:=hF;refine⟨_,(@aE _ _ _ (@bE _ _ _ _ #[14,cW,@aa _ _ _ _ _ (@dS _ _ _ _ _ (pv 0) rfl) ai rfl])),?_⟩;refine Sv.k6 C dH T ez I G (ρ:=[.cu _]) rfl ?_;clear G I;refine Sv.nA (bz.of (aD.ev (aD.Y9 rfl b j rfl ?_)));rw[adz];intro aA v' H' hv;exact⟨_,_,_,rfl,⟨rfl,rfl,λa m=>m⟩,q,hv⟩
def vW(C:ar):CF:=λc ds Φ=>∃(x dx:ar) (p n:Int) (cs:List aB) (wd:Wo),c=aC C x dx []/\ds=[c5 p n cs,fL wd]/\cs.length<=10000/\(∀prs∈cs,prs.length<=10000)/\∀l,Φ (aC C x dx (lW (c5 p n cs) l wd)) true .none
def V0:i9 (vW C):=by
 intro c ds Φ Ψ h z;obtain⟨x,dx,p,n,cs,wd,e1,e2,h1,h2,q⟩:=h;exact⟨x,dx,p,n,cs,wd,e1,e2,h1,h2,λl=>z _ _ _ (q l)⟩
def afI:bS ["self","net","word"] ["self","net","word"] (aI sD):=⟨rfl,rfl,rfl,by decide+kernel,rfl,by decide+kernel,by decide+kernel⟩
def adT(F:bI K "__init__" "Mender.__init__" sD f fd){bU:ar}(b:cD K bU)(k:bf K bU "net")(j:bf K bU "letters")(e:Callee P w K mg base "copied" 1 ["net"] (cG 1 Gj))(cW:mg "list"=none):
  bA P w K mg base bF 2 f fd ["self","net","word"] (cz 3 (vW bU)):=by
 refine F.ok afI (λvs H Q E h=>h.1) (λcdv A outer s H vs Q E hr h=>?_);obtain⟨_,nb,c,ws,ds,rfl,C,dH,T,ez,I,hF⟩:=h;obtain⟨Φ,G,hF⟩:∃Φ:Cu->Pd,(∀c' f d v H',Φ c' f d->kh c c' H H'->c'.P (λa=>nb a\/a∈c'.F) H'->af (λa=>nb a\/a∈c'.F\/(f=true/\H a≠none)) H' d v->Q v H')/\vW bU c ds Φ:=⟨_,λc' f d v H' q=>q v H',hF⟩;obtain⟨x,dx,p,n,cs,wd,rfl,rfl,hl,g,q⟩:=hF;refine⟨_,(@ay _ _ _ _ _ #[4,#[0,e,@aa _ _ _ _ _ (pv 1) ai rfl]] (@aE _ _ _ #[4,#[14,cW,@aa _ _ _ _ _ (pv 2) ai rfl]])),?_⟩;refine Sv.k6 C dH T ez I G (ρ:=[.cu _, .d false _, .d false _]) rfl ?_;clear G I;refine Sv.seq ?_;refine Sv.kH rfl b k (.inl rfl) ⋯ ?_;refine Ev.gK IP ?_;rfl';refine⟨rfl,p,n,cs,rfl,hl,g,λf=>?_⟩;refine Sv.O7 rfl b j rfl (iQ rfl) ?_;refine aD.listOf ?_;rfl';intro l;exact⟨_,rfl,⟨rfl,rfl,λa m=>pR [l] m⟩,q l⟩
def Eg:DF:=λds Φ=>∃(p n:Int) (cs:List aB) (wd:Wo),ds=[c5 p n cs,fL wd]/\j3 p cs wd.length/\jj wd/\wd.length<64/\Φ true (.tuple [fL (j5 p cs wd), .list ((iO p cs wd).map gn)])
def aeP:eK Eg:=by
 intro ds Φ Ψ hm z;revert hm;walk_at "mo";exact λq=>z _ _ q
def JH:bS ["net","word","mender","rounds"] ["net","word"] (aI Em):=⟨rfl,rfl,rfl,by decide+kernel,rfl,by decide+kernel,by decide+kernel⟩
theorem adE(F:bI K "mended" "mended" Em f fd){bU:ar}(b:fQ P w K mg base bU "mend" 7 ["self"] (cz 1 (uP bU)))(a:fQ P w K mg base bU "word" 1 ["self"] (cz 1 (xA bU)))(c:qB P w K mg base bU "Mender" 2 ["self","net","word"] (cz 3 (vW bU))):
  bA P w K mg base bF 8 f fd ["net","word"] (cG 2 Eg):=by
 refine F.ok JH (λvs H Q E h=>h.1) (λcdv A outer s H vs Q E hr h=>?_);obtain⟨nb,ds,Φ,C,I,G,hF⟩:=jP h;obtain⟨p,n,cs,wd,rfl,hN,hW,hl,q⟩:=hF;refine⟨_,#[2,#[17,JH.nd,@HC _ _ _ _ _ _ _ _ _ _ _ c (hr.mono ⋯) (@aa _ _ _ _ _ (pv 0) (@aa _ _ _ _ _ (pv 1) ai rfl) rfl) (by rfl) ⋯ (by rfl) (by rfl)],#[12,JH.nd,@oj _ _ _ _ _ _ _ _ _ _ _ b (pv 2) (hr.mono ⋯) (by rfl)],@fy _ _ _ _ _ (@aa _ _ _ _ _ (@oj _ _ _ _ _ _ _ _ _ _ _ a (pv 2) (hr.mono ⋯) (by rfl)) (@aa _ _ _ _ _ (pv 3) ai rfl) rfl)],?_⟩;refine Sv.jy C I G (ρ:=[.d false _, .d false _, .no, .no]) rfl ?_;clear G I;have hcl:=hN.2.2.1;refine Sv.seq ?_;refine Sv.make V0 ?_;rfl';refine⟨rfl,λx dx=>⟨x,dx,p,n,cs,wd,rfl,rfl,∅,λprs hp=>by have:=(hN.2.2.2 prs hp).1;omega,λl=>⟨rfl,?_⟩⟩⟩;refine Sv.seq ?_;refine Sv.xS (bz.mq aeY rfl rfl (aC.is rfl) ?_);refine Av.nil ?_;refine⟨rfl,x,dx,l,p,n,cs,wd,rfl,rfl,hN,hW,hl,?_⟩;refine Gv.name ?_;refine Sv.retS (bz.tup ?_);refine rD.cons (bz.mq Z1 rfl rfl (aC.is rfl) ?_);refine Av.nil ?_;refine⟨rfl,x,dx,l,_,j5 p cs wd,rfl,rfl,?_⟩;rfl';exact q
def JF:DF:=λds Φ=>∃(p n many:Int) (es:aZ),ds=[.dict ((xp es).map aH)]/\bD p n many es/\Φ true (.dict ((iZ (gD es)).map aH))
def WL:eK JF:=by
 intro ds Φ Ψ hm z;revert hm;walk_at "mo";exact λq=>z _ _ q
def yY:bS ["letter_deeds","found","number","place"] ["letter_deeds"] (aI JQ):=⟨rfl,rfl,rfl,by decide+kernel,rfl,by decide+kernel,by decide+kernel⟩
theorem KJ(F:bI K "first_found" "first_found" JQ f fd)(kr:mg "sorted"=none):
  bA P w K mg base bF 1 f fd ["letter_deeds"] (cG 1 JF):=by
 refine F.ok yY (λvs H Q E h=>h.1) (λcdv A outer s H vs Q E hr h=>?_);obtain⟨nb,ds,Φ,C,I,G,hF⟩:=jP h;obtain⟨p,n,many,es,rfl,hok,q⟩:=hF;refine⟨_,#[2,@bh _ _ (1) _ _ _ _ yY.nd rfl (bg rfl) nL (by rfl) (by first|exact .inl rfl|exact .inr rfl|assumption),#[10,gH (K:=K) rfl (@cO _ _ _ _ _ _ _ _ (qt) (Cc rfl) rfl kr wZ (@aa _ _ _ _ _ (pv 0) ai rfl) ⋯ ⋯ (by rfl) (by rfl)),aY (i:=2) yY.nd rfl (bg rfl),(@ay _ _ _ _ _ #[12,yY.nd,#[8,@aJ _ _ _ _ _ _ (jG) lO (pv 0) (pv 2) (λ_ _=>rfl)]] (@aE _ _ _ (@dZ _ _ _ _ _ _ _ _ (@bN _ _ _ _ _ _ _ _ (Cf hr.units) (pv 3) (pv 1) (by with_unfolding_all rfl)) (@aE _ _ _ #[13,#[5,#[8,@aJ _ _ _ _ _ _ (jG) lO (pv 0) (pv 2) (λ_ _=>rfl)],@fy _ _ _ _ _ (@aa _ _ _ _ _ qU (@aa _ _ _ _ _ (pv 2) ai rfl) rfl)],iT (pv 1) (pv 3) set_dict]) eV)))],pv 1],?_⟩;refine Sv.jy C I G (ρ:=[.d false _, .no, .no, .no]) rfl ?_;clear G I;have hl:=hok.Rt;refine Sv.seq ?_;refine Sv.wQ (kZ.new ?_);intro A1;refine Sv.seq ?_;refine Sv.forL ?_;refine aD.ev (aD.Py ?_);refine Ev.var rfl ⟨xp es,rfl,by rw[aaH];omega,λrs hs hp=>?_⟩;rw[F4] at hp;have E5:=UT hok.Y8 hs hp;subst E5;refine⟨_,rfl,λv=>⟨λi ρ=>∃(Y u:Sl),ρ=[.d false (.dict ((xp es).map aH)), .bB A1 true (iZ ((gD es).take i)),Y,u],⟨_,_,rfl⟩,?_,?_⟩⟩
 .rintro i d ρ' hi ⟨Y,u,rfl⟩;obtain⟨k,hk,rfl⟩:=fY hi;obtain⟨t,ht,rfl⟩:=fY hk;have hv:=hok.aaO (cS ht);have hfl:(iZ ((gD es).take i)).length<=63:=cU (KU _) (cU (by rw[oZ];exact oe _ _) hl);rfl';refine Ev.m9 ?_;rfl';refine⟨_,rfl,?_⟩;rfl';refine⟨_,hv,_,rfl,?_⟩;rfl';refine Ev.BG rfl ?_;rfl';rw[Al];have ef:=WU ht;unfold rq at ef;by_cases c:dh (iZ ((gD es).take i)) t.2.1=true
  .rw[if_pos c] at ef;rw[c];rfl';show∃(Y u:Sl),(_:Rh)=[Sl.d false (.dict ((xp es).map aH)),Sl.bB A1 true (iZ ((gD es).take (i+1))),Y,u];rw[ef];exact⟨_,_,rfl⟩
  .rw[if_neg c] at ef;rw[ua] at c;rw[c];generalize gG:(gu _ (lZ (br 1) _ _):TS)=tl;rfl';subst gG;refine Sv.BL rfl ?_;refine Ev.JG ?_;refine Av.cons (Ev.nV (Ev.m9 ?_));rfl';refine⟨_,rfl,?_⟩;rfl';refine⟨_,hv,_,rfl,?_⟩;rfl';show∃(Y u:Sl),(_:Rh)=[Sl.d false (.dict ((xp es).map aH)),Sl.bB A1 true (iZ ((gD es).take (i+1))),Y,u];rw[ef];unfold eH;rw[c];exact⟨_,_,rfl⟩
 .rintro ρ' ⟨Y,u,rfl⟩;rw[show(gD es).take _=gD es from qp (by rw[aj,aj];exact aW _)];refine Sv.GS 1 rfl ?_;rfl';exact q
def vq(C:ar):CF:=λc ds Φ=>∃(x dx ll lw a0 lc:ar) (p n many:Int) (es:aZ) (j:Fl) (bs:List ar) (wd:Wo) (W F:Ks) (g:Int->Option (Int×PyData)),j.adr=[]/\c=aC C x dx (fj p j ll lw a0 bs lc wd (dI lw W) (gW n (aK es)) (dN wd (aK es)))/\ds=[.dict (F.map aH)]/\
 bD p n many es/\0<=n/\n<=4000/\wd.length=n.toNat/\W.length<=4000/\F.length<=4000/\bs.length=n.toNat/\qN F g/\(∀a x w,g a=some (x,w)->0<=a/\a<n/\wd[a.toNat]?=some none)/\
 Φ (aC C x dx (fj p j ll lw a0 bs lc (gY wd g (F.map (·.1))) (dI lw (fW W g (F.map (·.1)))) (gW n (aK es)) (dN (gY wd g (F.map (·.1))) (aK es)))) true .none
def Tu:i9 (vq C):=by
 intro c ds Φ Ψ hm z;revert hm;walk_at "mo";exact λq=>z _ _ _ q
def HH:bS ["self","found","place","number"] ["self","found"] (aI tw):=⟨rfl,rfl,rfl,by decide+kernel,rfl,by decide+kernel,by decide+kernel⟩
theorem ac3(F:bI K "take" "Finding.take" tw f fd){aO:ar}(o:cD K aO)(kD:bf K aO "letters")(V:bf K aO "whys")(mZ:bf K aO "having")(kY:bf K aO "counts"):
  bA P w K mg base bF 1 f fd ["self","found"] (cz 2 (vq aO)):=by
 refine F.ok HH (λvs H Q E h=>h.1) (λcdv A outer s H vs Q E hr h=>?_);obtain⟨_,nb,c,ws,ds,rfl,C,dH,T,ez,I,hF⟩:=h;obtain⟨Φ,G,hF⟩:∃Φ:Cu->Pd,(∀c' f d v H',Φ c' f d->kh c c' H H'->c'.P (λa=>nb a\/a∈c'.F) H'->af (λa=>nb a\/a∈c'.F\/(f=true/\H a≠none)) H' d v->Q v H')/\vq aO c ds Φ:=⟨_,λc' f d v H' q=>q v H',hF⟩;obtain⟨x,dx,ll,lw,a0,lc,p,n,many,es,j,bs,wd,W,F,g,B,rfl,rfl,hok,J,hn1,hwl,RB,UQ,X,Ex,hg,q⟩:=hF;refine⟨_,(@aE _ _ _ (@Hy _ _ _ #[10,@Ly _ _ _ _ (pv 1),aY (i:=2) HH.nd rfl (bg rfl),@ay _ _ _ _ _ (@gF _ _ _ _ _ _ #[8,@aJ _ _ _ _ _ _ (jG) lO (pv 1) (pv 2) (λ_ _=>rfl)] (iT (@dS _ _ _ _ _ (pv 0) rfl) (pv 2) set_list) (by rfl) (by rfl) (by rfl)) (@ay _ _ _ _ _ (@gF _ _ _ _ _ _ #[8,@aJ _ _ _ _ _ _ (jG) lO (pv 1) (pv 2) (λ_ _=>rfl)] (iT (@dS _ _ _ _ _ (pv 0) rfl) (pv 2) set_dict) (by rfl) (by rfl) (by rfl)) (@aE _ _ _ #[16,gH (K:=K) rfl (@aJ _ _ _ _ _ _ (c6 K) bY (@dS _ _ _ _ _ (pv 0) rfl) (pv 2) (λ_ _=>rfl)),aY (i:=3) HH.nd rfl (bg rfl),HY (@dS _ _ _ _ _ (pv 0) rfl) (pv 3) S8 ak VT set_dict]))])),?_⟩;refine Sv.k6 C dH T ez I G (ρ:=[.cu _, .d false _, .no, .no]) rfl ?_;clear G I;have hnd:=hok.D5.imp λz=>Gk z;have hct:∀t∈aK es,(t.2.1.Pairwise λa b=>a.1<b.1)/\∀pr∈t.2.1,0<=pr.1:=λt m=>⟨(hok.uV m).1.2.1,λpr R=>((hok.uV m).1.2.2 pr R).1⟩;have U:∀(wd:Wo) (W N:Ks) rs,bW x dx (fj p j ll lw a0 bs lc wd (dI lw W) rs N)=x::dx::(ll::lw::a0::(bs++[lc])):=λwd W N rs=>by
  show x::dx::(j.adr++_)=_;rw[B];rfl
 refine Sv.y6 ?_;refine Ev.var rfl ⟨F,rfl,λG' v=>?_⟩;refine⟨λi ρ=>∃(Y u:Sl),ρ=[.cu (aC aO x dx (fj p j ll lw a0 bs lc (gY wd g ((F.take i).map (·.1))) (dI lw (fW W g ((F.take i).map (·.1)))) (gW n (aK es)) (dN (gY wd g ((F.take i).map (·.1))) (aK es)))), .d false (.dict (F.map aH)),Y,u],?_,?_,?_⟩
 .refine⟨.no, .no,?_⟩;rw[Er,qQ,ad9]
  rfl
 .rintro i d ρ' ⟨kv,hkv,rfl⟩ ⟨Y,u,rfl⟩;obtain⟨a,dv⟩:=kv;have D:i<F.length:=(bH.mp hkv).1;have hval:=wK Ex.nd (cS hkv);have Nm:=Ex.val a;rw[hval] at Nm;obtain⟨⟨O,w⟩,e,ZN⟩:=jJ.mp Nm.symm;subst ZN;obtain⟨L,r,hal⟩:=hg a O w e;have htk:(F.take (i+1)).map (·.1)=(F.take i).map (·.1)++[a]:=by rw[xj hkv,cX];rfl
  have gG:((F.take i).map (·.1)).length=i:=by rw[aj,oZ];omega
  generalize l:(F.take i).map (·.1)=ks at htk gG;have V3:a∉ks:=by
   rw[<-l,Kw];exact NJ Ex.nd (by rw[bu,hkv];rfl)
  have adl:(gY wd g ks)[a.toNat]?=some none:=by
   rw[DZ ∅,show((a.toNat:Nat):Int)=a by omega,if_neg V3,iM,hal];rfl
  have hml:(gY wd g ks).length=n.toNat:=by rw[sW,hwl]
  have hwy:=ZH W g ks;generalize Xn:(oM _ (oM _ _):TS)=tl;rfl';subst Xn;refine Sv.seq (Sv.Sk rfl o kD rfl ?_);refine Ev.nV (Ev.m9 ?_);rfl';refine⟨_,rfl,?_⟩;rfl';refine⟨_,hval,_,rfl,?_⟩;rfl';refine⟨_,a.toNat,rfl,by unfold ji;rw[if_pos L,if_pos (by rw[aj,hml];omega)],?_⟩;refine Sv.seq (Sv.CM rfl o V rfl ?_);refine Ev.nV (Ev.m9 ?_);rfl';refine⟨_,rfl,?_⟩;rfl';refine⟨_,hval,_,rfl,?_⟩;rfl';have eW:eH (fW W g ks) a w=fW W g (ks++[a]):=(yR e).symm;have Z:(((gY wd g ks).map aT).set a.toNat (.int O))=(gY wd g (ks++[a])).map aT:=by
   rw[<-QI L ∅ e,zB];rfl
  obtain⟨b,hb⟩:∃b,bs[a.toNat]?=some b:=⟨_,aL (by rw[X];omega)⟩;have M:(gW n (aK es))[a.toNat]?=some (jm (aK es) a):=by
   have:=Ry (n:=n) (ts:=aK es) (k:=0) (prs:=[]) L r (λ_ z=>by cases z);rwa[LQ] at this
  refine Sv.Z7 (i:=0) (f:="having") rfl rfl (tV.Og rfl o mZ rfl ?_);rfl';refine⟨_,a.toNat,b,rfl,by unfold ji;rw[if_pos L,if_pos (by rw[X];omega)],hb,a.toNat,_,hb,M,?_⟩;refine⟨λm ρ=>∃(u:Sl),ρ=[.cu (aC aO x dx (fj p j ll lw a0 bs lc (gY wd g (ks++[a])) (dI lw (fW W g (ks++[a]))) (gW n (aK es)) (kC (gY wd g ks) (aK es) a m))), .d false (.dict (F.map aH)), .d true (.int a),u],?_,?_,?_,?_⟩
  .refine⟨u,?_⟩;rw[VA,<-eW];show _=[Sl.cu (aC aO x dx [("p", .d (.int p)),("check_deeds",j),("letters", .cu (c9 ll ((gY wd g (ks++[a])).map aT))),_,_,_]),_,_,_];rw[<-Z]
   rfl
  .rintro m ρ' ⟨u,rfl⟩;exact⟨_,rfl,rfl⟩
  .rintro m k ρ' hk ⟨u,rfl⟩;obtain⟨S,hv1,hv2⟩:=zt (wd:=gY wd g ks) hnd hk;refine Sv.aeT rfl o kY rfl ?_;rfl';refine⟨_,_,rfl,hv1,by rw[F5];have:=hok.Bd;omega,?_⟩;show∃(u:Sl),_;rw[hv2];exact⟨_,rfl⟩
  .rintro ρ' ⟨u,rfl⟩;show∃(Y u:Sl),_;rw[htk,O2 (n:=n) (x:=O) hnd hct L adl,QI L ∅ e];exact⟨_,_,rfl⟩
 .rintro ρ' ⟨Y,u,rfl⟩;rw[jO];exact⟨_,rfl,⟨rfl,rfl,λy m=>by rw[show(aC aO x dx _).F=_ from U _ _ _ _] at m⊢;exact m⟩,q⟩
def wz(C:ar):RF:=λc ds Φ=>∃(x dx ll lw a0 lc:ar) (p n many B:Int) (es:aZ) (bs:List ar) (wd:Wo) (W:Cu) (rs:List (List Int)),c=aC C x dx (fj p (.d (.dict ((bO es).map aH))) ll lw a0 bs lc wd W rs (dN wd (aK es)))/\ds=[.int B]/\
 bD p n many es/\gc p/\p<10^40/\0<=n/\n<=4000/\wd.length=n.toNat/\jj wd/\Φ true (.dict ((iB p wd B (gv wd (aK es))).map aH))
def Ta:EM (wz C):=by
 intro c ds Φ Ψ hm z;revert hm;walk_at "mo";exact λq=>z _ _ q
def uR:bS ["self","turn","found","number","deed","told"] ["self","turn"] (aI qV):=⟨rfl,rfl,rfl,by decide+kernel,rfl,by decide+kernel,by decide+kernel⟩
theorem ZL(F:bI K "found_in" "Finding.found_in" qV f fd){aO:ar}(o:cD K aO)(kY:bf K aO "counts")(oU:bf K aO "check_deeds")(oH:bf K aO "p")(kD:bf K aO "letters")(M:Callee P w K mg base "told_for" 3 ["p","pairs","rest","word"] (cG 4 AY)):
  bA P w K mg base bF 4 f fd ["self","turn"] (qG 2 (wz aO)):=by
 refine F.ok uR (λvs H Q E h=>h.1) (λcdv A outer s H vs Q E hr h=>?_);obtain⟨nb,c,ws,ds,Φ,rfl,C,dH,ez,I,G,hF⟩:=agB h;obtain⟨x,dx,ll,lw,a0,lc,p,n,many,B,es,bs,wd,W,rs,rfl,rfl,hok,hp,Y,J,hn1,hwl,hW,q⟩:=hF;obtain⟨Yh,R⟩:=Vm ez dH;clear ez dH;have ez:=Yh;have dH:=R;rw[show(aC aO x dx (fj p (.d (.dict ((bO es).map aH))) ll lw a0 bs lc wd W rs (dN wd (aK es)))).v=(aC aO x dx (o4 p (.dict ((bO es).map aH)) wd W.v (.ref a0) (dN wd (aK es)))).v from rfl];refine⟨_,#[2,@bh _ _ (2) _ _ _ _ uR.nd rfl (bg rfl) nL (by rfl) (by first|exact .inl rfl|exact .inr rfl|assumption),#[10,gH (K:=K) rfl (@Z6 _ _ _ (jd (eZ.of (show fU (aI qV) ["self","turn","found","number","deed","told"] _ ["other","self"] [none,some 0]=true by decide+kernel)) (@Ly _ _ _ _ (@dS _ _ _ _ _ (pv 0) rfl)) (λ_ _ _ _=>⟨#[3,(by show bx (["other","self"]:List Str);decide+kernel)],(pC (@bN _ _ _ _ _ _ _ _ je (@aJ _ _ _ _ _ _ (jG) lO (Vk (K:=K) rfl (pv 1) rfl) (pv 0) (λ_ _=>rfl)) ak (bM _))),(pv 0)⟩))),aY (i:=3) uR.nd rfl (bg rfl),(@ay _ _ _ _ _ #[22,uR.nd,@aJ _ _ _ _ _ _ (jG) lO (@dS _ _ _ _ _ (pv 0) rfl) (pv 3) (λ_ _=>rfl)] (@ay _ _ _ _ _ #[15,uR.nd,#[0,M,@aa _ _ _ _ _ (@dS _ _ _ _ _ (pv 0) rfl) (@aa _ _ _ _ _ (@aJ _ _ _ _ _ _ (dR K) eg (pv 4) ak (λ_ _=>rfl)) (@aa _ _ _ _ _ (@aJ _ _ _ _ _ _ (dR K) eg (pv 4) ak (λ_ _=>rfl)) (@aa _ _ _ _ _ (@dS _ _ _ _ _ (pv 0) rfl) ai rfl) rfl) rfl) rfl]] (@aE _ _ _ (@dZ _ _ _ _ _ _ _ _ (@bN _ _ _ _ _ _ _ _ (Cf hr.units) #[8,pv 5] (pv 2) (by with_unfolding_all rfl)) (@aE _ _ _ #[13,#[5,#[8,pv 5],@fy _ _ _ _ _ (@aa _ _ _ _ _ qU (@aa _ _ _ _ _ (pv 3) (@aa _ _ _ _ _ (pv 1) ai rfl) rfl) rfl)],(iT (pv 2) #[8,pv 5] set_dict)]) eV))))],pv 2],?_⟩;refine Sv.L9 C dH ez I G (ρ:=[.raw _, .d false _, .no, .no, .no, .no]) rfl ?_;clear G I;have hm:(false,HD.th (aC aO x dx (o4 p (.dict ((bO es).map aH)) wd W.v (.ref a0) (dN wd (aK es)))),V.ref x)∈(tu H nb (aC aO x dx (o4 p (.dict ((bO es).map aH)) wd W.v (.ref a0) (dN wd (aK es))))).hold:=aF.mpr rfl;have hl:=hok.Bd;have hnd:=hok.D5.imp λz=>Gk z;refine Sv.seq ?_;refine Sv.wQ (kZ.new ?_);intro A2;refine Sv.seq ?_;refine Sv.forL ?_;refine aD.ev (aD.ahe ⋯ rfl (λf c v m=>?_) ?_)
 .cases aF.mp m;exact Y1
 refine Ev.xB rfl hm o kY rfl .d ?_;refine⟨dN wd (aK es),rfl,by rw[Ed];omega,λG' N=>?_⟩;have T:∀t∈aK es,bJ (dN wd (aK es)) t.1=some (.int ((cA wd t.2.1).length:Int)):=λt m=>wK (by rw[T5];exact hnd) (cM.mpr ⟨t,m,rfl⟩);have U:∀(l:List CT) (t:CT),gv wd (l++[t])=gv wd l++if(cA wd t.2.1).length=1 then[t] else[]:=λl t=>by
  unfold gv;rw[mS,oF];by_cases c:(cA wd t.2.1).length=1<;>simp[c]
 refine⟨false,λi ds=>ds=((gv wd ((aK es).take i)).map (·.1)).map .int,rfl,?_,?_⟩
 .rintro i d ds ⟨kv,hkv,rfl⟩ hl' rfl;obtain⟨t,ht,rfl⟩:=fY hkv;have hmt:=cS ht;refine Gv.name ?_;refine⟨by walk_at "wk",?_⟩;refine Tv.test ?_;refine Ev.eq (Ev.m9 (Ev.xB rfl (N _ hm) o kY rfl .d ⟨_,rfl,?_⟩));rfl';refine⟨_,T t hmt,?_⟩;rfl';have hs2:=U ((aK es).take i) t;rw[<-xj ht] at hs2;by_cases c:(cA wd t.2.1).length=1
  .rw[if_pos (decide_eq_true ∅)];rw[if_pos c] at hs2;rfl';show _=_;rw[hs2,cX,cX]
   rfl
  .rw[if_neg (by rw[decide_eq_true_iff];omega)];rw[if_neg c,ic] at hs2;show _=_;rw[hs2]
 .rintro ds hl' rfl;rw[Ed,jO,show fE (((gv wd (aK es)).map (·.1)).map ba)=true from pZ.mpr λy m=>by obtain⟨k,_,rfl⟩:=cM.mp m;rfl];have h1:∀t∈gv wd (aK es),t∈aK es/\(cA wd t.2.1).length=1:=λt m=>by
   obtain⟨g1,g2⟩:=iN.mp m;exact⟨g1,by simpa using g2⟩
  have D:(gv wd (aK es)).length<=4000:=cU (yk _ _) (cU hl ⋯);refine⟨_,rfl,λv=>⟨λi ρ=>∃(u L S:Sl),ρ=[.raw (.ref x), .d false (.int B), .bB A2 true (iB p wd B ((gv wd (aK es)).take i)),u,L,S],⟨_,_,_,rfl⟩,?_,?_⟩⟩
  .rintro i d ρ' hi ⟨u,L,S,rfl⟩;obtain⟨k,hk,rfl⟩:=fY hi;obtain⟨t,ht,rfl⟩:=fY hk;obtain⟨hmt,j⟩:=h1 t (cS ht);obtain⟨g,Z,hr1⟩:=hok.uV hmt;have hv:=hok.SQ hmt;obtain⟨⟨a,O⟩,b⟩:=Sb (p:=p) (r:=t.2.2) j;have hpl:=Qs g;have hfl:(iB p wd B ((gv wd (aK es)).take i)).length<=4000:=cU (U3 _ _ _ _) (cU (by rw[oZ];exact oe _ _) D);have ef:iB p wd B ((gv wd (aK es)).take (i+1))=qS p wd B (iB p wd B ((gv wd (aK es)).take i)) t:=by rw[xj ht,D0]
   unfold qS at ef;rw[b] at ef;dsimp only at ef;have e:∀{y:Bool×HD×V},(false,HD.th (aC aO x dx (o4 p (.dict ((bO es).map aH)) wd W.v (.ref a0) (dN wd (aK es)))),V.ref x)∈y::(tu H nb (aC aO x dx (o4 p (.dict ((bO es).map aH)) wd W.v (.ref a0) (dN wd (aK es))))).hold:=λ{y}=>bV _ hm;generalize gG:(oM (gu (jh _ _ _ _) _) _:TS)=tl;refine Gv.name ?_;refine Sv.seq (Sv.asg (Ev.m9 (Ev.xB rfl e o oU rfl .d ⟨_,rfl,?_⟩)));rfl';refine⟨_,hv,?_⟩;rfl';subst gG;refine Sv.seq (Sv.asg (Ev.gK LC ?_));refine Av.cons (Ev.xB rfl e o oH rfl .d ?_);rfl';refine Ev.xB rfl e o kD rfl .d ?_;rfl';refine⟨rfl,p,t.2.2,t.2.1,wd,rfl,hp,Y,Z,hr1,∅,λpr m=>?_,λpr m=>?_,hW,?_⟩
   .obtain⟨g0,g1,g2,X⟩:=g.2.2 pr m;exact⟨g0,∅,by unfold Sm;omega⟩
   .obtain⟨g0,g1,g2,X⟩:=g.2.2 pr m;rw[uW ∅ X];omega
   rw[b];show Gv _ _ _ _ (gL [.int a, .int O]) _;refine Gv.name ?_;generalize gG:(gu _ (lZ (br 2) _ _):TS)=tl;rfl';refine Ev.BG rfl ?_;rfl';rw[Al];by_cases c:dh (iB p wd B ((gv wd (aK es)).take i)) a=true
   .rw[if_pos c] at ef;rw[c];rfl';show∃(u L S:Sl),(_:Rh)=[Sl.raw (.ref x),Sl.d false (.int B),Sl.bB A2 true (iB p wd B ((gv wd (aK es)).take (i+1))),u,L,S];rw[ef];exact⟨_,_,_,rfl⟩
   .rw[if_neg c] at ef;rw[ua] at c;rw[c];rfl';subst gG;refine Sv.BL rfl ?_;refine Ev.JG ?_;rfl';show∃(u L S:Sl),(_:Rh)=[Sl.raw (.ref x),Sl.d false (.int B),Sl.bB A2 true (iB p wd B ((gv wd (aK es)).take (i+1))),u,L,S];rw[ef];unfold eH;rw[c];exact⟨_,_,_,rfl⟩
  .rintro ρ' ⟨u,L,S,rfl⟩;rw[show(gv wd (aK es)).take _=gv wd (aK es) from qp (by rw[aj,aj];exact aW _)];refine Sv.GS 2 rfl ?_;rfl';exact q
def xq(C:ar):CF:=λc ds Φ=>∃(x dx:ar) (p n many:Int) (es:aZ) (R:ar->Prop),c=aC C x dx []/\ds=[.int p, .int n, .dict ((bO es).map aH)]/\bD p n many es/\0<=n/\n<=4000/\
 ∀(ll lw a0 lc:ar) (bs:List ar),bs.length=n.toNat->Φ (aC C x dx (fj p (.d (.dict ((bO es).map aH))) ll lw a0 bs lc (au n.toNat none) (iU R lw []) (gW n (aK es)) (dN (au n.toNat none) (aK es)))) true .none
def aa3:i9 (xq C):=by
 intro c ds Φ Ψ hm z;revert hm;walk_at "mo";exact λq=>λll lw a0 lc bs hb=>z _ _ _ (q ll lw a0 lc bs hb)
def C3:bS ["self","p","n","check_deeds","number","place","factor"] ["self","p","n","check_deeds"] (aI qI):=⟨rfl,rfl,rfl,by decide+kernel,rfl,by decide+kernel,by decide+kernel⟩
theorem Vr(F:bI K "__init__" "Finding.__init__" qI f fd){aO:ar}(o:cD K aO)(oH:bf K aO "p")(oU:bf K aO "check_deeds")(kD:bf K aO "letters")(V:bf K aO "whys")(mZ:bf K aO "having")(kY:bf K aO "counts")(kr:mg "sorted"=none)(bP:mg "len"=none)(cB:mg "range"=none):
  bA P w K mg base bF 1 f fd ["self","p","n","check_deeds"] (cz 4 (xq aO)):=by
 refine F.ok C3 (λvs H Q E h=>h.1) (λcdv A outer s H vs Q E hr h=>?_);obtain⟨_,nb,c,ws,ds,rfl,C,dH,T,ez,I,hF⟩:=h;obtain⟨Φ,G,hF⟩:∃Φ:Cu->Pd,(∀c' f d v H',Φ c' f d->kh c c' H H'->c'.P (λa=>nb a\/a∈c'.F) H'->af (λa=>nb a\/a∈c'.F\/(f=true/\H a≠none)) H' d v->Q v H')/\xq aO c ds Φ:=⟨_,λc' f d v H' q=>q v H',hF⟩;obtain⟨x,dx,p,n,many,es,R,rfl,rfl,hok,J,hn1,q⟩:=hF;refine⟨_,(@ay _ _ _ _ _ #[4,pv 1] (@ay _ _ _ _ _ #[4,pv 3] (@ay _ _ _ _ _ #[4,@aR _ _ _ _ _ _ _ _ Vd (@iX _ _ _ _ #[1,jf]) (pv 2)] (@ay _ _ _ _ _ #[4,nL] (@ay _ _ _ _ _ #[4,jd (eZ.of (show fU (aI qI) ["self","p","n","check_deeds","number","place","factor"] _ ["place"] [none]=true by decide+kernel)) (@j6 _ _ _ _ _ _ rfl cB (@aa _ _ _ _ _ (pv 2) ai rfl) (by rfl)) (λ_ _ _ _=>⟨#[3,(by show bx (["place"]:List Str);decide+kernel)],jN,(@iX _ _ _ _ ai)⟩)] (@ay _ _ _ _ _ #[4,nL] (@aE _ _ _ #[10,gH (K:=K) rfl (@cO _ _ _ _ _ _ _ _ (qt) (Cc rfl) rfl kr wZ (@aa _ _ _ _ _ (pv 3) ai rfl) ⋯ ⋯ (by rfl) (by rfl)),aY (i:=4) C3.nd rfl (bg rfl),@ay _ _ _ _ _ (@gF _ _ _ _ _ _ #[9,bP,#[1,#[8,@aJ _ _ _ _ _ _ (jG) lO (pv 3) (pv 4) (λ_ _=>rfl)]]] (iT (@dS _ _ _ _ _ (pv 0) rfl) (pv 4) set_dict) (by rfl) (by rfl) (by rfl)) (@aE _ _ _ #[16,(gH (K:=K) rfl #[8,@aJ _ _ _ _ _ _ (jG) lO (pv 3) (pv 4) (λ_ _=>rfl)]),(@k9 _ (K) _ _ _ (2) _ rfl rfl #[7,aY (i:=5) C3.nd rfl (bg rfl),aY (i:=6) C3.nd rfl (bg rfl)] (by rfl) (by rfl)),@kI _ _ _ _ (o8 uv wM xo tW (@aJ _ _ _ _ _ _ (c6 K) bY (@dS _ _ _ _ _ (pv 0) rfl) (pv 5) (λ_ _=>rfl)) (@aa _ _ _ _ _ (pv 4) ai rfl)) (by rfl)])]))))))),?_⟩;refine Sv.k6 C dH T ez I G (ρ:=[.cu _, .d false _, .d false _, .d false _, .no, .no, .no]) rfl ?_;clear G I;have hl:=hok.Bd;refine Sv.seq (Sv.kH rfl o oH (.inl rfl) (iQ rfl) ?_);rfl';refine Sv.kH rfl o oU (.inl rfl) (iQ rfl) ?_;rfl';refine Sv.O7 rfl o kD rfl (iQ rfl) ?_;refine aD.ag3 ?_;rfl';intro gg ll;refine Sv.seq (Sv.Wp (R:=R) rfl o V rfl (iQ rfl) λlw=>?_);refine Sv.seq (Sv.adu rfl o mZ rfl (iQ rfl) ?_);refine Dv.ZA ?_;rfl';refine⟨au n.toNat [],by rw[la];rfl,λa0 bs X=>?_⟩;refine Sv.seq (Sv.Ey rfl o kY rfl (iQ rfl) (kZ.new λlc=>?_));refine Sv.forL ?_;refine aD.ev (aD.Py ?_);refine Ev.var rfl ⟨bO es,rfl,by rw[FX];omega,λrs hs hp=>?_⟩;rw[EK] at hp;have E5:=UT hok.D5 hs hp;subst E5;rw[sL] at X;refine⟨_,rfl,λv=>⟨λi ρ=>∃(L S N:Sl),ρ=[.cu (aC aO x dx (fj p (.d (.dict ((bO es).map aH))) ll lw a0 bs lc (au n.toNat none) (iU R lw []) (gW n ((aK es).take i)) (dN (au n.toNat none) ((aK es).take i)))), .d false (.int p), .d false (.int n), .d false (.dict ((bO es).map aH)),L,S,N],?_,?_,?_⟩⟩
 .refine⟨.no, .no, .no,?_⟩;show _=[Sl.cu (aC aO x dx [("p", .d (.int p)),("check_deeds", .d (.dict ((bO es).map aH))),("letters", .cu (c9 ll ((au n.toNat (none:Option Int)).map aT))),("whys", .cu (iU R lw [])),("having", .cu (kL a0 bs (gW n []))),("counts", .cu (dI lc []))]),_,_,_,_,_,_];rw[agX,la]
  rfl
 .rintro i d ρ' hi ⟨L,S,N,rfl⟩;obtain⟨k,hk,rfl⟩:=fY hi;obtain⟨t,ht,rfl⟩:=fY hk;have hv:=hok.SQ (cS ht);obtain⟨g,Z,hr1⟩:=hok.uV (cS ht);have hpl:=Qs g;have D:i<(aK es).length:=(bH.mp ht).1;have gG:((aK es).take i).length=i:=by rw[oZ];omega
  have hnew:dh (dN (au n.toNat none) ((aK es).take i)) t.1=false:=by
   rw[<-ua,ko,T5];intro m;obtain⟨u,Y,e⟩:=cM.mp m;obtain⟨j,O⟩:=iW Y;rw[yh] at O;split at O
   .rename_i c
    have h1:=tP.mp hok.D5 j i (by rw[aj];omega) (by rw[aj];exact D) c;rw[og,og] at h1;have e1:=(bH.mp O).2;have e2:=(bH.mp ht).2;rw[e1,e2,e] at h1;omega
   .cases O
  generalize gG:(oM (gu _ (lZ _ _ _)) _:TS)=tl;rfl';subst gG;refine Sv.seq (Sv.CM rfl o kY rfl ?_);refine Ev.CP (Ev.nV (Ev.m9 ?_));rfl';refine⟨_,rfl,?_⟩;rfl';refine⟨_,hv,_,rfl,?_⟩;rfl';refine⟨by rw[Ed,gG];omega,?_⟩;refine Sv.forL (Ev.nV (Ev.m9 ?_));rfl';refine⟨_,rfl,?_⟩;rfl';refine⟨_,hv,_,rfl,?_⟩;rfl';intro v2;have hN:eH (dN (au n.toNat none) ((aK es).take i)) t.1 (.int ((t.2.1.map xl).length:Int))=dN (au n.toNat none) ((aK es).take (i+1)):=by
   rw[vP (by rw[hnew];decide),xj ht];unfold dN;rw[cX,aj];show _=_++[(t.1,ba ((cA (au n.toNat none) t.2.1).length:Int))];rw[YC λpr m=>⟨(g.2.2 pr m).1,(g.2.2 pr m).2.1⟩]
  rw[hN];refine⟨λj ρ=>∃(S N:Sl),ρ=[.cu (aC aO x dx (fj p (.d (.dict ((bO es).map aH))) ll lw a0 bs lc (au n.toNat none) (iU R lw []) (nK n ((aK es).take i) t.1 (t.2.1.take j)) (dN (au n.toNat none) ((aK es).take (i+1))))), .d false (.int p), .d false (.int n), .d false (.dict ((bO es).map aH)), .d true (.int t.1),S,N],?_,?_,?_⟩
  .refine⟨S,N,?_⟩;rw[Er,LQ]
   rfl
  .rintro j d ρ' O ⟨S,N,rfl⟩;obtain⟨pr,B,rfl⟩:=fY O;obtain⟨g0,g1,_⟩:=g.2.2 pr (cS B);have M:j<t.2.1.length:=(bH.mp B).1;have U:∀q∈t.2.1.take j,q.1≠pr.1:=λq m=>by
    obtain⟨j',r⟩:=iW m;rw[yh] at r;split at r
    .rename_i c
     have:=tP.mp g.2.1 j' j ∅ M c;rw[(bH.mp r).2,(bH.mp B).2] at this;omega
    .cases r
   have hb:∃b,bs[pr.1.toNat]?=some b:=⟨_,aL (by rw[X];omega)⟩;obtain⟨b,hb⟩:=hb;generalize gG:(nu _:TS)=tl;rfl';subst gG;refine Sv.He (i:=0) (f:="having") rfl rfl (tV.Og rfl o mZ rfl ?_);rfl';refine⟨_,pr.1.toNat,b,rfl,by unfold ji;rw[if_pos g0,if_pos (by rw[X];omega)],hb,pr.1.toNat,_,hb,Ry g0 g1 U,qi (ahw _ _) (by rw[gG];omega),?_⟩;rfl';show∃(S N:Sl),_;rw[OK g0 g1 U,<-xj B];exact⟨_,_,rfl⟩
  .rintro ρ' ⟨S,N,rfl⟩;rw[aj,jO,Kn,<-xj ht];exact⟨_,_,_,rfl⟩
 .rintro ρ' ⟨L,S,N,rfl⟩;rw[show(aK es).take _=aK es from qp (by rw[aj,aj];exact aW _)]
  exact⟨_,rfl,⟨rfl,rfl,λa m=>by
   rcases aM.mp (show a∈x::dx::[] from m) with h|h
   .rw[h];exact bZ
   .rw[aF.mp h];exact bV _ bZ⟩,q ll lw a0 lc bs X⟩
def Je(_C:ar):DF:=λds Φ=>∃(p n many:Int) (es:aZ),ds=[.int p, .int n, .dict ((xp es).map aH), .dict ((bO es).map aH)]/\bD p n many es/\gc p/\p<10^40/\0<=n/\n<=4000/\∀d,sr p n es d->Φ true d
def ahm:eK (Je C):=by
 intro ds Φ Ψ hm z;revert hm;walk_at "mo";exact λq=>λd hd=>z _ _ (q d hd)
def uB:bS ["p","n","letter_deeds","check_deeds","finding","turn","found"] ["p","n","letter_deeds","check_deeds"] (aI J7):=⟨rfl,rfl,rfl,by decide+kernel,rfl,by decide+kernel,by decide+kernel⟩
theorem afz(F:bI K "found_by" "found_by" J7 f fd){aO:ar}(o:cD K aO)(kD:bf K aO "letters")(V:bf K aO "whys")(Sz:fQ P w K mg base aO "take" 1 ["self","found"] (cz 2 (vq aO)))(Qn:fQ P w K mg base aO "found_in" 4 ["self","turn"] (qG 2 (wz aO)))(Zz:qB P w K mg base aO "Finding" 1 ["self","p","n","check_deeds"] (cz 4 (xq aO)))(ZY:Callee P w K mg base "first_found" 1 ["letter_deeds"] (cG 1 JF)):
  bA P w K mg base bF 5 f fd ["p","n","letter_deeds","check_deeds"] (cG 4 (Je aO)):=by
 refine F.ok uB (λvs H Q E h=>h.1) (λcdv A outer s H vs Q E hr h=>?_);obtain⟨nb,ds,Φ,C,I,G,hF⟩:=jP h;obtain⟨p,n,many,es,rfl,hok,hp,Y,J,hn1,q⟩:=hF;refine⟨_,(@ay _ _ _ _ _ #[22,uB.nd,@HC _ _ _ _ _ _ _ _ _ _ _ Zz (hr.mono ⋯) (@aa _ _ _ _ _ (pv 0) (@aa _ _ _ _ _ (pv 1) (@aa _ _ _ _ _ (pv 3) ai rfl) rfl) rfl) (by rfl) ⋯ (by rfl) (by rfl)] (@ay _ _ _ _ _ (@kI _ _ _ _ #[18,Sz,pv 4,#[1,#[0,ZY,@aa _ _ _ _ _ (pv 2) ai rfl]]] (by rfl)) (@ay _ _ _ _ _ (@bh _ _ (5) _ _ _ _ uB.nd rfl (bg rfl) ak (by rfl) (by first|exact .inl rfl|exact .inr rfl|assumption)) #[2,#[20,uB.nd,#[18,Qn,pv 4,@aa _ _ _ _ _ (pv 5) ai rfl]],@BC _ _ _ _ _ _ gy (@bN _ _ _ _ _ _ _ _ (LO hr.units) (pv 6) nL (bM _)) (@ay _ _ _ _ _ (@kI _ _ _ _ #[18,Sz,pv 4,@aa _ _ _ _ _ (pv 6) ai rfl] (by rfl)) (@ay _ _ _ _ _ #[15,uB.nd,@aR _ _ _ _ _ _ _ _ iA (pv 5) ak] (@aE _ _ _ #[20,uB.nd,#[18,Qn,pv 4,@aa _ _ _ _ _ (pv 5) ai rfl]]))),(@fy _ _ _ _ _ #[5,@dS _ _ _ _ _ (pv 4) rfl,@dS _ _ _ _ _ (pv 4) rfl])]))),?_⟩;refine Sv.jy C I G (ρ:=[.d false _, .d false _, .d false _, .d false _, .no, .no, .no]) rfl ?_;clear G I;have M:0<p:=by have:=hp.1;omega
 refine Sv.seq (Sv.make aa3 ?_);rfl';refine⟨rfl,λx dx=>⟨x,dx,p,n,many,es,λa=>H a≠none,rfl,rfl,hok,J,hn1,λll lw a0 lc bs X=>⟨rfl,?_⟩⟩⟩;have Z:∀(wd:Wo) (W:Ks) (S:ar->Prop) (H':Hp),(aC aO x dx (fj p (.d (.dict ((bO es).map aH))) ll lw a0 bs lc wd (iU (λa=>H a≠none) lw W) (gW n (aK es)) (dN wd (aK es)))).P S H'->∃v,af S H' (.dict ((bO es).map aH)) v/\(aC aO x dx (fj p (.cu (n6 v)) ll lw a0 bs lc wd (dI lw W) (gW n (aK es)) (dN wd (aK es)))).P (λa=>S a\/H a≠none) H':=λwd W S H' h=>V9 (VL wd (aK es)) h;refine Sv.seq (Sv.I0 (bz.PR (D:= .dict ((bO es).map aH)) (cp:=λv=>aC aO x dx (fj p (.cu (n6 v)) ll lw a0 bs lc (au n.toNat none) (dI lw []) (gW n (aK es)) (dN (au n.toNat none) (aK es)))) Tu rfl rfl (aC.is rfl) (λv=>⟨rfl,rfl,rfl⟩) (Z _ _) ?_));refine Av.cons (Ev.gK WL ?_);rfl';refine⟨rfl,p,n,many,es,rfl,hok,?_⟩;rfl';refine⟨rfl,rfl,λv=>?_⟩;have T:∀a O w,((fK es a).map λx=>(x.2,kB x.1))=some (O,w)->0<=a/\a<n/\(au n.toNat (none:Option Int))[a.toNat]?=some none:=λa O w e=>by
  obtain⟨kx,e2,_⟩:=jJ.mp e;obtain⟨g0,g1,_⟩:=hok.JY e2;exact⟨g0,g1,by rw[eY,if_pos ∅]⟩
 refine⟨x,dx,ll,lw,a0,lc,p,n,many,es, .cu (n6 v),bs,_,[],iZ (gD es),_,rfl,rfl,rfl,hok,J,hn1,sL,iP _,cU (KU _) (cU hok.Rt ⋯),X,Dp es,T,?_⟩;obtain⟨k,p2⟩:=JT J hok;have NO:=MH (W:=[]) (g:=λa=>(fK es a).map λx=>(x.2,kB x.1)) .nil _ (Oc (gD es)) λa m=>⟨((Dp es).key a).mp m,λz=>by cases z⟩;rw[k];generalize hW:fW [] (λa=>(fK es a).map λx=>(x.2,kB x.1)) ((iZ (gD es)).map (·.1))=W0 at p2 NO;refine⟨aC aO x dx (fj p (.d (.dict ((bO es).map aH))) ll lw a0 bs lc (ir n es).wd (iU (λa=>H a≠none) lw W0) (gW n (aK es)) (dN (ir n es).wd (aK es))),rfl,rfl,rfl,rfl,λS H' h1 h2=>OB h1 h2,?_⟩;rfl';have FI:∀t,jj (bG p n es t).wd:=λt x m=>by
  obtain⟨_,_,g⟩:=rM M hok t;have:=g x m;unfold Sm;omega
 have b:∀{ρ:Rh} {t:Nat} {W:Ks} {Ia:Pd},ρ[4]?=some (.cu (aC aO x dx (fj p (.d (.dict ((bO es).map aH))) ll lw a0 bs lc (bG p n es t).wd (iU (λa=>H a≠none) lw W) (gW n (aK es)) (dN (bG p n es t).wd (aK es)))))->ρ[5]?=some (.d true (.int ((t:Int)+1)))->Ia true (.dict ((iB p (bG p n es t).wd ((t:Int)+1) (gv (bG p n es t).wd (aK es))).map aH))->Ev ⟨none,H,nb,[]⟩ ρ (om aO "found_in" (qG 2 (wz aO)) [] E0 (br 4) (aU (br 5) bK)) Ia:=λ{ρ t W Ia} e4 e5 G=>by
  refine Ev.VI Ta e4 rfl (aC.is rfl) ?_;refine fq.cons (Ev.var e5 ?_);refine fq.nil ?_;exact⟨rfl,x,dx,ll,lw,a0,lc,p,n,many,(t:Int)+1,es,bs,_,_,_,rfl,rfl,hok,hp,Y,J,hn1,(rM M hok t).1,FI t, .inl rfl,G⟩
 refine b (t:=0) rfl rfl ?_;rfl';obtain⟨u,r⟩:∃u:Nat->Ks->Cu,u=λt W=>aC aO x dx (fj p (.d (.dict ((bO es).map aH))) ll lw a0 bs lc (bG p n es t).wd (iU (λa=>H a≠none) lw W) (gW n (aK es)) (dN (bG p n es t).wd (aK es))):=⟨_,rfl⟩;obtain⟨i,B⟩:∃i:Nat->Ks,i=λt=>iB p (bG p n es t).wd ((t:Int)+1) (gv (bG p n es t).wd (aK es)):=⟨_,rfl⟩;refine Sv.JW (λρ=>∃(t:Nat) (W:Ks),(W.map (·.1)).Nodup/\(∀a,bJ W a=(bG p n es t).wh a)/\t<=W.length/\ρ=[.d false (.int p), .d false (.int n), .d false (.dict ((xp es).map aH)), .d false (.dict ((bO es).map aH)), .cu (u t W), .d true (.int ((t:Int)+1)), .d true (.dict ((i t).map aH))]) (λ(ρ:Rh)=>match(ρ[5]?:Option Sl) with|some (Sl.d _ (ba t))=>(5000-t).toNat|_=>0) ⟨0,W0,NO.1,p2,iP _,by rw[r,B];rfl⟩ ?_;rintro ρ' ⟨t,W,hnd,hval,htW,rfl⟩;obtain⟨R,j,i3⟩:=rM M hok t;have hWn:W.length<=n.toNat:=by have:=adj hnd hval j;omega
 have hF:=JP p (bG p n es t).wd ((t:Int)+1) es;have L:i t=iB p (bG p n es t).wd ((t:Int)+1) (gv (bG p n es t).wd (aK es)):=by rw[B]
 rw[<-L] at hF;refine Tv.test (Ev.neE (Ev.var rfl ⟨_,rfl,_,rfl,?_⟩));by_cases c:(i t).isEmpty=true
 .rw[c];rw[if_neg ⋯];rw[r];refine Sv.Vv rfl o kD V ?_;have hf:∀a,fS p es (bG p n es t).wd a=none:=λa=>by
   have:=hF.val a;rw[List.isEmpty_iff.mp c] at this;cases e:fS p es (bG p n es t).wd a with
   |none=>rfl
   |some kx=>rw[e] at this;cases this
  have hE:jg p n es=bG p n es t:=by
   have:=UL (n:=n) hf (n.toNat+1-t);rw[show t+(n.toNat+1-t)=n.toNat+1 by omega] at this;exact this
  refine q _ ⟨W,by rw[hE],λa=>by rw[hE];exact hval a⟩
 .rw[ua] at c;rw[c];rw[if_pos ⋯];rw[show u t W=aC aO x dx (fj p (.d (.dict ((bO es).map aH))) ll lw a0 bs lc (bG p n es t).wd (iU (λa=>H a≠none) lw W) (gW n (aK es)) (dN (bG p n es t).wd (aK es))) by rw[r]];refine Sv.seq (Sv.I0 (bz.PR (D:= .dict ((bO es).map aH)) (cp:=λv=>aC aO x dx (fj p (.cu (n6 v)) ll lw a0 bs lc (bG p n es t).wd (dI lw W) (gW n (aK es)) (dN (bG p n es t).wd (aK es)))) Tu rfl rfl (aC.is rfl) (λv=>⟨rfl,rfl,rfl⟩) (Z _ _) ?_));refine Av.cons (Ev.var rfl ?_);refine Av.nil ?_;refine⟨rfl,rfl,λv=>?_⟩;have l:∀a O w,((fS p es (bG p n es t).wd a).map λkx=>(kx.2,i6 kx.1 ((t:Int)+1)))=some (O,w)->0<=a/\a<n/\(bG p n es t).wd[a.toNat]?=some none:=λa O w e=>by
   obtain⟨kx,e2,_⟩:=jJ.mp e;obtain⟨g0,g1,g2,_⟩:=hok.vL M e2;exact⟨g0,g1,g2⟩
  have UQ:(i t).length<=4000:=by
   rw[L];exact cU (U3 _ _ _ _) (cU (yk _ _) (cU hok.Bd ⋯))
  refine⟨x,dx,ll,lw,a0,lc,p,n,many,es, .cu (n6 v),bs,_,W,i t,_,rfl,rfl,rfl,hok,J,hn1,R,∅,UQ,X,hF,l,?_⟩;obtain⟨s1,s2⟩:=XP M hok ((t:Int)+1) (bG p n es t) hval R j;rw[<-L] at s1 s2
  have Hi:=MH (W:=W) (g:=λa=>(fS p es (bG p n es t).wd a).map λkx=>(kx.2,i6 kx.1 ((t:Int)+1))) hnd ((i t).map (·.1)) hF.nd λa m=>⟨(hF.key a).mp m,λz=>by
   have h1:=(hF.key a).mp m;obtain⟨⟨O,w⟩,h2⟩:=qC.mp h1;obtain⟨g0,g1,g2⟩:=l a O w h2;rw[<-mH,hval] at z;obtain⟨w',N⟩:=qC.mp z;obtain⟨_,y,hy⟩:=j a w' N;rw[g2] at hy;cases hy⟩
  rw[s1];generalize hW':fW W (λa=>(fS p es (bG p n es t).wd a).map λkx=>(kx.2,i6 kx.1 ((t:Int)+1))) ((i t).map (·.1))=W' at s2 Hi;have U:(i t).length≠0:=λz=>by rw[qb] at z;rw[z] at c;cases c
  have eN:j7 p es ((t:Int)+1) (bG p n es t)=bG p n es (t+1):=rfl;rw[eN] at s2⊢;refine⟨aC aO x dx (fj p (.d (.dict ((bO es).map aH))) ll lw a0 bs lc (bG p n es (t+1)).wd (iU (λa=>H a≠none) lw W') (gW n (aK es)) (dN (bG p n es (t+1)).wd (aK es))),rfl,rfl,rfl,rfl,λS H' h1 h2=>OB h1 h2,?_⟩;rfl';refine b (t:=t+1) (W:=W') rfl rfl ?_;rfl';refine⟨⟨t+1,W',Hi.1,s2,by rw[Hi.2.1,aj];omega,?_⟩,?_⟩;·rw[r,B];rfl
  .show(5000-_:Int).toNat<(5000-_:Int).toNat;omega
def C7:bS ["script","stir","cell"] ["script"] (aI Bv):=⟨rfl,rfl,rfl,by decide+kernel,rfl,by decide+kernel,by decide+kernel⟩
theorem Xa(F:bI K "_law_bag" "_law_bag" Bv f fd)(Ke:mg "abs"=none):
  bA P w K mg base bF 1 f fd ["script"] (MN K):=by
 refine F.ok C7 (λvs H Q E h=>?_) (λcdv A outer s H vs Q E hr h=>?_)
 .obtain⟨a,ns,rfl,N,hl,q⟩:=h
  rfl
 obtain⟨a,ns,rfl,N,hl,q⟩:=h;refine⟨_,#[2,@bh _ _ (1) _ _ _ _ C7.nd rfl (bg rfl) ak (by rfl) (by first|exact .inl rfl|exact .inr rfl|assumption),#[16,gH (K:=K) rfl (@uE _ _ _ _ _ _ _ _ _ _ wH (pv 0) uX (@uY _ _ _ ak)),aY (i:=2) C7.nd rfl (bg rfl),#[23,C7.nd,@aR _ _ _ _ _ _ _ _ jU (@aR _ _ _ _ _ _ _ _ iA (@aR _ _ _ _ _ _ _ _ iA (@aR _ _ _ _ _ _ _ _ ku (pv 1) ak) (@aR _ _ _ _ _ _ _ _ jU (pv 2) ak)) ak) ak]],@iX _ _ _ _ (@aa _ _ _ _ _ (jd (eZ.of (show fU (aI Bv) ["script","stir","cell"] _ ["cell"] [none]=true by decide+kernel)) (gH (K:=K) rfl (@uE _ _ _ _ _ _ _ _ _ _ wH (pv 0) uX (@uY _ _ _ ak))) (λ_ _ _ _=>⟨#[3,(by show bx (["cell"]:List Str);decide+kernel)],jN,(@aR _ _ _ _ _ _ _ _ jU (@cO _ _ _ _ _ _ _ _ _ QB rfl Ke ug (@aa _ _ _ _ _ (pv 0) ai rfl) ⋯ ⋯ (by rfl) (by rfl)) (@aR _ _ _ _ _ _ _ _ Eb ak ak))⟩)) (@aa _ _ _ _ _ ak (@aa _ _ _ _ _ ak (@aa _ _ _ _ _ (pv 1) (@aa _ _ _ _ _ ak ai rfl) rfl) rfl) rfl) rfl)],?_⟩;have d:nT (ns.map V.int) none (some 63)=ns.map V.int:=by
  have e:(ns.map V.int).length=ns.length:=aj _;show pX (min 63 (ns.map V.int).length-0) (List.drop 0 (ns.map V.int))=_;rw[rf];exact qp ∅
 walk_at "st";refine R.MX N λc hc=>?_;rw[d];refine R.By (bL.of aV) ?_;refine G9 (xs:=ns.map V.int) (λi σ H1=>∃(st:Int) (x:Option V),σ=[some (.ref a),some (.int st),x]/\0<=st/\st<2147483647/\H1=upd H c (.lst (ns.map V.int))) ⟨19,none,rfl,∅,∅,rfl⟩ ?_ ?_ ?_
 .rintro i σ H1 hi ⟨st,x,rfl,h1,h2,rfl⟩;exact bL.of aV
 .rintro i x σ H1 hx ⟨st,y,rfl,h1,h2,rfl⟩;rw[bu] at hx;obtain⟨n,_,rfl⟩:=jJ.mp hx;walk_at "st";exact⟨_,_,rfl,jM _ ⋯,jK _ ⋯,rfl⟩
 .rintro σ H1 ⟨st,x,rfl,h1,h2,rfl⟩;walk_at "st";refine R.MX ((dU hc).seq N) λc2 b=>?_;rw[d];refine R.By (bL.of aV) ?_;intro acc hacc;refine R.QX (xs:=ns.map V.int) (λi σ H2=>∃(x:Option V),σ=[x]/\H2=upd (upd (upd H c (.lst (ns.map V.int))) c2 (.lst (ns.map V.int))) acc (.lst (((ns.take i).map λn=>(if n<0 then-n else n)%10^60).map V.int))) ⟨none,rfl,rfl⟩ ?_ ?_ ?_
  .rintro i σ H1 hi ⟨x,rfl,rfl⟩;refine bL.of ?_;rw[aG (jW aV hacc)];exact aV
  .rintro i x σ H1 hx ⟨y,rfl,rfl⟩;rw[bu] at hx;obtain⟨n,hn,rfl⟩:=jJ.mp hx;walk_at "st";refine⟨_,aV,?_,_,rfl,?_⟩
   .rw[aj,aj,oZ];exact N5 ∅
   .rw[G0,EO,hn,cX,cX]
    rfl
  .rintro σ H1 ⟨x,rfl,rfl⟩;walk_at "st";refine(show GX _ _ _ from⟨by show 5<=sizeLine;decide,λp hp=>?_⟩);have hn1:=jW (aV (H:=upd (upd H c (.lst (ns.map V.int))) c2 (.lst (ns.map V.int))) (a:=acc)) hp;have s1:dQ H (upd (upd (upd H c (.lst (ns.map V.int))) c2 (.lst (ns.map V.int))) acc (.lst (((ns.take (ns.map V.int).length).map λn=>(if n<0 then-n else n)%10^60).map V.int))):=(dU hc).trans ((dU b).trans (dU hacc));refine q p acc _ (s1.trans (dU hp)) (s1.free hp) ⟨_,0,0,st,0,aV,by rw[aG hn1];exact aV,?_,?_,∅,∅,∅,h1,h2⟩
   .intro y hy;obtain⟨z,_,rfl⟩:=cM.mp hy;exact⟨jM _ ⋯,jK _ ⋯⟩
   .rw[aj,oZ];omega
def U4:bS ["bag","many","found"] ["bag","many"] (aI Ep):=⟨rfl,rfl,rfl,by decide+kernel,rfl,by decide+kernel,by decide+kernel⟩
theorem VJ(F:bI K "_law_draw" "_law_draw" Ep f fd)(bP:mg "len"=none):
  bA P w K mg base bF 1 f fd ["bag","many"] k7:=by
 refine F.ok U4 (λvs H Q E h=>?_) (λcdv A outer s H vs Q E hr h=>?_)
 .obtain⟨b,l,many,rfl,Z,hm,hs,q⟩:=h
  rfl
 obtain⟨b,l,many,rfl,Z,hm,hs,q⟩:=h;refine⟨_,(@ay _ _ _ _ _ (@dZ _ _ _ _ _ _ _ _ (PW.pt (o6 (@bN _ _ _ _ _ _ _ _ je (@aJ _ _ _ _ _ _ _ bY (pv 0) ak (λ_ _=>rfl)) ak (bM _)) (oN (@bN _ _ _ _ _ _ _ _ vA (@aJ _ _ _ _ _ _ _ bY (pv 0) ak (λ_ _=>rfl)) (@cO _ _ _ _ _ _ _ _ _ Ll rfl bP gM #[1,@aJ _ _ _ _ _ _ _ bY (pv 0) ak (λ_ _=>rfl)] ⋯ ⋯ (by rfl) (by rfl)) (bM _))))) (@ay _ _ _ _ _ (@gF _ _ _ _ _ _ (@aJ _ _ _ _ _ _ _ bY (@aJ _ _ _ _ _ _ _ bY (pv 0) ak (λ_ _=>rfl)) (@aJ _ _ _ _ _ _ _ bY (pv 0) ak (λ_ _=>rfl)) (λ_ _=>rfl)) (iT (pv 0) ak set_list) (by rfl) (by rfl) (by rfl)) (@aE _ _ _ (@gF _ _ _ _ _ _ (@aR _ _ _ _ _ _ _ _ iA (@aJ _ _ _ _ _ _ _ bY (pv 0) ak (λ_ _=>rfl)) ak) (iT (pv 0) ak set_list) (by rfl) (by rfl) (by rfl)))) (@aE _ _ _ (@dZ _ _ _ _ _ _ _ _ (@bN _ _ _ _ _ _ _ _ je (@aJ _ _ _ _ _ _ _ bY (pv 0) ak (λ_ _=>rfl)) ak (bM _)) #[2,@gF _ _ _ _ _ _ (@aR _ _ _ _ _ _ _ _ iA (@aJ _ _ _ _ _ _ _ bY (pv 0) ak (λ_ _=>rfl)) ak) (iT (pv 0) ak set_list) (by rfl) (by rfl) (by rfl),@gF _ _ _ _ _ _ (@aR _ _ _ _ _ _ _ _ jU (@aR _ _ _ _ _ _ _ _ iA (@aR _ _ _ _ _ _ _ _ iA (@aR _ _ _ _ _ _ _ _ iA (@aR _ _ _ _ _ _ _ _ Eb (@aJ _ _ _ _ _ _ _ bY (pv 0) ak (λ_ _=>rfl)) ak) (@aR _ _ _ _ _ _ _ _ ku ak (@aJ _ _ _ _ _ _ _ bY (pv 0) ak (λ_ _=>rfl)))) (@aR _ _ _ _ _ _ _ _ ku ak (@aJ _ _ _ _ _ _ _ bY (pv 0) ak (λ_ _=>rfl)))) ak) ak) (iT (pv 0) ak set_list) (by rfl) (by rfl) (by rfl),@aR _ _ _ _ _ _ _ _ jU (@aR _ _ _ _ _ _ _ _ rC (@aJ _ _ _ _ _ _ _ bY (pv 0) ak (λ_ _=>rfl)) ak) (pv 1)] eV))) #[2,#[17,U4.nd,@aR _ _ _ _ _ _ _ _ jU (@aJ _ _ _ _ _ _ _ bY (pv 0) ak (λ_ _=>rfl)) (pv 1)],@gF _ _ _ _ _ _ (@aR _ _ _ _ _ _ _ _ rC (@aJ _ _ _ _ _ _ _ bY (pv 0) ak (λ_ _=>rfl)) (pv 1)) (iT (pv 0) ak set_list) (by rfl) (by rfl) (by rfl),pv 2]),?_⟩;obtain⟨ns,i,c,st,n,h1,h2,h3,h4,h5,h6,e,g,j⟩:=id Z;have hlb:=TC h1 h2
 have fin:∀(H1:Hp) (k c':Int),H1 b=some (.lst [.ref l, .int k, .int c', .int st, .int n])->bC (Nb b) H H1->0<=k->0<=c'->c'<10^60->
   ∀(H2:Hp),H2=upd H1 b (.lst [.ref l, .int k, .int (c'/many), .int st, .int n])->Q (.int (c'%many)) H2:=λH1 k c' e1 bt g1 g2 X H2 e2=>by
  subst e2;have hd1:0<=c'/many:=vF g2 ∅;have hd2:c'/many<=c':=FA _ g2;exact q _ _ (jM _ ∅) (jK _ hm) (bt.trans (bC.set rfl)) (dO.put hlb (bt _ _ hlb h2) h3 h4 g1 hd1 ∅ g j)
 walk_at "st";refine tT (λc1=>?_) (λc1=>?_)
 .have c1:c=0:=of_decide_eq_true c1;walk_at "st";refine tT (λc2=>?_) (λc2=>?_)
  .have c2:i<(dj V.int ns).length:=of_decide_eq_true c2;rw[aj] at c2;have hi:i.toNat<ns.length:=∅
   obtain⟨g1,g2⟩:=h3 _ (jB hi);walk_at "st";refine R.AG h2 (v:= .int ns[i.toNat]) (jT h5 (by rw[bu,aL hi];rfl)) ?_;walk_at "st";refine fin (upd H b (.lst [.ref l, .int (i+1), .int ns[i.toNat], .int st, .int n])) (i+1) ns[i.toNat] aV (bC.set rfl) ∅ g1 g2 _ ?_;rw[G0]
   rfl
  .walk_at "st";exact q _ _ (jM _ ∅) (jK _ hm) (bC.set rfl) (dO.put hlb h2 h3 h4 h5 h6 e (jM _ ⋯) (jK _ ⋯))
 .have c1:¬c=0:=of_decide_eq_false (J5.mpr c1);walk_at "st";exact fin H i c h1 (bC.refl _ _) h5 h6 e _ rfl
def WA(is:List Int):e6 (.list (is.map ba)) (.list [])=decide (is=[]):=by
 cases is<;>simp[e6,kq]
def X8(is:List Int):cn (.list (is.map ba))=true:=by
 have h:bX (is.map ba)=0/\be (is.map ba)=true:=by
  induction is with
  |nil=>simp[bX,be]
  |cons a r ih=>simp[bX,dC,be,cq,ih.2,ih.1]
 unfold cn;simp[cq,dC,h.2,h.1]
theorem Tr{nb:ar->Prop}{H:Hp}:∀is:List Int,ah nb H (is.map ba) (is.map V.int)
 |[]=>ah.nil
 |i::is=>ah.cons (.int i) (Tr is)
theorem Xc{r:Int}(h0:r<=10100)(h:∀d:Int,2<=d->d<102->¬(d*d<=r/\r%d=0)):BE r:=λd d1 X e=>by
 by_cases hd:d<102;·exact h d d1 hd ⟨X,e⟩
 .have:102*102<=d*d:=J8 ∅ ∅ ∅ ∅;omega
def QF:bS ["number","found"] ["number"] (aI Dq):=⟨rfl,rfl,rfl,by decide+kernel,rfl,by decide+kernel,by decide+kernel⟩
theorem y3(F:bI K "_law_prime_from" "_law_prime_from" Dq f fd)(cB:mg "range"=none):
  bA P w K mg base bF 1 f fd ["number"] JN:=by
 refine F.ok QF (λvs H Q E h=>?_) (λcdv A outer s H vs Q E hr h=>?_)
 .obtain⟨n,rfl,hn1,t,q⟩:=h
  rfl
 obtain⟨n,rfl,hn1,t,q⟩:=h;refine⟨_,(@ay _ _ _ _ _ #[16,(@GP _ _ _ _ _ _ _ rfl cB #[11,@aR _ _ _ _ _ _ _ _ iA (pv 0) ak] (by rfl) (by rfl)),aY (i:=1) QF.nd rfl (e0 rfl),@dZ _ _ _ _ _ _ _ _ (@bN _ _ _ _ _ _ _ _ (WM hr.units) (jd (eZ.of (show fU (aI Dq) ["number","found"] _ ["k","found"] [none,some 1]=true by decide+kernel)) (@GP _ _ _ _ _ _ _ rfl cB (@aa _ _ _ _ _ ak (@aa _ _ _ _ _ ak ai rfl) rfl) (by rfl) (by rfl)) (λ_ _ _ _=>⟨#[3,(by show bx (["k","found"]:List Str);decide+kernel)],(pC (PW.pt (o6 (@bN _ _ _ _ _ _ _ _ C2 (@aR _ _ _ _ _ _ _ _ ku (pv 0) (pv 0)) (pv 1) (bM _)) (oN (@bN _ _ _ _ _ _ _ _ je (@aR _ _ _ _ _ _ _ _ jU (pv 1) (pv 0)) ak (bM _)))))),(pv 0)⟩)) (@iX _ _ _ _ ai) (bM _)) (@aE _ _ _ (@bE _ _ _ _ (pv 1))) eV] (@aE _ _ _ (@bE _ _ _ _ ak))),?_⟩;walk_at "st";refine M1 (λi σ H1=>dQ H H1/\∃(x:Option V),σ=[some (.int n),x]) ⟨dQ.refl _,none,rfl⟩ ?_ ?_
 .rintro i σ H1 hi ⟨s1,x,rfl⟩;have b:(i:Int)<60:=∅
  walk_at "st";intro acc hacc;refine R.yG (λj σ H2=>dQ H1 H2/\(∃x:Option V,σ=[x,some (.int (n+i))])/\∃is:List Int,H2 acc=some (.lst (is.map V.int))/\is.length<=j/\(is=[]->∀d:Int,2<=d->d<2+j->¬(d*d<=n+i/\(n+i)%d=0))) ?_ ?_ ?_;·exact⟨dU hacc,⟨none,rfl⟩,[],aV,iP _,λ_ d d1 X=>∅⟩
  .rintro j σ H2 hj ⟨s2,⟨x,rfl⟩,is,e2,l2,h2⟩;have hj2:(j:Int)<100:=∅
   have next:∀d:Int,d<2+((j+1:Nat):Int)->d<2+j\/d=2+j:=λd h=>∅
   walk_at "st";refine tT (λc1=>?_) (λc1=>?_)
   .have c1:(2+(j:Int))*(2+j)<=n+i:=of_decide_eq_true c1;walk_at "st";refine tT (λc2=>?_) (λc2=>?_)
    .have c2:(n+i)%(2+(j:Int))=0:=of_decide_eq_true c2;walk_at "st";refine⟨_,e2,?_,?_,⟨_,rfl⟩,is++[2+(j:Int)],?_,?_,λe=>?_⟩;·rw[aj];exact N5 ∅
     .exact λa o h=>by rw[aG (jW h hacc)];exact s2 _ _ h
     .rw[aV,cX];rfl
     .rw[cP,kc];omega
     .simp at e
    .have c2:¬(n+i)%(2+(j:Int))=0:=of_decide_eq_false (J5.mpr c2);refine⟨s2,⟨_,rfl⟩,is,e2,∅,λe d d1 X=>?_⟩;rcases next d X with h|h
     .exact h2 e d d1 h
     .rw[h];exact λz=>c2 z.2
   .have c1:¬(2+(j:Int))*(2+j)<=n+i:=of_decide_eq_false (J5.mpr c1);walk_at "st";refine⟨s2,⟨_,rfl⟩,is,e2,∅,λe d d1 X=>?_⟩;rcases next d X with h|h
    .exact h2 e d d1 h
    .rw[h];exact λz=>c1 z.1
  .rintro σ H2 ⟨s2,⟨x,rfl⟩,is,e2,l2,h2⟩;walk_at "st";refine R.Zg ⋯ λp H3 Z m e3=>?_;refine⟨λ_=>False, .list (is.map ba), .list [], .lst id (Z _ _ e2) (Tr is), .lst id e3 ah.nil,X8 is,⋯,?_⟩;rw[WA];walk_at "st";have s:dQ H H3:=s1.trans (s2.trans Z);refine tT (λc=>?_) (λc=>?_)
   .have c:is=[]:=by simpa using c
    walk_at "st";exact q _ _ s ∅ ∅ (Xc ∅ λd d1 X=>h2 c d d1 ∅)
   .walk_at "st";exact⟨s,_,rfl⟩
 .rintro σ H1 ⟨s1,x,rfl⟩;walk_at "st";refine q _ _ s1 ∅ ∅ λd d1 X=>?_;have:2*2<=d*d:=J8 d1 d1 ∅ ∅;omega
def IM:DF:=λds Φ=>ds=[]/\∀p:Int,gc p->p<10^40->∀f,Φ f (.int p)
def zl:eK IM:=by
 intro ds Φ Ψ hm z;revert hm;walk_at "mo";exact λq=>λp h1 h2 f=>z _ _ (q p h1 h2 f)
def af1:∀x∈([2,3,5,7,2,11,101,10007,65537,1000003,998244353,1000000007,2147483647,1000000000039,10^p0 39+3,10^p0 40-17,2305843009213693951,618970019642690137449562111,162259276829213363391578010288127,170141183460469231731687303715884105727]:List Int),x∈Cb/\x<10^40:=⋯
def wD:bS ["bag","some","way"] ["bag"] (aI Jy):=⟨rfl,rfl,rfl,by decide+kernel,rfl,by decide+kernel,by decide+kernel⟩
theorem Yk(F:bI K "_law_prime" "_law_prime" Jy f fd)(J:Callee P w K mg base "_law_draw" 1 ["bag","many"] k7)(a:Callee P w K mg base "_law_prime_from" 1 ["number"] JN):
  bA P w K mg base bF 2 f fd ["bag"] (fV 1 IM):=by
 refine F.ok wD (λvs H Q E h=>h.1) (λcdv A outer s H vs Q E hr h=>?_);obtain⟨b,l,ws,nb,ds,Φ,rfl,Z,C,t,I,G,hF⟩:=nj h;obtain⟨rfl,q⟩:=hF;refine⟨_,(@ay _ _ _ _ _ (@Bz _ 1 _ _ _ _ _ _ wD.nd rfl (bg rfl) rfl (bg rfl)) (@ay _ _ _ _ _ #[23,wD.nd,@aR _ _ _ _ _ _ _ _ En (pv 1) (@iX _ _ _ _ (@aa _ _ _ _ _ (@aR _ _ _ _ _ _ _ _ iA (@aR _ _ _ _ _ _ _ _ Eb ak ak) ak) (@aa _ _ _ _ _ (@aR _ _ _ _ _ _ _ _ m8 (@aR _ _ _ _ _ _ _ _ Eb ak ak) ak) (@aa _ _ _ _ _ ak (@aa _ _ _ _ _ ak ai rfl) rfl) rfl) rfl))] #[2,#[23,wD.nd,@aR _ _ _ _ _ _ _ _ En (pv 1) (@iX _ _ _ _ (@aa _ _ _ _ _ ak (@aa _ _ _ _ _ ak ai rfl) rfl))],#[17,wD.nd,#[21,J]],(@EC _ _ _ _ _ _ _ _ (@bN _ _ _ _ _ _ _ _ vA (pv 2) ak (bM _)) (@aJ _ _ _ _ _ _ (c6 K) bY (pv 1) (pv 2) (λ_ _=>rfl)) #[0,a,#[1,(@aR _ _ _ _ _ _ _ _ iA ak #[21,J])]])])),?_⟩;refine Sv.nQ Z C t I G (ρ:=[.aq, .no, .no]) rfl ?_;clear G I;rfl';intro way w1 w2;by_cases c:way<20
 .rfl';obtain⟨m,W,j,e⟩:=pick (L:=[2,3,5,7,2,11,101,10007,65537,1000003,998244353,1000000007,2147483647,1000000000039,10^p0 39+3,10^p0 40-17,2305843009213693951,618970019642690137449562111,162259276829213363391578010288127,170141183460469231731687303715884105727]) (k:=way) w1 (by show _<(20:Int);omega) _ af1;refine⟨_,W,?_⟩;exact q m (Bf m j) e _
 .rfl';intro r r1 r2;rfl';exact λr' h1 h2=>q r' h1 h2 _
def z4:DF:=λds Φ=>∃p a b:Int,ds=[.int p, .int a, .int b]/\gc p/\p<10^40/\b%p≠0/\ -(10^61)<=a/\a<=10^61/\((∃k,b*sol p b a-a=p*k)->Φ true (.int (sol p b a)))
def UU:eK z4:=by
 intro ds Φ Ψ hm z;revert hm;walk_at "mo";exact λq=>λh=>z _ _ (q h)
def mW:bS ["p","a","b","old","new","one","two","times"] ["p","a","b"] (aI KI):=⟨rfl,rfl,rfl,by decide+kernel,rfl,by decide+kernel,by decide+kernel⟩
theorem Yc(F:bI K "_law_over" "_law_over" KI f fd):
  bA P w K mg base bF 1 f fd ["p","a","b"] (cG 3 z4):=by
 refine F.ok mW (λvs H Q E h=>h.1) (λcdv A outer s H vs Q E hr h=>?_);obtain⟨nb,ds,Φ,C,I,G,hF⟩:=jP h;obtain⟨p,a,b,rfl,hp,Y,hb,a0,a1,q⟩:=hF;refine⟨_,#[2,#[13,@aa _ _ _ _ _ (@aR _ _ _ _ _ _ _ _ jU (pv 2) (pv 0)) (@aa _ _ _ _ _ (pv 0) (@aa _ _ _ _ _ ak (@aa _ _ _ _ _ ak ai rfl) rfl) rfl) rfl,@k9 _ (K) _ _ _ (4) _ rfl rfl (@dW _ _ _ _ _ (aY (i:=3) mW.nd rfl (bg rfl)) (@dW _ _ _ _ _ (aY (i:=4) mW.nd rfl (bg rfl)) #[7,aY (i:=5) mW.nd rfl (bg rfl),aY (i:=6) mW.nd rfl (bg rfl)] (by rfl)) (by rfl)) (by rfl) (by rfl)],@BC _ _ _ _ _ _ gy (@bN _ _ _ _ _ _ _ _ oG (pv 4) ak (bM _)) (@ay _ _ _ _ _ (@bh _ _ (7) _ _ _ _ mW.nd rfl (bg rfl) (@aR _ _ _ _ _ _ _ _ rC (pv 3) (pv 4)) (by rfl) (by first|exact .inl rfl|exact .inr rfl|assumption)) (@aE _ _ _ #[13,@aa _ _ _ _ _ (pv 4) (@aa _ _ _ _ _ (@aR _ _ _ _ _ _ _ _ m8 (pv 3) (@aR _ _ _ _ _ _ _ _ ku (pv 7) (pv 4))) (@aa _ _ _ _ _ (pv 6) #[1,@aR _ _ _ _ _ _ _ _ m8 (pv 5) (@aR _ _ _ _ _ _ _ _ ku (pv 7) (pv 6))] rfl) rfl) rfl,@k9 _ (K) _ _ _ (4) _ rfl rfl (@dW _ _ _ _ _ (aY (i:=3) mW.nd rfl (bg rfl)) (@dW _ _ _ _ _ (aY (i:=4) mW.nd rfl (bg rfl)) #[7,aY (i:=5) mW.nd rfl (bg rfl),aY (i:=6) mW.nd rfl (bg rfl)] (by rfl)) (by rfl)) (by rfl) (by rfl)])),@aR _ _ _ _ _ _ _ _ jU (@aR _ _ _ _ _ _ _ _ ku (pv 1) (pv 5)) (pv 0)],?_⟩;refine Sv.jy C I G (ρ:=[.d false _, .d false _, .d false _, .no, .no, .no, .no, .no]) rfl ?_;clear G I;have p2:=hp.1;have m1:=jM b (show p≠0 by omega);have m2:=jK b (show 0<p by omega);rfl';show pB _ _ _ _ [ba (b%p), .int p, .int 1, .int 0] _;rfl';refine Sv.JW (λρ=>∃(L lt r t:Int) (N:Sl),ρ=[.d false (.int p), .d false (.int a), .d false (.int b), .d true (.int L), .d true (.int r), .d true (.int lt), .d true (.int t),N]/\(-p<=lt/\lt<=p)/\((L=b%p/\r=p/\lt=1/\t=0)\/Eu p b L lt r t)) (λρ:Rh=>match ρ[4]? with|some (Sl.d _ (ba r))=>r.toNat|_=>0) ⟨_,_,_,_,_,rfl,∅, .inl ⟨rfl,rfl,rfl,rfl⟩⟩ ?_;rintro ρ ⟨L,lt,r,t,N,rfl,hlt,hI⟩;by_cases c:r=0
 .rcases hI with ⟨_,h,_,_⟩|hE
  .omega
  subst c;obtain⟨k,hk⟩:=hE.fin hp hb;obtain⟨l,y⟩:=hE.tb;have sa:Sm a:=by unfold Sm;omega
  have sl:Sm lt:=by unfold Sm;omega
  rfl';have e:=pM (a*lt) p;have ef:=pM lt p
  have ex:∃k,b*(a*lt%p)-a=p*k:=⟨a*k+a*(lt/p)*b-a*lt/p*b,by
   generalize a*lt/p=Q1 at*;generalize a*lt%p=R1 at*;generalize lt/p=Q2 at*;generalize lt%p=R2 at*;have h1:R1=a*lt-p*Q1:=∅
   have h2:lt=p*Q2+R2:=∅
   rw[h1];have h3:a*(R2*b)=a*(1+p*k):=by rw[hk]
   grind⟩
  have es:=QL (x:=a*lt%p) (a:=a) hp hb (jM _ ∅) (jK _ ∅) ex;rw[es];rw[es] at ex;exact q ex
 .rcases hI with ⟨rfl,rfl,rfl,rfl⟩|hE
  .have O:b%r/r=0:=Int.ediv_eq_zero_of_lt m1 m2;rfl';show pB _ _ _ _ [ba r, .int (b%r-b%r/r*r), .int 0, .int (1-b%r/r*0)] _;rw[O];rfl';refine⟨⟨_,_,_,_,_,rfl,∅, .inr ?_⟩,?_⟩
   .rw[um,xx,ui,xx];exact Eu.start p2
   .show(b%r-0*r).toNat<r.toNat;rw[um];omega
  .obtain⟨l,y⟩:=hE.tb;have e1:=hE.l0;have e2:=hE.r0;have e3:=hE.lp;have e4:=hE.rp;have hr:0<r:=∅
   have J:0<=L/r:=vF ∅ ∅;have M:L/r<=L:=FA _ ∅;obtain⟨g,j⟩:=hE.next hr
   rfl';show pB _ _ _ _ [ba r, .int (L-L/r*r), .int t, .int (lt-L/r*t)] _;rfl';exact⟨⟨_,_,_,_,_,rfl,⟨l,y⟩, .inr g⟩,by show(L-L/r*r).toNat<r.toNat;omega⟩
def zJ:DF:=λds Φ=>∃(p:Int) (prs:aB) (wd:Wo),ds=[.int p,cy prs,fL wd]/\0<p/\prs.length<=10000/\tK prs wd.length/\jj wd/\Φ true (.int (dG prs wd%p))
def M0:eK zJ:=by
 intro ds Φ Ψ hm z;revert hm;walk_at "mo";exact λq=>z _ _ q
def Cp:bS ["p","pairs","word"] ["p","pairs","word"] (aI BX):=⟨rfl,rfl,rfl,by decide+kernel,rfl,by decide+kernel,by decide+kernel⟩
def OH(F:bI K "_law_sum" "_law_sum" BX f fd)(KQ:mg "sum"=none):
    bA P w K mg base bF 1 f fd ["p","pairs","word"] (cG 3 zJ):=by
  refine F.ok Cp (λvs H Q E h=>h.1) (λcdv A outer s H vs Q E hr h=>?_);obtain⟨nb,ds,Φ,C,I,G,hF⟩:=jP h;obtain⟨p,prs,wd,rfl,hp,hl,h1,h2,q⟩:=hF;refine⟨_,(@aE _ _ _ (@bE _ _ _ _ (@aR _ _ _ _ _ _ _ _ jU (@cO _ _ _ _ _ _ _ _ (GW K) (Z3 rfl) rfl KQ uj #[1,jd (eZ.of (show fU (aI BX) ["p","pairs","word"] _ ["place","factor","word"] [none,none,some 2]=true by decide+kernel)) (gH (K:=K) rfl (pv 1)) (λ_ _ _ _=>⟨(@k9 _ (K) _ _ _ (2) _ rfl rfl #[7,aY (i:=0) (by show bx (["place","factor","word"]:List Str);decide+kernel) rfl (bg rfl),aY (i:=1) (by show bx (["place","factor","word"]:List Str);decide+kernel) rfl (bg rfl)] (by rfl) (by rfl)),(pC (@bN _ _ _ _ _ _ _ _ qX (@aJ _ _ _ _ _ _ (c6 K) bY (pv 2) (pv 0) (λ_ _=>rfl)) jf (bM _))),(@aR _ _ _ _ _ _ _ _ ku (pv 1) (@aJ _ _ _ _ _ _ (c6 K) bY (pv 2) (pv 0) (λ_ _=>rfl)))⟩)] ⋯ ⋯ (by rfl) (by rfl)) (pv 0)))),?_⟩;refine Sv.jy C I G (ρ:=[.d false _, .d false _, .d false _]) rfl ?_;clear G I;rfl';refine aD.ev (aD.mC ⋯ rfl ?_);rfl';refine⟨by rw[aj];exact hl,λv=>⟨false,λi ds=>∃ns:List Int,ds=ns.map .int/\ns.sum=dG (prs.take i) wd,⟨[],rfl,by simp[dG]⟩,?_,?_⟩⟩
  · rintro i d ds hd hl' ⟨ns,rfl,hs⟩
    obtain⟨pr,B,rfl⟩:=fY hd;obtain⟨g1,g2,X⟩:=h1 pr (cS B);obtain⟨o,U,T⟩:=zx (xs:=wd) aT g1 g2 rfl;have hi:i<prs.length:=(bH.mp B).1;have Ko:=QS (wd:=wd) hi;have a:prs[i]=pr:=(bH.mp B).2;rw[a] at Ko;rfl';refine⟨by walk_at "wk",?_⟩;rfl';rw[Ej];cases o with
    | none =>
      rfl';refine⟨ns,rfl,?_⟩;rw[Ko,hs];unfold mT;rw[U];simp
    | some x =>
      have hx:Sm x:=h2 x (cS U);have b:cI (wd.map aT) pr.1=some (.int x):=T;rfl';refine⟨ns++[pr.2*x],by simp,?_⟩;rw[Ko,JD,hs];unfold mT;rw[U];simp
  · rintro ds hl' ⟨ns,rfl,hs⟩
    rw[aj,jO] at hs;refine⟨ns,rfl,?_⟩;rw[hs];rfl';exact q
def FJ:DF:=λds Φ=>∃p:Int,ds=[.int p]/\2<=p/\p<10^40/\∀x:Int,0<=x->x<p->Φ true (.int x)
def OI:eK FJ:=by
 intro ds Φ Ψ hm z;revert hm;walk_at "mo";exact λq=>λx a b=>z _ _ (q x a b)
def RU:bS ["bag","p"] ["bag","p"] (aI HV):=⟨rfl,rfl,rfl,by decide+kernel,rfl,by decide+kernel,by decide+kernel⟩
theorem PQ(F:bI K "_law_letter" "_law_letter" HV f fd)(J:Callee P w K mg base "_law_draw" 1 ["bag","many"] k7):
  bA P w K mg base bF 2 f fd ["bag","p"] (fV 2 FJ):=by
 refine F.ok RU (λvs H Q E h=>h.1) (λcdv A outer s H vs Q E hr h=>?_);obtain⟨b,l,ws,nb,ds,Φ,rfl,Z,C,t,I,G,hF⟩:=nj h;obtain⟨p,rfl,p2,j9,q⟩:=hF;refine⟨_,(@aE _ _ _ (@bE _ _ _ _ (@aR _ _ _ _ _ _ _ _ jU (@aR _ _ _ _ _ _ _ _ ku #[0,J,@aa _ _ _ _ _ (pv 0) (@aa _ _ _ _ _ (pv 1) ai rfl) rfl] (@aR _ _ _ _ _ _ _ _ iA (@aR _ _ _ _ _ _ _ _ rC (pv 1) ak) ak)) (pv 1)))),?_⟩;refine Sv.nQ Z C t I G (ρ:=[.aq, .d false _]) rfl ?_;clear G I;rfl';intro r r1 r2;have h1:0<=r*(p/3+1):=p6 r1 ∅;have h2:r*(p/3+1)<=10^40*10^40:=J8 ∅ ∅ ∅ ∅;rfl';exact q _ (jM _ ∅) (jK _ ∅)
def Bs:DF:=λds Φ=>∃p:Int,ds=[.int p]/\gc p/\p<10^40/\∀x:Int,0<x->x<p->Φ true (.int x)
def P7:eK Bs:=by
 intro ds Φ Ψ hm z;revert hm;walk_at "mo";exact λq=>λx a b=>z _ _ (q x a b)
theorem Zv{a b:Int}(hp:gc p)(h:p∣a*b):p∣a\/p∣b:=by
 by_cases ha:p∣a;·exact .inl ha
 .right
  have hg:h9 p a=1:=by
   have d1:(h9 p a:Int)∣p:=nC ..;have X:(h9 p a:Int)∣a:=me ..;have h0:0<(h9 p a:Int):=by
    have:h9 p a≠0:=λz=>by have:=(Q0.mp z).1;have:=hp.1;omega
    omega
   rcases hp.2 _ h0 d1 with e|e
   .exact_mod_cast e
   .rw[e] at X;exact absurd X ha
  have h':p.natAbs∣a.natAbs*b.natAbs:=by rw[<-Iv];exact Ci.mpr h
  have c:h8 p.natAbs a.natAbs:=hg;exact Ci.mp (c.dvd_of_dvd_mul_left h')
def ab6:bS ["bag","p"] ["bag","p"] (aI FY):=⟨rfl,rfl,rfl,by decide+kernel,rfl,by decide+kernel,by decide+kernel⟩
theorem T2(F:bI K "_law_factor" "_law_factor" FY f fd)(J:Callee P w K mg base "_law_draw" 1 ["bag","many"] k7):
  bA P w K mg base bF 2 f fd ["bag","p"] (fV 2 Bs):=by
 refine F.ok ab6 (λvs H Q E h=>h.1) (λcdv A outer s H vs Q E hr h=>?_);obtain⟨b,l,ws,nb,ds,Φ,rfl,Z,C,t,I,G,hF⟩:=nj h;obtain⟨p,rfl,hp,j9,q⟩:=hF;refine⟨_,(@aE _ _ _ (@bE _ _ _ _ (@aR _ _ _ _ _ _ _ _ jU (@aR _ _ _ _ _ _ _ _ ku (@aR _ _ _ _ _ _ _ _ iA ak #[0,J,#[11,@aR _ _ _ _ _ _ _ _ m8 (pv 1) ak]]) (@aR _ _ _ _ _ _ _ _ iA (@aR _ _ _ _ _ _ _ _ rC (pv 1) ak) ak)) (pv 1)))),?_⟩;refine Sv.nQ Z C t I G (ρ:=[.aq, .d false _]) rfl ?_;clear G I;have p2:=hp.1;rfl';intro r r1 r2;rfl';refine q _ ?_ (jK _ ∅);have h0:=jM ((1+r)*(p/3+1)) (show p≠0 by omega);have U:(1+r)*(p/3+1)%p≠0:=λe=>by
  rcases Zv hp (Int.dvd_of_emod_eq_zero e) with h|h
  .have:=IC ∅ h;omega
  .have:=IC ∅ h;omega
 omega
def J2:DF:=λds Φ=>∃p n:Int,ds=[.int p, .int n]/\2<=p/\p<10^40/\0<=n/\n<=10000/\∀os:List Int,(os.length:Int)=n->(∀x∈os,0<=x/\x<p)->Φ true (.list (os.map .int))
def ZK:eK J2:=by
 intro ds Φ Ψ hm z;revert hm;walk_at "mo";exact λq=>λos a b=>z _ _ (q os a b)
def Mz:bS ["bag","p","n","way"] ["bag","p","n"] (aI sU):=⟨rfl,rfl,rfl,by decide+kernel,rfl,by decide+kernel,by decide+kernel⟩
theorem Yj(F:bI K "_law_letters" "_law_letters" sU f fd)(J:Callee P w K mg base "_law_draw" 1 ["bag","many"] k7)(a:Callee P w K mg base "_law_letter" 2 ["bag","p"] (fV 2 FJ))(cB:mg "range"=none)(mG:mg "int"=none)(II:mg "min"=none):
  bA P w K mg base bF 3 f fd ["bag","p","n"] (fV 3 J2):=by
 refine F.ok Mz (λvs H Q E h=>h.1) (λcdv A outer s H vs Q E hr h=>?_);obtain⟨b,l,ws,nb,ds,Φ,rfl,Z,C,t,I,G,hF⟩:=nj h;obtain⟨p,n,rfl,p2,j9,n0,n1,q⟩:=hF;refine⟨_,(@ay _ _ _ _ _ #[12,Mz.nd,#[21,J]] #[2,@dZ _ _ _ _ _ _ _ _ (@bN _ _ _ _ _ _ _ _ je (pv 3) ak (bM _)) (@aE _ _ _ (@bE _ _ _ _ (jd (eZ.of (show fU (aI sU) ["bag","p","n","way"] _ ["k","bag","p"] [none,some 0,some 1]=true by decide+kernel)) (@j6 _ _ _ _ _ _ rfl cB (@aa _ _ _ _ _ (pv 2) ai rfl) (by rfl)) (λ_ _ _ _=>⟨#[3,(by show bx (["k","bag","p"]:List Str);decide+kernel)],jN,(@aR _ _ _ _ _ _ _ _ ku #[24,a] (@kT _ _ _ _ _ _ _ _ _ XY rfl mG IT #[1,(@ur _ _ _ _ _ _ _ _ je #[0,J,@aa _ _ _ _ _ (pv 1) (@aa _ _ _ _ _ ak ai rfl) rfl] ak (bM _))] ⋯ ⋯ (by rfl) (by rfl)))⟩)))) eV,@dZ _ _ _ _ _ _ _ _ (@bN _ _ _ _ _ _ _ _ je (pv 3) ak (bM _)) (@aE _ _ _ (@bE _ _ _ _ (jd (eZ.of (show fU (aI sU) ["bag","p","n","way"] _ ["k","bag","p"] [none,some 0,some 1]=true by decide+kernel)) (@j6 _ _ _ _ _ _ rfl cB (@aa _ _ _ _ _ (pv 2) ai rfl) (by rfl)) (λ_ _ _ _=>⟨#[3,(by show bx (["k","bag","p"]:List Str);decide+kernel)],jN,#[0,J,@aa _ _ _ _ _ (pv 1) (@aa _ _ _ _ _ (@cO _ _ _ _ _ _ _ _ _ (zi rfl) rfl II uk (@aa _ _ _ _ _ (pv 2) (@aa _ _ _ _ _ ak ai rfl) rfl) ⋯ ⋯ (by rfl) (by rfl)) ai rfl) rfl]⟩)))) eV,jd (eZ.of (show fU (aI sU) ["bag","p","n","way"] _ ["k","bag","p"] [none,some 0,some 1]=true by decide+kernel)) (@j6 _ _ _ _ _ _ rfl cB (@aa _ _ _ _ _ (pv 2) ai rfl) (by rfl)) (λ_ _ _ _=>⟨#[3,(by show bx (["k","bag","p"]:List Str);decide+kernel)],jN,#[24,a]⟩)]),?_⟩;refine Sv.nQ Z C t I G (ρ:=[.aq, .d false _, .d false _, .no]) rfl ?_;clear G I;rfl';intro way w1 w2;by_cases c:way=2
 .rfl';refine aD.ev (aD.nZ ⋯ rfl ?_);rfl';refine jH.ints (λx=>0<=x/\x<p) ?_ λos D S=>q os ∅ S;rintro i d ⟨hi,rfl⟩;rfl';refine⟨by walk_at "wk",?_⟩;rfl';refine Ev.kW OI rfl ?_;rfl';refine⟨rfl,p,rfl,p2,j9,λr g O=>?_⟩;rfl';intro s s1 s2;by_cases c2:s=3
  .rfl';rw[decide_eq_true c2];exact⟨by simp;omega,by simp;omega⟩
  .rfl';rw[decide_eq_false c2];exact⟨by simp,by simp;omega⟩
 by_cases u:way=1
 .rfl';refine aD.ev (aD.nZ ⋯ rfl ?_);rfl';refine jH.ints (λx=>0<=x/\x<p) ?_ λos D S=>q os ∅ S;rintro i d ⟨hi,rfl⟩;rfl';refine⟨by walk_at "wk",?_⟩;rfl';intro r g O;refine⟨r,rfl,g,?_⟩;split at O<;>omega
 .rfl';refine aD.ev (aD.nZ ⋯ rfl ?_);rfl';refine jH.ints (λx=>0<=x/\x<p) ?_ λos D S=>q os ∅ S;rintro i d ⟨hi,rfl⟩;rfl';refine⟨by walk_at "wk",?_⟩;rfl';refine Ev.kW OI rfl ?_;rfl';exact⟨rfl,p,rfl,p2,j9,λr g O=>⟨r,rfl,g,O⟩⟩
def zZ:DF:=λds Φ=>∃n wide:Int,ds=[.int n, .int wide]/\1<=n/\n<=420/\1<=wide/\wide<=60/\∀rs:List Int,rs≠[]->rs.length<=420->rs.Pairwise (· < ·)->(∀x∈rs,0<=x/\x<n)->Φ true (.list (rs.map .int))
def Qj:eK zZ:=by
 intro ds Φ Ψ hm z;revert hm;walk_at "mo";exact λq=>λrs a b c d=>z _ _ (q rs a b c d)
def Vw:bS ["bag","n","wide"] ["bag","n","wide"] (aI zR):=⟨rfl,rfl,rfl,by decide+kernel,rfl,by decide+kernel,by decide+kernel⟩
theorem x9(F:bI K "_law_places" "_law_places" zR f fd)(J:Callee P w K mg base "_law_draw" 1 ["bag","many"] k7)(kr:mg "sorted"=none)(cW:mg "list"=none)(JL:mg "set"=none)(cB:mg "range"=none):
  bA P w K mg base bF 2 f fd ["bag","n","wide"] (fV 3 zZ):=by
 refine F.ok Vw (λvs H Q E h=>h.1) (λcdv A outer s H vs Q E hr h=>?_);obtain⟨b,l,ws,nb,ds,Φ,rfl,Z,C,t,I,G,hF⟩:=nj h;obtain⟨n,wide,rfl,n0,n1,w0,R,q⟩:=hF;refine⟨_,(@ay _ _ _ _ _ (@dZ _ _ _ _ _ _ _ _ (PW.pt (o6 (@bN _ _ _ _ _ _ _ _ C2 (pv 1) ak (bM _)) (oN (@bN _ _ _ _ _ _ _ _ je #[21,J] ak (bM _))))) (@aE _ _ _ (@bE _ _ _ _ (@kT _ _ _ _ _ _ _ _ _ (Zx rfl) rfl cW kJ #[1,@kT _ _ _ _ _ _ _ _ _ Wy rfl cB iV (@aa _ _ _ _ _ (pv 1) ai rfl) ⋯ ⋯ (by rfl) (by rfl)] ⋯ ⋯ (by rfl) (by rfl)))) eV) (@aE _ _ _ (@bE _ _ _ _ (@cO _ _ _ _ _ _ _ _ (Ao P w) (Xe rfl) rfl kr wZ #[1,(@kT _ _ _ _ _ _ _ _ (Ad P w K) (x8 rfl) rfl JL uw #[1,jd (eZ.of (show fU (aI zR) ["bag","n","wide"] _ ["k","bag","n"] [none,some 0,some 1]=true by decide+kernel)) (@j6 _ _ _ _ _ _ rfl cB (@aa _ _ _ _ _ (@aR _ _ _ _ _ _ _ _ iA ak #[0,J,@aa _ _ _ _ _ (pv 0) (@aa _ _ _ _ _ (pv 2) ai rfl) rfl]) ai rfl) (by rfl)) (λ_ _ _ _=>⟨#[3,(by show bx (["k","bag","n"]:List Str);decide+kernel)],jN,#[24,J]⟩)] ⋯ ⋯ (by rfl) (by rfl))] ⋯ ⋯ (by rfl) (by rfl))))),?_⟩;refine Sv.nQ Z C t I G (ρ:=[.aq, .d false _, .d false _]) rfl ?_;clear G I
 have a:Ev {B:=some (b,l),H0:=H,A:=nb} [Sl.aq,Sl.d false (ba n),Sl.d false (ba wide)]
          (gk (Ao P w)
           (aU
            (gk (Ad P w K)
             (aU
              (mR
               (sy
                (aU
                 (er (jk λi j => V.int (i + j)) (tC (V.int 1))
                  (jh k7 [] E0 (aU (br 0) (aU (br 2) bK))))
                 bK))
               (gh 0) pD (jh k7 [] E0 (aU (br 1) (aU (br 2) bK)))
               [none,some 0,some 1])
              bK))
            bK)) Φ:=by
  refine aD.ev (aD.aah (aD.ev (aD.nZ ⋯ rfl ?_)));rfl';intro m0 m1 m2;rfl';refine jH.ints (λx=>0<=x/\x<n) ?_ λos D S=>⟨os,rfl,∅,λrs o L=>?_⟩
  .rintro i d ⟨hi,rfl⟩;rfl';refine⟨by walk_at "wk",?_⟩;rfl';exact λr g O=>⟨r,rfl,g,O⟩
  have hrl:0<rs.length:=by
   have:0<os.length:=∅
   obtain⟨y,hy⟩:=List.exists_mem_of_length_pos this;exact List.length_pos_of_mem ((L y).mpr hy)
  have e:rs.length<=os.length:=AK (o.imp λh=>∅) λk hk=>(L k).mp hk;exact q rs (λz=>by rw[z] at hrl;simp at hrl) ∅ o λx hx=>S x ((L x).mp hx)
 rfl';by_cases c:n<=20
 .rw[if_pos (decide_eq_true c)];rfl';intro r g O;by_cases c2:r=15
  .rfl';refine aD.ev (aD.Mo ?_);rfl';refine q _ ?_ ?_ ?_ ?_
   .intro z;have:=congrArg eQ z;simp at this;omega
   .simp;omega
   .rw[ow];exact La.imp λh=>∅
   .intro x hx;obtain⟨i,hi,rfl⟩:=cM.mp hx;have:=qW.mp hi;omega
  .rfl';exact a
 .rw[if_neg (by simpa using c)];rfl';exact a
def Ez:DF:=λds Φ=>∃p n many wide:Int,ds=[.int p, .int n, .int many, .int wide]/\gc p/\p<10^40/\1<=n/\n<=420/\0<=many/\many<=400/\1<=wide/\wide<=60/\∀(cs:List aB) (f:Bool),(cs.length:Int)=many->(∀prs∈cs,lY p n prs)->Φ f (c5 p n cs)
def y7:eK Ez:=by
 intro ds Φ Ψ hm z;revert hm;walk_at "mo";exact λq=>λcs f a b=>z _ _ (q cs f a b)
theorem FC(cs:List aB):cn (.list (cs.map cy))=true:=by
 have h:=Xk cs;unfold cn;simp only[cq,dC];rw[h.2];simp;have:=h.1;omega
def wU:bS ["bag","p","n","many","wide","checks","c","pairs"] ["bag","p","n","many","wide"] (aI zP):=⟨rfl,rfl,rfl,by decide+kernel,rfl,by decide+kernel,by decide+kernel⟩
theorem ae5(F:bI K "_law_net" "_law_net" zP f fd)(HS:Callee P w K mg base "_law_factor" 2 ["bag","p"] (fV 2 Bs))(Ew:Callee P w K mg base "_law_places" 2 ["bag","n","wide"] (fV 3 zZ))(J:Callee P w K mg base "_law_draw" 1 ["bag","many"] k7)(cB:mg "range"=none)(cW:mg "list"=none)(bP:mg "len"=none):
  bA P w K mg base bF 3 f fd ["bag","p","n","many","wide"] (fV 5 Ez):=by
 refine F.ok wU (λvs H Q E h=>h.1) (λcdv A outer s H vs Q E hr h=>?_);obtain⟨b,l,ws,nb,ds,Φ,rfl,Z,C,t,I,G,hF⟩:=nj h;obtain⟨p,n,many,wide,rfl,hp,j9,n0,n1,m0,m1,V,R,q⟩:=hF;refine⟨_,#[2,#[15,wU.nd,@iX _ _ _ _ ai],#[10,@j6 _ _ _ _ _ _ rfl cB (@aa _ _ _ _ _ (pv 3) ai rfl) (by rfl),aY (i:=6) wU.nd rfl (bg rfl),@ay _ _ _ _ _ (sG (i:=7) wU.nd rfl rfl (eZ.of (show fU (aI zP) ["bag","p","n","many","wide","checks","c","pairs"] _ ["place","bag","p"] [none,some 0,some 1]=true by decide+kernel)) (gH (K:=K) rfl #[0,Ew,@aa _ _ _ _ _ (pv 0) (@aa _ _ _ _ _ (pv 2) (@aa _ _ _ _ _ (pv 4) ai rfl) rfl) rfl]) (λ_ _ _ _=>⟨#[3,(by show bx (["place","bag","p"]:List Str);decide+kernel)],jN,(@fy _ _ _ _ _ #[11,#[24,HS]])⟩)) (@ay _ _ _ _ _ (@dZ _ _ _ _ _ _ _ _ (PW.pt (o6 (@bN _ _ _ _ _ _ _ _ (BD hr.units) (pv 5) (@iX _ _ _ _ ai) (bM _)) (oN (@bN _ _ _ _ _ _ _ _ je #[21,J] ak (bM _))))) (@aE _ _ _ (@bh _ _ (7) _ _ _ _ wU.nd rfl (bg rfl) #[14,cW,#[1,(@aJ _ _ _ _ _ _ (c6 K) bY (pv 5) #[0,J,#[11,#[9,bP,@aa _ _ _ _ _ (pv 5) ai rfl]]] (λ_ _=>rfl))]] (by rfl) (by first|exact .inl rfl|exact .inr rfl|assumption))) eV) (@aE _ _ _ (@kI _ _ _ _ (o8 uv wM xo tW (pv 5) (@aa _ _ _ _ _ (pv 7) ai rfl)) (by rfl))))],@fy _ _ _ _ _ (@aa _ _ _ _ _ (pv 1) (@aa _ _ _ _ _ (pv 2) (@aa _ _ _ _ _ (pv 5) ai rfl) rfl) rfl)],?_⟩;refine Sv.nQ Z C t I G (ρ:=[.aq, .d false _, .d false _, .d false _, .d false _, .no, .no, .no]) rfl ?_;clear G I;have p2:=hp.1;rfl';intro a;rfl';refine Sv.tM ?_;rfl';refine⟨λi ρ=>∃(f:Bool) (N S:Sl) (cs:List aB),ρ=[.aq, .d false (.int p), .d false (.int n), .d false (.int many), .d false (.int wide), .own a f (cs.map cy),N,S]/\cs.length=i/\∀prs∈cs,lY p n prs,⟨_,_,_,[],rfl,rfl,(λ_ h=>nomatch h)⟩,?_,?_⟩
 .rintro i d ρ ⟨hi,rfl⟩ ⟨f,N,S,cs,rfl,hcl,hcs⟩;rfl';refine aD.ev (aD.mC ⋯ rfl ?_);refine Ev.kW Qj rfl ?_;rfl';refine⟨rfl,n,wide,rfl,n0,n1,V,R,λrs r0 g O m=>?_⟩;rfl';refine⟨by rw[aj];omega,λv=>jH.rel xl true (λi pr=>rs[i]?=some pr.1/\0<pr.2/\pr.2<p) ?_ λprs hpl W=>?_⟩
  .rintro j d hd;obtain⟨x,hx,rfl⟩:=fY hd;rfl';refine⟨by walk_at "wk",?_⟩;rfl';refine Ev.kW P7 rfl ?_;rfl';refine⟨rfl,p,rfl,hp,j9,λy y1 r=>?_⟩;rfl';exact⟨λ_=>rfl,(x,y),rfl,hx,y1,r⟩
  rw[aj] at hpl;have D:prs.map (·.1)=rs:=by
   apply iu;intro j;rw[bu];cases e:prs[j]? with
   |none=>rw[eO (by have:=P9.mp e;omega)];rfl
   |some pr=>exact(W j pr e).1.symm
  have hok:lY p n prs:=by
   refine⟨⟨λz=>by rw[z] at hpl;exact r0 (qb.mp hpl.symm),ow.mp (by rw[D];exact O),λpr B=>?_⟩,∅⟩;obtain⟨k,hk⟩:=iW B;obtain⟨e1,e2,e3⟩:=W k pr hk;obtain⟨g1,g2⟩:=m _ (cS e1);exact⟨g1,g2,e2,e3⟩
  show Sv _ _ (oM _ _) _;refine Sv.seq ?_;refine Sv.Pg (λL=>∃c:aB,lY p n c/\L=[.aq, .d false (.int p), .d false (.int n), .d false (.int many), .d false (.int wide), .own a f (cs.map cy), .d true (.int (0+(i:Int))), .d false (cy c)]) ?_ ?_
  .refine Sv.mJ ?_;refine Tv.and ?_;refine Tv.lend 5 rfl ?_;rfl';refine⟨FC cs,rfl,?_⟩;have Ql:∃c:aB,lY p n c/\[Sl.aq, .d false (.int p), .d false (.int n), .d false (.int many), .d false (.int wide), .own a f (cs.map cy), .d true (.int (0+(i:Int))), .d false (.list (prs.map xl))]=[Sl.aq, .d false (.int p), .d false (.int n), .d false (.int many), .d false (.int wide), .own a f (cs.map cy), .d true (.int (0+(i:Int))), .d false (cy c)]:=⟨prs,hok,rfl⟩;by_cases c0:cs=[]
   .refine⟨false,by subst c0;rfl,?_⟩;rw[if_neg eB];rfl';exact Ql
   .obtain⟨u,us,o⟩:=List.exists_cons_of_ne_nil c0;refine⟨true,by subst o;rfl,?_⟩;rw[if_pos rfl];rfl';intro y y1 r;by_cases c7:y=7
    .rfl';have mw:(cs.map cy).length=cs.length:=aj ..;have X:0<cs.length:=by rw[o];simp
     have aiM:cs.length<400:=∅
     rw[mw];refine⟨∅,by unfold Sm;omega,λz z1 z2=>?_⟩;obtain⟨U,M,T⟩:=zx (xs:=cs) cy z1 z2 rfl;refine⟨_,rfl,_,T,_, .inl rfl,?_⟩;refine Gv.JU ?_;exact⟨U,hcs U (cS M),rfl⟩
    .rfl';exact Ql
  .rintro L ⟨c,FG,rfl⟩;rfl';refine⟨by rw[aj];omega,_,_,_,cs++[c],by rw[cX];rfl,by simp[hcl],λu Y=>?_⟩;rcases fN.mp Y with h|h
   .exact hcs u h
   .rw[aF.mp h];exact FG
 .rintro ρ ⟨f,N,S,cs,rfl,hcl,hcs⟩;refine Sv.xm 5 rfl ?_;rfl';exact q cs _ ∅ hcs
noncomputable def C8:Option aB->PyData
 |none=> .none
 |some prs=>cy prs
def Kg:DF:=λds Φ=>∃(p wide:Int) (wd:List Int),ds=[.int p, .list (wd.map .int), .int wide]/\gc p/\p<10^40/\1<=wd.length/\wd.length<=400/\(∀x∈wd,0<=x/\x<p)/\1<=wide/\wide<=60/\∀(o:Option aB) (f:Bool),(∀prs,o=some prs->lY p wd.length prs)->Φ f (C8 o)
def DQ:eK Kg:=by
 intro ds Φ Ψ hm z;revert hm;walk_at "mo";exact λq=>λo f h=>z _ _ (q o f h)
def CJ:bS ["bag","p","word","wide","pairs","rest","last"] ["bag","p","word","wide"] (aI AQ):=⟨rfl,rfl,rfl,by decide+kernel,rfl,by decide+kernel,by decide+kernel⟩
theorem YH(F:bI K "_law_planted_check" "_law_planted_check" AQ f fd)(Jp:Callee P w K mg base "_law_sum" 1 ["p","pairs","word"] (cG 3 zJ))(HS:Callee P w K mg base "_law_factor" 2 ["bag","p"] (fV 2 Bs))(Ew:Callee P w K mg base "_law_places" 2 ["bag","n","wide"] (fV 3 zZ))(JM:Callee P w K mg base "_law_over" 1 ["p","a","b"] (cG 3 z4))(bP:mg "len"=none):
  bA P w K mg base bF 3 f fd ["bag","p","word","wide"] (fV 4 Kg):=by
 refine F.ok CJ (λvs H Q E h=>h.1) (λcdv A outer s H vs Q E hr h=>?_);obtain⟨b,l,ws,nb,ds,Φ,rfl,Z,C,t,I,G,hF⟩:=nj h;obtain⟨p,wide,wd,rfl,hp,Y,w1,L,pP,d1,X,q⟩:=hF;refine⟨_,(@ay _ _ _ _ _ (sG (i:=4) CJ.nd rfl rfl (eZ.of (show fU (aI AQ) ["bag","p","word","wide","pairs","rest","last"] _ ["place","bag","p"] [none,some 0,some 1]=true by decide+kernel)) (gH (K:=K) rfl #[0,Ew,@aa _ _ _ _ _ (pv 0) (@aa _ _ _ _ _ #[26,bP] (@aa _ _ _ _ _ (pv 3) ai rfl) rfl) rfl]) (λ_ _ _ _=>⟨#[3,(by show bx (["place","bag","p"]:List Str);decide+kernel)],jN,(@fy _ _ _ _ _ #[11,#[24,HS]])⟩)) (@ay _ _ _ _ _ #[15,CJ.nd,#[0,Jp,@aa _ _ _ _ _ (pv 1) (@aa _ _ _ _ _ (@uE _ _ _ _ _ _ _ _ _ (pV K) wH (pv 4) uX (@uY _ _ _ (@wg _ _ _ _ _ _ xM ak))) (@aa _ _ _ _ _ (pv 2) ai rfl) rfl) rfl]] (@ay _ _ _ _ _ #[20,CJ.nd,#[8,@aJ _ _ _ _ _ _ (c6 K) bY (pv 4) (@wg _ _ _ _ _ _ xM ak) (λ_ _=>rfl)]] #[2,@dZ _ _ _ _ _ _ _ _ (PW.pt (o6 (@bN _ _ _ _ _ _ _ _ oG (pv 5) ak (bM _)) (oN (@bN _ _ _ _ _ _ _ _ oG (@aJ _ _ _ _ _ _ (c6 K) bY (pv 2) (pv 6) (λ_ _=>rfl)) ak (bM _))))) (@aE _ _ _ (@bE _ _ _ _ (@aR _ _ _ _ _ _ _ _ En (@uE _ _ _ _ _ _ _ _ _ (pV K) wH (pv 4) uX (@uY _ _ _ (@wg _ _ _ _ _ _ xM ak))) (@iX _ _ _ _ #[1,@fy _ _ _ _ _ (@aa _ _ _ _ _ (pv 6) #[1,#[0,JM,(@aa _ _ _ _ _ (pv 1) #[5,@aR _ _ _ _ _ _ _ _ m8 ak (pv 5),@aJ _ _ _ _ _ _ (c6 K) bY (pv 2) (pv 6) (λ_ _=>rfl)] rfl)]] rfl)])))) eV,@dZ _ _ _ _ _ _ _ _ (PW.pt (o6 (@bN _ _ _ _ _ _ _ _ je (pv 5) ak (bM _)) (oN (@bN _ _ _ _ _ _ _ _ je (@aJ _ _ _ _ _ _ (c6 K) bY (pv 2) (pv 6) (λ_ _=>rfl)) ak (bM _))))) (@aE _ _ _ (@bE _ _ _ _ (pv 4))) eV,@EC _ _ _ _ _ _ _ _ (PW.pt (o6 (@bN _ _ _ _ _ _ _ _ je (pv 5) ak (bM _)) (oN (@bN _ _ _ _ _ _ _ _ K5 #[9,bP,@aa _ _ _ _ _ (pv 4) ai rfl] ak (bM _))))) (@uE _ _ _ _ _ _ _ _ _ (pV K) wH (pv 4) uX (@uY _ _ _ (@wg _ _ _ _ _ _ xM ak))) jf]))),?_⟩;refine Sv.nQ Z C t I G (ρ:=[.aq, .d false _, .d false _, .d false _, .no, .no, .no]) rfl ?_;clear G I;have p2:=hp.1;have V:(wd.map ba).length=wd.length:=aj ..;have N:∀x:Int,0<=x->x<=p->Sm x:=λx x0 M=>by unfold Sm;omega
 rfl';refine aD.ev (aD.mC ⋯ rfl ?_);refine Ev.kW Qj rfl ?_;rfl';rw[V];refine⟨rfl,(wd.length:Int),wide,rfl,∅,∅,d1,X,λrs r0 g o S=>?_⟩;have hrl:0<rs.length:=GA.mpr r0;rfl';refine⟨by rw[aj];omega,λv=>jH.rel xl true (λi pr=>rs[i]?=some pr.1/\1<=pr.2/\pr.2<p) ?_ λprs hpl W=>?_⟩
 .rintro i d hd;obtain⟨x,hx,rfl⟩:=fY hd;rfl';refine⟨by walk_at "wk",?_⟩;rfl';refine Ev.kW P7 rfl ?_;rfl';refine⟨rfl,p,rfl,hp,Y,λy y1 r=>?_⟩;rfl';exact⟨λ_=>rfl,(x,y),rfl,hx,y1,r⟩
 rw[aj] at hpl;have D:prs.map (·.1)=rs:=by
  apply iu;intro j;rw[bu];cases e:prs[j]? with
  |none=>rw[eO (by have:=P9.mp e;omega)];rfl
  |some pr=>exact(W j pr e).1.symm
 have J:zD p wd.length prs:=⟨by rw[D];exact o.imp (λh=>∅),∅,λpr B=>by
  obtain⟨k,hk⟩:=iW B;have h2:=W k pr hk;have h1:=S pr.1 (cS h2.1);omega⟩
 have Dl:∀{ps:aB},ps≠[]->(ps.map (·.1)).Pairwise (· < ·)->zD p wd.length ps->ps.length<=420->lY p wd.length ps:=λ{ps} a b c d=>⟨⟨a,ow.mp b,λpr m=>by have:=c.2.2 pr m;omega⟩,d⟩;have Mf:(prs.map (·.1)).Pairwise (· < ·):=by rw[D];exact o
 have Xz:(prs.map xl).length=prs.length:=aj ..;have zb:nv (prs.map xl) none (some (-1))=prs.dropLast.map xl:=by
  unfold nv HT.gU;simp only[rf,Nat.sub_zero];rw[List.dropLast_eq_take,Kw,Xz]
  congr 1
  first|omega|(split<;>omega)
 have T:prs.dropLast.length=prs.length-1:=List.length_dropLast ..;have Gd:zD p wd.length prs.dropLast:=⟨((ME prs).map _).nodup J.1,∅,λpr B=>J.2.2 pr (List.dropLast_subset _ B)⟩;have Ik:rs.length-1<rs.length:=∅
 have RL:prs.length-1<prs.length:=∅
 have ZW:cI (prs.map xl) (-1)=some (xl prs[prs.length-1]):=by
  unfold cI ji;rw[if_neg ⋯,if_pos (by rw[aj];omega)];show(prs.map xl)[_]?=_;rw[bu,aj,show(-1+(prs.length:Int)).toNat=prs.length-1 by omega,aL RL];rfl
 obtain⟨last,jI⟩:∃x,rs[rs.length-1]=x:=⟨_,rfl⟩;obtain⟨lf,Yq⟩:∃y,prs[prs.length-1]=(last,y):=by
  refine⟨prs[prs.length-1].2,?_⟩;have hz:=(W (prs.length-1) _ (aL RL)).1;rw[show rs[prs.length-1]?=some last by rw[<-jI,show prs.length-1=rs.length-1 by omega];exact aL Ik] at hz;rw[gz hz]
 rw[Yq] at ZW;have n:0<=last/\last<wd.length:=by
  have:=S last (jI▸jB Ik);omega
 have hlt:last.toNat<wd.length:=∅
 have aiC:cI (wd.map ba) last=some (.int wd[last.toNat]):=jT n.1 (by rw[bu,aL hlt];rfl);have hwl:=pP _ (jB hlt);have Wb:∀x:Int,mT (wd.map some) (last,x)=x*wd[last.toNat]:=λx=>Wz (pr:=(last,x)) (aL hlt);generalize wd[last.toNat]=wl at*;have O:wd.map ba=(wd.map some).map aT:=by rw[l7];rfl
 have YS:tK prs.dropLast (wd.map some).length:=λpr B=>by
  have:=Gd.2.2 pr B;rw[aj];exact⟨this.1,this.2.1,N _ ∅ ∅⟩
 have uy:jj (wd.map some):=λx hx=>by
  obtain⟨y,hy,e⟩:=cM.mp hx;cases e;have:=pP x hy;exact N x ∅ ∅
 rfl';refine Ev.gK M0 ?_;rfl';refine⟨rfl,p,prs.dropLast,wd.map some,by show[_,fI _,fI _]=_;rw[zb,O],∅,∅,YS,uy,?_⟩;have R0:=jM (dG prs.dropLast (wd.map some)) (show p≠0 by omega);have R1:=jK (dG prs.dropLast (wd.map some)) (show 0<p by omega);have u:∃x:Int,prs=prs.dropLast++[(last,x)]:=by
  have U:prs≠[]:=yV ∅;have e:=Sh U;refine⟨(prs.getLast U).2,?_⟩;have e2:(prs.getLast U).1=last:=by
   rw[<-jI,Ny];have hz:=W (prs.length-1) _ (aL ∅);have e3:rs[prs.length-1]?=some rs[rs.length-1]:=by rw[show prs.length-1=rs.length-1 by omega];exact aL Ik
   rw[e3] at hz;exact(gz hz.1).symm
  rw[<-e2];exact e.symm
 have aeE:∀x:Int,dG (prs.dropLast++[(last,x)]) (wd.map some)%p=(dG prs.dropLast (wd.map some)%p+x*wl)%p:=λx=>by
  rw[Nk,Vf,Wb,mu]
  congr 1
  show _+(_+0)=_;omega
 obtain⟨R,eR⟩:∃R,dG prs.dropLast (wd.map some)%p=R:=⟨_,rfl⟩;simp only[eR] at aeE R0 R1⊢;rfl';by_cases cR:R=0
 .rfl';by_cases cw:wl=0
  .rfl';obtain⟨x,hx⟩:=u
   exact q (some prs) _ (λ_ e=>by
    cases e;exact Dl (yV ∅) Mf J ∅)
  .rfl';by_cases cl:1<((prs.map xl).length:Int)
   .rfl';rw[zb];exact q (some prs.dropLast) _ (λ_ e=>by cases e;exact Dl (yV ∅) (by rw[mx];exact Mf.sublist (ME _)) Gd ∅)
   .rfl';exact q none _ (λ_ e=>by cases e)
 .rfl';by_cases cw:wl=0
  .rfl';exact q none _ (λ_ e=>by cases e)
  .have hwp:wl%p≠0:=by rw[uW ∅ ∅];exact cw
   rfl';refine Ev.gK UU ?_;rfl';refine⟨rfl,p,0-R,wl,rfl,hp,Y,hwp,∅,∅,λ⟨k,hk⟩=>?_⟩;have hs:=SK (p:=p) (b:=wl) (a:=0-R) ∅;generalize sol p wl (0-R)=sl at*;have hs1:sl≠0:=λz=>by
    subst z;rw[ui] at hk;have hkR:R=p*k:=∅
    rcases mf k 0 with z|z|z
    .have:p*k<=p*(-1):=w5 ∅ ∅;omega
    .subst z;omega
    .have:p*1<=p*k:=w5 ∅ ∅;omega
   rfl';refine⟨by rw[zb,aj];show _+1<=10000;omega,?_⟩;show Φ _ (.list (nv (prs.map xl) none (some (-1))++[xl (last,sl)]));rw[zb,show(prs.dropLast.map xl++[xl (last,sl)])=(prs.dropLast++[(last,sl)]).map xl by rw[cX];rfl];refine q (some (prs.dropLast++[(last,sl)])) _ (λ_ e=>?_);cases e;have hdr:(prs.dropLast++[(last,sl)]).map (·.1)=rs:=by
    rw[cX,mx,D,List.map_singleton,<-jI];have:=Sh (yV hrl);rw[Ny] at this;exact this
   refine Dl (by simp) (by rw[hdr];exact o) ⟨by rw[hdr];exact o.imp (λh=>∅),by rw[cP,kc];omega,λpr B=>?_⟩ (by rw[cP,kc];omega);rcases fN.mp B with h|h
   .exact Gd.2.2 pr h
   .rw[aF.mp h];exact⟨n.1,n.2,by show 1<=sl;omega,hs.2⟩
def KC:DF:=λds Φ=>∃(p many wide:Int) (wd:List Int),ds=[.int p, .list (wd.map .int), .int many, .int wide]/\gc p/\p<10^40/\1<=wd.length/\wd.length<=400/\(∀x∈wd,0<=x/\x<p)/\0<=many/\many<=400/\1<=wide/\wide<=60/\∀(cs:List aB) (f:Bool),(cs.length:Int)<=many->(∀prs∈cs,lY p wd.length prs)->Φ f (c5 p wd.length cs)
def Z9:eK KC:=by
 intro ds Φ Ψ hm z;revert hm;walk_at "mo";exact λq=>λcs f a b=>z _ _ (q cs f a b)
def Zi(o:Option aB):ue (C8 o)=o.isNone:=by cases o<;>rfl
def PV:bS ["bag","p","word","many","wide","checks"] ["bag","p","word","many","wide"] (aI uL):=⟨rfl,rfl,rfl,by decide+kernel,rfl,by decide+kernel,by decide+kernel⟩
theorem ZO(F:bI K "_law_planted" "_law_planted" uL f fd)(a:Callee P w K mg base "_law_planted_check" 3 ["bag","p","word","wide"] (fV 4 Kg))(bP:mg "len"=none)(cB:mg "range"=none):
    bA P w K mg base bF 4 f fd ["bag","p","word","many","wide"] (fV 5 KC):=by
  refine F.ok PV (λvs H Q E h=>h.1) (λcdv A outer s H vs Q E hr h=>?_);obtain⟨b,l,ws,nb,ds,Φ,rfl,Z,C,t,I,G,hF⟩:=nj h;obtain⟨p,many,wide,wd,rfl,hp,Y,R,L,pP,m1,m2,d1,X,q⟩:=hF;refine⟨_,(@ay _ _ _ _ _ (sG (i:=5) PV.nd rfl rfl (eZ.of (show fU (aI uL) ["bag","p","word","many","wide","checks"] _ ["c","bag","p","word","wide"] [none,some 0,some 1,some 2,some 4]=true by decide+kernel)) (@j6 _ _ _ _ _ _ rfl cB (@aa _ _ _ _ _ (pv 3) ai rfl) (by rfl)) (λ_ _ _ _=>⟨#[3,(by show bx (["c","bag","p","word","wide"]:List Str);decide+kernel)],jN,#[0,a,@aa _ _ _ _ _ (pv 1) (@aa _ _ _ _ _ (pv 2) (@aa _ _ _ _ _ (pv 3) (@aa _ _ _ _ _ (pv 4) ai rfl) rfl) rfl) rfl]⟩)) (@aE _ _ _ (@bE _ _ _ _ (@fy _ _ _ _ _ (@aa _ _ _ _ _ (pv 1) #[5,#[26,bP],jd (eZ.of (show fU (aI uL) ["bag","p","word","many","wide","checks"] _ ["pairs"] [none]=true by decide+kernel)) (gH (K:=K) rfl (pv 5)) (λ_ _ _ _=>⟨#[3,(by show bx (["pairs"]:List Str);decide+kernel)],(pC (@bN _ _ _ _ _ _ _ _ qX (pv 0) jf (bM _))),(pv 0)⟩)] rfl))))),?_⟩;refine Sv.nQ Z C t I G (ρ:=[.aq, .d false _, .d false _, .d false _, .d false _, .no]) rfl ?_;clear G I;have V:(wd.map ba).length=wd.length:=aj ..;rfl';refine aD.ev (aD.nZ ⋯ rfl ?_);rfl';refine jH.rel C8 false (λ_ o=>∀prs,o=some prs->lY p wd.length prs) ?_ λos D S=>?_
  · rintro i d ⟨hi,rfl⟩
    rfl';refine⟨by walk_at "wk",?_⟩;refine Ev.kW DQ rfl ?_;rfl';exact⟨rfl,p,wide,wd,rfl,hp,Y,R,L,pP,d1,X,λo f h=>⟨(λz=>by cases z),o,rfl,h⟩⟩
  rfl';refine aD.ev (aD.mC ⋯ rfl ?_);rfl';refine⟨by rw[aj];omega,λv=>⟨false,λi ds=>∃es:List aB,ds=es.map cy/\es.length<=i/\∀prs∈es,lY p wd.length prs,⟨[],rfl,aW _,(λ_ h=>nomatch h)⟩,?_,?_⟩⟩
  · rintro j d ds hd hl' ⟨es,rfl,hel,hes⟩
    obtain⟨o,U,rfl⟩:=fY hd;rfl';refine⟨by walk_at "wk",?_⟩;rfl';rw[Zi];cases o with
    | none =>
      rfl';exact⟨es,rfl,∅,hes⟩
    | some prs =>
      rw[show C8 (some prs)=cy prs from rfl];rfl';refine⟨es++[prs],by rw[cX];rfl,by simp;omega,λq hq=>?_⟩;rcases fN.mp hq with h|h
      · exact hes q h
      · rw[aF.mp h];exact S j _ U prs rfl
  rintro ds hl' ⟨es,rfl,hel,hes⟩;rfl';rw[aj] at hel;show Φ _ (.tuple [.int p, .int ((wd.map ba).length:Int), .list (es.map cy)]);rw[V];exact q es _ ∅ hes
def FZ:DF:=λds Φ=>∃(p many wide:Int) (wd:List Int),ds=[.int p, .list (wd.map .int), .int many, .int wide]/\gc p/\p<10^40/\1<=wd.length/\wd.length<=400/\(∀x∈wd,0<=x/\x<p)/\0<=many/\many<=400/\1<=wide/\wide<=60/\∀(cs:List aB) (f:Bool),(cs.length:Int)<=many->j3 p cs wd.length->(∀prs∈cs,lY p wd.length prs)->Φ f (c5 p wd.length cs)
def B3:eK FZ:=by
 intro ds Φ Ψ hm z;revert hm;walk_at "mo";exact λq=>λcs f a b c=>z _ _ (q cs f a b c)
def Y2:bS ["bag","p","word","many","wide"] ["bag","p","word","many","wide"] (aI Ib):=⟨rfl,rfl,rfl,by decide+kernel,rfl,by decide+kernel,by decide+kernel⟩
theorem agu(F:bI K "_law_any" "_law_any" Ib f fd)(g:Callee P w K mg base "_law_net" 3 ["bag","p","n","many","wide"] (fV 5 Ez))(J:Callee P w K mg base "_law_draw" 1 ["bag","many"] k7)(i:Callee P w K mg base "_law_planted" 4 ["bag","p","word","many","wide"] (fV 5 KC))(bP:mg "len"=none):
  bA P w K mg base bF 5 f fd ["bag","p","word","many","wide"] (fV 5 FZ):=by
 refine F.ok Y2 (λvs H Q E h=>h.1) (λcdv A outer s H vs Q E hr h=>?_);obtain⟨b,l,ws,nb,ds,Φ,rfl,Z,C,t,I,G,hF⟩:=nj h;obtain⟨p,many,wide,wd,rfl,hp,Y,R,L,pP,m1,m2,d1,X,q⟩:=hF;refine⟨_,(@ay _ _ _ _ _ (@dZ _ _ _ _ _ _ _ _ (@bN _ _ _ _ _ _ _ _ je #[21,J] ak (bM _)) (@aE _ _ _ (@bE _ _ _ _ #[0,i,@aa _ _ _ _ _ (pv 0) (@aa _ _ _ _ _ (pv 1) (@aa _ _ _ _ _ (pv 2) (@aa _ _ _ _ _ (pv 3) (@aa _ _ _ _ _ (pv 4) ai rfl) rfl) rfl) rfl) rfl])) eV) (@aE _ _ _ (@bE _ _ _ _ #[0,g,@aa _ _ _ _ _ (pv 0) (@aa _ _ _ _ _ (pv 1) (@aa _ _ _ _ _ #[26,bP] (@aa _ _ _ _ _ (pv 3) (@aa _ _ _ _ _ (pv 4) ai rfl) rfl) rfl) rfl) rfl]))),?_⟩;refine Sv.nQ Z C t I G (ρ:=[.aq, .d false _, .d false _, .d false _, .d false _]) rfl ?_;clear G I;have V:(wd.map ba).length=wd.length:=aj ..;rfl';intro y y0 y1;rfl';by_cases c:y=0
 .rw[if_pos (by simpa using c)];rfl';refine Ev.kW Z9 rfl ?_;rfl';refine⟨rfl,p,many,wide,wd,rfl,hp,Y,R,L,pP,m1,m2,d1,X,λcs f hcl e=>q cs _ hcl ⟨hp,Y,∅,λprs W=>?_⟩ e⟩;obtain⟨⟨_,_,h3⟩,h2⟩:=e prs W;refine⟨∅,λpr B=>?_,λpr B=>?_⟩
  .obtain⟨a,b,c,d⟩:=h3 pr B;exact⟨a,b,by unfold Sm;omega⟩
  .obtain⟨a,b,c,d⟩:=h3 pr B;rw[uW ∅ d];omega
 rw[if_neg (by simpa using c)];rfl';refine Ev.kW y7 rfl ?_;rfl';rw[V];refine⟨rfl,p,wd.length,many,wide,rfl,hp,Y,∅,∅,m1,m2,d1,X,λcs f hcl e=>q cs _ ∅ ⟨hp,Y,∅,λprs W=>?_⟩ e⟩;obtain⟨⟨_,_,h3⟩,h2⟩:=e prs W;refine⟨∅,λpr B=>?_,λpr B=>?_⟩
 .obtain⟨a,b,c,d⟩:=h3 pr B;exact⟨a,b,by unfold Sm;omega⟩
 .obtain⟨a,b,c,d⟩:=h3 pr B;rw[uW ∅ d];omega
def Ft:DF:=λds Φ=>∃wd:List Int,ds=[.list (wd.map .int)]/\wd.length<=10000/\∀ld:Wo,adg wd ld->Φ true (fL ld)
def Pm:eK Ft:=by
 intro ds Φ Ψ hm z;revert hm;walk_at "mo";exact λq=>λld a=>z _ _ (q ld a)
def PB:bS ["bag","word","often"] ["bag","word"] (aI Bc):=⟨rfl,rfl,rfl,by decide+kernel,rfl,by decide+kernel,by decide+kernel⟩
theorem Fm(F:bI K "_law_lossy" "_law_lossy" Bc f fd)(J:Callee P w K mg base "_law_draw" 1 ["bag","many"] k7):
    bA P w K mg base bF 2 f fd ["bag","word"] (fV 2 Ft):=by
  refine F.ok PB (λvs H Q E h=>h.1) (λcdv A outer s H vs Q E hr h=>?_);obtain⟨b,l,ws,nb,ds,Φ,rfl,Z,C,t,I,G,hF⟩:=nj h;obtain⟨wd,rfl,hl,q⟩:=hF;refine⟨_,(@ay _ _ _ _ _ (@bh _ _ (2) _ _ _ _ PB.nd rfl (e0 rfl) (@aJ _ _ _ _ _ _ (c6 K) bY (@iX _ _ _ _ (@M7 _ _ _ rfl)) #[21,J] (λ_ _=>rfl)) (by rfl) (by first|exact .inl rfl|exact .inr rfl|assumption)) (@aE _ _ _ (@bE _ _ _ _ (jd (eZ.of (show fU (aI Bc) ["bag","word","often"] _ ["letter","bag","often"] [none,some 0,some 2]=true by decide+kernel)) (gH (K:=K) rfl (pv 1)) (λ_ _ _ _=>⟨#[3,(by show bx (["letter","bag","often"]:List Str);decide+kernel)],jN,(@EC _ _ _ _ _ _ _ _ (@bN _ _ _ _ _ _ _ _ je #[24,J] ak (bM _)) jf (pv 0))⟩))))),?_⟩;refine Sv.nQ Z C t I G (ρ:=[.aq, .d false _, .no]) rfl ?_;clear G I;have n:(wd.map ba).length=wd.length:=aj ..;rfl';intro r r1 r2;obtain⟨m,W,m1,m2⟩:=pick (L:=[8,4,3,2,2,3,8,1]) r1 (by show r<8;omega) (λx=>1<=x/\x<=8) ⋯;refine⟨_,rfl,_,W,?_⟩;refine Gv.nN ?_;rfl';refine aD.ev (aD.mC ⋯ rfl ?_);rfl';refine λv=>⟨true,λi ds=>∃ld:Wo,ds=ld.map aT/\ld.length=i/\∀(j:Nat) x,ld[j]?=some (some x)->wd[j]?=some x,⟨[],rfl,rfl,λ_ _ h=>by simp at h⟩,?_,?_⟩
  · rintro i d ds hd hl' ⟨ld,rfl,dw,hin⟩
    obtain⟨x,hx,rfl⟩:=fY hd;rfl';refine⟨by walk_at "wk",?_⟩;rfl';intro z z1 z2;by_cases c:z=0
    · rfl'
      refine⟨ld++[none],by rw[cX];rfl,by simp[dw],λj y hy=>hin j y ?_⟩;by_cases O:j<ld.length;· rwa[fO O] at hy
      · rw[fJ ∅] at hy
        cases e:j-ld.length with
        |zero=>rw[e] at hy;simp at hy
        |succ k=>rw[e] at hy;simp at hy
    · rfl'
      refine⟨ld++[some x],by rw[cX];rfl,by simp[dw],λj y hy=>?_⟩;by_cases O:j<ld.length;· rw[fO O] at hy;exact hin j y hy
      · rw[fJ ∅] at hy
        cases e:j-ld.length with
        | zero =>
          rw[e] at hy;simp at hy;rw[show j=i by omega,<-hy];exact hx
        |succ k=>rw[e] at hy;simp at hy
  rintro ds hl' ⟨ld,rfl,dw,hin⟩;rw[n] at dw;exact q ld ⟨dw,hin⟩
def GQ:DF:=λds Φ=>∃(p n:Int) (cs:List aB),ds=[c5 p n cs]/\cs.length<=10000/\∀f,Φ f (c5 p n cs)
def VM:eK GQ:=by
 intro ds Φ Ψ hm z;revert hm;walk_at "mo";exact λq=>λf=>z _ _ (q f)
def V5:bS ["net"] ["net"] (aI yP):=⟨rfl,rfl,rfl,by decide+kernel,rfl,by decide+kernel,by decide+kernel⟩
def Wl(F:bI K "_law_copy" "_law_copy" yP f fd)(cW:mg "list"=none):
  bA P w K mg base bF 1 f fd ["net"] (cG 1 GQ):=by
 refine F.ok V5 (λvs H Q E h=>h.1) (λcdv A outer s H vs Q E hr h=>?_);obtain⟨nb,ds,Φ,C,I,G,hF⟩:=jP h;obtain⟨p,n,cs,rfl,hl,q⟩:=hF;refine⟨_,(@aE _ _ _ (@bE _ _ _ _ (@fy _ _ _ _ _ (@aa _ _ _ _ _ (@aJ _ _ _ _ _ _ (dR K) eg (pv 0) ak (λ_ _=>rfl)) (@aa _ _ _ _ _ (@aJ _ _ _ _ _ _ (dR K) eg (pv 0) ak (λ_ _=>rfl)) #[1,jd (eZ.of (show fU (aI yP) ["net"] _ ["pairs"] [none]=true by decide+kernel)) (gH (K:=K) rfl (@aJ _ _ _ _ _ _ (dR K) eg (pv 0) ak (λ_ _=>rfl))) (λ_ _ _ _=>⟨#[3,(by show bx (["pairs"]:List Str);decide+kernel)],jN,#[14,cW,@aa _ _ _ _ _ (pv 0) ai rfl]⟩)] rfl) rfl)))),?_⟩;refine Sv.jy C I G (ρ:=[.d false _]) rfl ?_;clear G I;rfl';refine aD.ev (aD.mC ⋯ rfl ?_);rfl';refine⟨by rw[aj];exact hl,λv=>⟨false,λi ds=>ds=(cs.take i).map cy,rfl,?_,?_⟩⟩
 .rintro i d ds hd hl' rfl;obtain⟨prs,W,rfl⟩:=fY hd;rfl';refine⟨by walk_at "wk",?_⟩;rfl';refine⟨λz=>(by cases z),?_⟩;show _=dj _ _;rw[xj W,cX]
  rfl
 .rintro ds hl' rfl;rw[aj,jO];rfl';exact q _
def tO:Nat->PyData->Prop
 |0,_=>False
 |n+1,d=>gE d=true\/∃ds,(d= .list ds\/d= .tuple ds)/\ds.length<=10000/\∀e∈ds,tO n e
def aiQ(r:List Int)(h:r.length<=10000):tO (n+2) (Lu r):= .inr ⟨_, .inl rfl,by rw[aj];exact h,λe he=>by
 obtain⟨o,_,rfl⟩:=cM.mp he;exact .inl rfl⟩
def aiD{k:Nat}(d:PyData)(l:List Str)(hd:gE d=true)(h:l.length<=10000):tO (k+3) (QR d l):= .inr ⟨_, .inr rfl,(by decide:2<=10000),λe he=>by
 rcases aM.mp he with rfl|he
 .exact .inl hd
 rcases aM.mp he with rfl|he
 .exact .inr ⟨_, .inl rfl,by rw[aj];exact h,λe he=>by obtain⟨y,_,rfl⟩:=cM.mp he;exact .inl rfl⟩
 .cases he⟩
def tB(n:Nat):DF:=λds Φ=>∃d,ds=[d,d]/\tO n d/\Φ true (.bool true)
def wJ(n:Nat):eK (tB n):=by
 intro ds Φ Ψ hm z;revert hm;walk_at "mo";exact λq=>z _ _ q
def R5:∀vs H Q E,¬cG 2 (tB 0) vs H Q E:=λvs H Q E ⟨_,_,_,_,_,d,_,h,_⟩=>h
def YT:bS ["found","due"] ["found","due"] (aI AR):=⟨rfl,rfl,rfl,by decide+kernel,rfl,by decide+kernel,by decide+kernel⟩
theorem wV(n:Nat)(F:bI K "_law_alike" "_law_alike" AR f fd)(xE:Callee P w K mg base "_law_alike" (n) ["found","due"] (cG 2 (tB n)))(j4:mg "isinstance"=none)(cW:mg "list"=none)(qg:mg "tuple"=none)(qT:mg "all"=none)(bP:mg "len"=none)(pK:mg "bool"=none)(mG:mg "int"=none)(qo:mg "str"=none)(cB:mg "range"=none):
  bA P w K mg base bF (n+1) f fd ["found","due"] (cG 2 (tB (n+1))):=by
 refine F.ok YT (λvs H Q E h=>h.1) (λcdv A outer s H vs Q E hr h=>?_);obtain⟨nb,ds,Φ,C,I,G,hF⟩:=jP h;obtain⟨d,rfl,hok,q⟩:=hF;refine⟨_,#[2,(@dZ _ _ _ _ _ _ _ _ (@qK _ (K) _ _ rfl (@cO _ _ _ _ _ _ _ _ (DO) T8 rfl j4 nE (@aa _ _ _ _ _ (pv 1) (@aa _ _ _ _ _ (@fy _ _ _ _ _ #[5,lM (v:= .ty "list") rfl cW kJ rfl,lM (v:= .ty "tuple") rfl qg RS rfl]) ai rfl) rfl) ⋯ ⋯ (by rfl) (by rfl)) (λ_=>rfl)) #[2,@dZ _ _ _ _ _ _ _ _ (PW.pt (uu (@rZ _ _ _ _ (@qK _ (K) _ _ rfl (@cO _ _ _ _ _ _ _ _ (DO) T8 rfl j4 nE #[11,(@fy _ _ _ _ _ #[5,lM (v:= .ty "list") rfl cW kJ rfl,lM (v:= .ty "tuple") rfl qg RS rfl])] ⋯ ⋯ (by rfl) (by rfl)) (λ_=>rfl))) (Ag (@bN _ _ _ _ _ _ _ _ oG #[19,j4,#[11,lM (v:= .ty "list") rfl cW kJ rfl]] #[19,j4,@aa _ _ _ _ _ (pv 1) (@aa _ _ _ _ _ (lM (v:= .ty "list") rfl cW kJ rfl) ai rfl) rfl] (bM _))))) (@aE _ _ _ (@bE _ _ _ _ pL)) eV,@dZ _ _ _ _ _ _ _ _ (@bN _ _ _ _ _ _ _ _ oG #[9,bP,@aa _ _ _ _ _ (pv 0) ai rfl] #[25,bP] (bM _)) (@aE _ _ _ (@bE _ _ _ _ pL)) eV,(@cO _ _ _ _ _ _ _ _ (ID K) (Vz rfl) rfl qT uz #[1,jd (eZ.of (show fU (aI AR) ["found","due"] _ ["k","found","due"] [none,some 0,some 1]=true by decide+kernel)) (@j6 _ _ _ _ _ _ rfl cB (@aa _ _ _ _ _ #[25,bP] ai rfl) (by rfl)) (λ_ _ _ _=>⟨#[3,(by show bx (["k","found","due"]:List Str);decide+kernel)],jN,(@bw _ _ _ _ _ _ _ _ _ _ xE (hr.mono (aW _)) #[5,@aJ _ _ _ _ _ _ (yI K) RH (pv 1) (pv 0) (λ_ _=>rfl),@aJ _ _ _ _ _ _ (yI K) RH (pv 2) (pv 0) (λ_ _=>rfl)] (by rfl) ⋯ (by rfl) (by rfl))⟩)] ⋯ ⋯ (by rfl) (by rfl))] eV),@dZ _ _ _ _ _ _ _ _ (PW.pt (uu (@bN _ _ _ _ _ _ _ _ oG #[19,j4,#[11,lM (v:= .ty "bool") rfl pK Vb rfl]] #[19,j4,@aa _ _ _ _ _ (pv 1) (@aa _ _ _ _ _ (lM (v:= .ty "bool") rfl pK Vb rfl) ai rfl) rfl] (bM _)) (Ag (@bN _ _ _ _ _ _ _ _ oG #[19,j4,#[11,lM (v:= .ty "int") rfl mG IT rfl]] #[19,j4,@aa _ _ _ _ _ (pv 1) (@aa _ _ _ _ _ (lM (v:= .ty "int") rfl mG IT rfl) ai rfl) rfl] (bM _))))) (@aE _ _ _ (@bE _ _ _ _ pL)) eV,@FQ _ _ _ _ _ _ _ (@ur _ _ _ _ _ _ _ _ je #[19,j4,#[11,lM (v:= .ty "str") rfl qo L3 rfl]] #[19,j4,@aa _ _ _ _ _ (pv 1) (@aa _ _ _ _ _ (lM (v:= .ty "str") rfl qo L3 rfl) ai rfl) rfl] (bM _)) (@Fy _ _ _ _ _ (@ur _ _ _ _ _ _ _ _ je (pv 0) (pv 1) (bM _)))],?_⟩;refine Sv.jy C I G (ρ:=[.d false _, .d false _]) rfl ?_;clear G I;rfl';rcases hok with hs|⟨ds,hd,hl,he⟩
 .have h1:(k8 d "list" ||k8 d "tuple")=false:=by cases d<;>first|rfl|cases hs
  rw[h1];rfl';rw[beq_self_eq_true];rfl';rw[beq_self_eq_true];rfl';rw[beq_self_eq_true];rfl';exact⟨true, .self hs,q⟩
 rcases hd with rfl|rfl
 .rw[(L4 ds).1,(L4 ds).2,uO];rfl';refine aD.ev (aD.nZ ⋯ rfl ?_);rfl';refine⟨true,λi es=>es=au i (.bool true),rfl,?_,?_⟩
  .rintro i d' es ⟨hi,rfl⟩ hl' rfl;have g:i<ds.length:=∅
   have T:cI ds (0+(i:Int))=some ds[i]:=jT ∅ (by rw[show(0+(i:Int)).toNat=i by omega];exact aL g);rfl';refine⟨by walk_at "wk",?_⟩;rfl';refine Ev.gK (wJ n) ?_;rfl';refine⟨rfl,ds[i],rfl,he _ (jB g),λ_=>rfl,?_⟩;show _=au (i+1) _;rw[OU]
  .rintro es hl' rfl;refine⟨au ds.length true,by simp,?_⟩;rw[show(au ds.length true).all id=true by simp];exact q
 .rw[(Pa ds).1,(Pa ds).2,rE];rfl';refine aD.ev (aD.nZ ⋯ rfl ?_);rfl';refine⟨true,λi es=>es=au i (.bool true),rfl,?_,?_⟩
  .rintro i d' es ⟨hi,rfl⟩ hl' rfl;have g:i<ds.length:=∅
   have T:cI ds (0+(i:Int))=some ds[i]:=jT ∅ (by rw[show(0+(i:Int)).toNat=i by omega];exact aL g);rfl';refine⟨by walk_at "wk",?_⟩;rfl';refine Ev.gK (wJ n) ?_;rfl';refine⟨rfl,ds[i],rfl,he _ (jB g),λ_=>rfl,?_⟩;show _=au (i+1) _;rw[OU]
  .rintro es hl' rfl;refine⟨au ds.length true,by simp,?_⟩;rw[show(au ds.length true).all id=true by simp];exact q
def Jd:DF:=λds Φ=>∃(prs:aB) (wd:Wo),ds=[cy prs,fL wd]/\prs.length<=10000/\tK prs wd.length/\Φ true (.list (((cA wd prs).map (·.1)).map .int))
def HI:eK Jd:=by
 intro ds Φ Ψ hm z;revert hm;walk_at "mo";exact λq=>z _ _ q
def XD:bS ["pairs","word"] ["pairs","word"] (aI z9):=⟨rfl,rfl,rfl,by decide+kernel,rfl,by decide+kernel,by decide+kernel⟩
def Zs(F:bI K "_law_gaps" "_law_gaps" z9 f fd):
    bA P w K mg base bF 1 f fd ["pairs","word"] (cG 2 Jd):=by
  refine F.ok XD (λvs H Q E h=>h.1) (λcdv A outer s H vs Q E hr h=>?_);obtain⟨nb,ds,Φ,C,I,G,hF⟩:=jP h;obtain⟨prs,wd,rfl,hl,hok,q⟩:=hF;refine⟨_,(@aE _ _ _ (@bE _ _ _ _ (jd (eZ.of (show fU (aI z9) ["pairs","word"] _ ["place","factor","word"] [none,none,some 1]=true by decide+kernel)) (gH (K:=K) rfl (pv 0)) (λ_ _ _ _=>⟨(@k9 _ (K) _ _ _ (2) _ rfl rfl #[7,aY (i:=0) (by show bx (["place","factor","word"]:List Str);decide+kernel) rfl (bg rfl),aY (i:=1) (by show bx (["place","factor","word"]:List Str);decide+kernel) rfl (bg rfl)] (by rfl) (by rfl)),(pC (@bN _ _ _ _ _ _ _ _ Fp (@aJ _ _ _ _ _ _ (c6 K) bY (pv 2) (pv 0) (λ_ _=>rfl)) jf (bM _))),(pv 0)⟩)))),?_⟩;refine Sv.jy C I G (ρ:=[.d false _, .d false _]) rfl ?_;clear G I;have n:(prs.map xl).length=prs.length:=aj ..;refine Sv.ret ?_;refine aD.ev (aD.mC ⋯ rfl ?_);rfl';refine λv=>⟨true,λi ds=>ds=((cA wd (prs.take i)).map (·.1)).map ba,rfl,?_,?_⟩
  · rintro i d ds hd hl' rfl
    obtain⟨pr,B,rfl⟩:=fY hd;have hr:=hok pr (cS B);obtain⟨o,U,T⟩:=zx (xs:=wd) aT (k:=pr.1) hr.1 hr.2.1 rfl;rfl';refine⟨by walk_at "wk",?_⟩;rfl';rw[Ej];cases o with
    | none =>
      rfl';show _=dj _ (dj _ (cA wd (prs.take (i+1))));unfold cA;rw[xj B,mS,qD (by rw[U];rfl)];simp
    | some x =>
      rfl';show _=dj _ (dj _ (cA wd (prs.take (i+1))));unfold cA;rw[xj B,mS,pW (by rw[U];simp)];simp
  · rintro ds hl' rfl
    rw[n,jO];rw[uO];exact q
def GH:DF:=λds Φ=>∃(p n:Int) (cs:List aB) (wd:Wo),ds=[c5 p n cs,fL wd]/\j3 p cs wd.length/\jj wd/\wd.length<64/\Φ true (gn (aP p cs wd))
def aaw:eK GH:=by
 intro ds Φ Ψ hm z;revert hm;walk_at "mo";exact λq=>z _ _ q
def p7:bS ["net","word","p","n","checks","found","c","gaps","factor"] ["net","word"] (aI vz):=⟨rfl,rfl,rfl,by decide+kernel,rfl,by decide+kernel,by decide+kernel⟩
theorem YZ(F:bI K "_law_round" "_law_round" vz f fd)(y:Callee P w K mg base "_law_gaps" 1 ["pairs","word"] (cG 2 Jd))(JM:Callee P w K mg base "_law_over" 1 ["p","a","b"] (cG 3 z4))(Jp:Callee P w K mg base "_law_sum" 1 ["p","pairs","word"] (cG 3 zJ))(cB:mg "range"=none)(bP:mg "len"=none)(kr:mg "sorted"=none):
    bA P w K mg base bF 2 f fd ["net","word"] (cG 2 GH):=by
  refine F.ok p7 (λvs H Q E h=>h.1) (λcdv A outer s H vs Q E hr h=>?_);obtain⟨nb,ds,Φ,C,I,G,hF⟩:=jP h;obtain⟨p,n,cs,wd,rfl,hN,hW,hl,q⟩:=hF;refine⟨_,(@ay _ _ _ _ _ (@gF _ _ _ _ _ _ (pv 0) (@k9 _ (K) _ _ _ (3) _ rfl rfl (@dW _ _ _ _ _ (aY (i:=2) p7.nd rfl (bg rfl)) #[7,aY (i:=3) p7.nd rfl (bg rfl),aY (i:=4) p7.nd rfl (bg rfl)] (by rfl)) (by rfl) (by rfl)) (by rfl) (by rfl) (by rfl)) #[2,@bh _ _ (5) _ _ _ _ p7.nd rfl (e0 rfl) nL (by rfl) (by first|exact .inl rfl|exact .inr rfl|assumption),#[10,@j6 _ _ _ _ _ _ rfl cB (@aa _ _ _ _ _ #[9,bP,@aa _ _ _ _ _ (pv 4) ai rfl] ai rfl) (by rfl),aY (i:=6) p7.nd rfl (bg rfl),@ay _ _ _ _ _ (@bh _ _ (7) _ _ _ _ p7.nd rfl (e0 rfl) #[0,y,@aa _ _ _ _ _ (@aJ _ _ _ _ _ _ (c6 K) bY (pv 4) (pv 6) (λ_ _=>rfl)) (@aa _ _ _ _ _ (pv 1) ai rfl) rfl] (by rfl) (by first|exact .inl rfl|exact .inr rfl|assumption)) (@aE _ _ _ (@dZ _ _ _ _ _ _ _ _ (PW.pt (o6 (@bN _ _ _ _ _ _ _ _ je #[9,bP,@aa _ _ _ _ _ (pv 7) ai rfl] ak (bM _)) (oN (@bN _ _ _ _ _ _ _ _ (Cf hr.units) (@aJ _ _ _ _ _ _ (c6 K) bY (pv 7) ak (λ_ _=>rfl)) (pv 5) (by with_unfolding_all rfl))))) (@ay _ _ _ _ _ (@bh _ _ (8) _ _ _ _ p7.nd rfl (bg rfl) (@aJ _ _ _ _ _ _ (c6 K) bY (jd (eZ.of (show fU (aI vz) ["net","word","p","n","checks","found","c","gaps","factor"] _ ["place","one","gaps"] [none,none,some 7]=true by decide+kernel)) (gH (K:=K) rfl (@aJ _ _ _ _ _ _ (c6 K) bY (pv 4) (pv 6) (λ_ _=>rfl))) (λ_ _ _ _=>⟨(@k9 _ (K) _ _ _ (2) _ rfl rfl #[7,#[3,(by show bx (["place","one","gaps"]:List Str);decide+kernel)],aY (i:=1) (by show bx (["place","one","gaps"]:List Str);decide+kernel) rfl (bg rfl)] (by rfl) (by rfl)),(pC (@bN _ _ _ _ _ _ _ _ je (pv 0) (@aJ _ _ _ _ _ _ (c6 K) bY (pv 2) ak (λ_ _=>rfl)) (bM _))),(pv 1)⟩)) ak (λ_ _=>rfl)) (by rfl) (by first|exact .inl rfl|exact .inr rfl|assumption)) (@aE _ _ _ #[13,@aa _ _ _ _ _ (@aJ _ _ _ _ _ _ (c6 K) bY (pv 7) ak (λ_ _=>rfl)) (@aa _ _ _ _ _ (pv 6) #[1,#[0,JM,(@aa _ _ _ _ _ (pv 2) #[5,(@aR _ _ _ _ _ _ _ _ m8 ak #[0,Jp,@aa _ _ _ _ _ (pv 2) (@aa _ _ _ _ _ (@aJ _ _ _ _ _ _ (c6 K) bY (pv 4) (pv 6) (λ_ _=>rfl)) (@aa _ _ _ _ _ (pv 1) ai rfl) rfl) rfl]),pv 8] rfl)]] rfl) rfl,iT (pv 5) (@aJ _ _ _ _ _ _ (c6 K) bY (pv 7) ak (λ_ _=>rfl)) set_dict])) eV))],jd (eZ.of (show fU (aI vz) ["net","word","p","n","checks","found","c","gaps","factor"] _ ["place","found"] [none,some 5]=true by decide+kernel)) (gH (K:=K) rfl (@cO _ _ _ _ _ _ _ _ (qt) (Cc rfl) rfl kr wZ (@aa _ _ _ _ _ (pv 5) ai rfl) ⋯ ⋯ (by rfl) (by rfl))) (λ_ _ _ _=>⟨#[3,(by show bx (["place","found"]:List Str);decide+kernel)],jN,(@aJ _ _ _ _ _ _ (jG) lO (pv 1) (pv 0) (λ_ _=>rfl))⟩)]),?_⟩;refine Sv.jy C I G (ρ:=[.d false _, .d false _, .no, .no, .no, .no, .no, .no, .no]) rfl ?_;clear G I;have p2:=hN.1.1;have j9:=hN.2.1;have hcl:=hN.2.2.1;have LN:((cs.map cy).length:Int)=cs.length:=by rw[aj]
  generalize gG:(oM (gu _ (gh 5)) _:TS)=tl;rfl';subst gG;refine Sv.seq ?_;refine Sv.wQ (kZ.new ?_);intro A5;refine Sv.seq ?_;refine Sv.tM ?_;refine Ev.CP ?_;refine Ev.var rfl ?_;refine⟨_, .inl rfl,_,rfl,∅,∅,?_⟩;rw[show((cs.map cy).length:Int).toNat=cs.length by omega];refine⟨λi ρ=>∃(N S B:Sl),ρ=[.d false (c5 p n cs), .d false (fL wd), .d true (.int p), .d true (.int n), .d false (.list (cs.map cy)), .bB A5 true ((cF p cs wd i).map kM),N,S,B],⟨_,_,_,rfl⟩,?_,?_⟩
  · rintro i d ρ' ⟨hi,rfl⟩ ⟨N,S,B,rfl⟩
    have hfl:=yq (p:=p) (cs:=cs) (wd:=wd) ∅ hN.rg (i:=i) ∅;obtain⟨prs,W⟩:∃prs,cs[i]?=some prs:=⟨_,aL hi⟩;obtain⟨hpl,J,t⟩:=hN.2.2.2 prs (cS W);have l:cs.getD i []=prs:=by rw[iM,W];rfl
    have T:cI (cs.map cy) (0+(i:Int))=some (cy prs):=jT ∅ (by rw[show(0+(i:Int)).toNat=i by omega,bu,W];rfl)
    have ef:cF p cs wd (i+1)=match cQ p (cs.getD i []) 0 wd with
      |some (a,x)=>if a∈(cF p cs wd i).map (·.1) then cF p cs wd i else cF p cs wd i++[(a,(i:Int),x)]
      |none=>cF p cs wd i:=by rw[cF]<;>rfl
    rw[l] at ef;refine Gv.nN ?_;rfl';refine Ev.gK HI ?_;rfl';refine⟨rfl,prs,wd,rfl,∅,J,?_⟩;refine Gv.name ?_;unfold cQ at ef;obtain⟨LP,g⟩:∃LP,cA wd prs=LP:=⟨_,rfl⟩;rw[g] at ef⊢;have done:cF p cs wd (i+1)=cF p cs wd i->∀(V R U:Sl),∃(N S B:Sl),[Sl.d false (c5 p n cs), .d false (fL wd), .d true (.int p), .d true (.int n), .d false (.list (cs.map cy)), .bB A5 true ((cF p cs wd i).map kM),V,R,U]=[.d false (c5 p n cs), .d false (fL wd), .d true (.int p), .d true (.int n), .d false (.list (cs.map cy)), .bB A5 true ((cF p cs wd (i+1)).map kM),N,S,B]:=λe V R U=>by rw[e];exact⟨_,_,_,rfl⟩
    match LP,g,ef with
    | [], g, ef =>
      rfl';exact done ef _ _ _
    | a :: b :: r, g, ef =>
      rfl';exact done ef _ _ _
    | [pr], g, ef =>
      dsimp only at ef;rfl';refine Ev.BG rfl ?_;rfl';rw[Al];by_cases c:pr.1∈(cF p cs wd i).map (·.1)
      · rw[if_pos c] at ef
        have:dh ((cF p cs wd i).map kM) pr.1=true:=by rw[ko,sN];exact c
        rw[this];rfl';exact done ef _ _ _
      · rw[if_neg c] at ef
        have L:dh ((cF p cs wd i).map kM) pr.1=false:=by rw[<-ua,ko,sN];exact c
        rw[L];generalize gG:(gu _ (lZ (br 5) _ _):TS)=tl;rfl';refine aD.ev (aD.mC ⋯ rfl ?_);rfl';have M:pr∈cA wd prs:=by rw[g];exact aF.mpr rfl
        have z:pr∈prs:=(iN.mp M).1;have D:(prs.filter λu=>decide (u.1=pr.1))=[pr]:=by
          have h5:(cA wd prs).filter (λu=>decide (u.1=pr.1))=[pr]:=by rw[g];simp
          rw[<-h5];unfold cA;rw[List.filter_filter];refine(mi λu _=>?_).symm;by_cases e:u.1=pr.1
          · have:=(iN.mp M).2
            rw[<-e] at this;simp[e];simpa[e] using this
          · simp[e]
        refine⟨by rw[aj];omega,λv=>⟨false,λj ds=>ds=((prs.take j).filter λu=>decide (u.1=pr.1)).map λu=>ba u.2,rfl,?_,?_⟩⟩
        · rintro j d ds hd hl' rfl
          obtain⟨u,Y,rfl⟩:=fY hd;rfl';refine⟨by walk_at "wk",?_⟩;rfl';have ts:=xj Y;by_cases e:u.1=pr.1
          · rw[if_pos (decide_eq_true e)]
            rfl';show _=((prs.take (j+1)).filter λu=>decide (u.1=pr.1)).map λu=>ba u.2;rw[ts,mS,qD (by simpa using e),cX]
            rfl
          · rw[if_neg (by simpa using e)]
            show _=((prs.take (j+1)).filter λu=>decide (u.1=pr.1)).map λu=>ba u.2;rw[ts,mS,pW (by simpa using e),cX];simp
        · rintro ds hl' rfl
          rw[show(prs.map xl).length=prs.length from aj ..,jO,D];rfl';subst gG;refine Sv.BL rfl ?_;rfl';refine Ev.gK UU ?_;rfl';refine Ev.gK M0 ?_;rfl';refine⟨rfl,p,prs,wd,rfl,∅,∅,J,hW,?_⟩;rfl';have s0:=jM (dG prs wd) (show p≠0 by omega);have s1:=jK (dG prs wd) (show 0<p by omega);refine⟨rfl,p,0-dG prs wd%p,pr.2,rfl,hN.1,j9,t pr z,∅,∅,λ_=>?_⟩;rfl';refine⟨by rw[aj];omega,?_⟩;show∃(N S B:Sl),(_:Rh)=[Sl.d false (c5 p n cs), .d false (fL wd), .d true (.int p), .d true (.int n), .d false (.list (cs.map cy)), .bB A5 true ((cF p cs wd (i+1)).map kM),N,S,B];rw[ef,cX];unfold eH;dsimp only;rw[L,show(0+(i:Int))=i by omega];exact⟨_,_,_,rfl⟩
  · rintro ρ' ⟨N,S,B,rfl⟩
    have hfl:=yq (p:=p) (cs:=cs) (wd:=wd) ∅ hN.rg (i:=cs.length) (aW _);refine Sv.ret (aD.ev (aD.mC ⋯ rfl ?_));refine aD.ev (aD.TL rfl (by rw[aj];omega) λrs o k=>?_);rw[sN] at k;obtain⟨ms,rfl,O⟩:=OJ k _ rfl;have hmr:=K0 O o;have hml:ms.length<=wd.length:=by rw[O.length_eq];exact hfl
    refine⟨_,rfl,by rw[aj,aj];omega,λv=>⟨true,λi ds=>ds=(ms.take i).map xX,rfl,?_,?_⟩⟩
    · rintro i d ds hd hl' rfl
      obtain⟨a,ha,rfl⟩:=fY hd;obtain⟨m,hm,rfl⟩:=fY ha;have hv:=IS (pH (p:=p) (cs:=cs) (wd:=wd) cs.length) (O.mem_iff.mp (cS hm));rfl';refine⟨by walk_at "wk",?_⟩;rfl';refine Ev.Nu rfl ?_;rfl';refine⟨_,hv,λ_=>rfl,?_⟩;show _=dj _ (pX (i+1) ms);rw[xj hm,cX]
      rfl
    · rintro ds hl' rfl
      rw[aj,aj,jO,hmr,uO];exact q
def sE(C:ar):CF:=λc ds Φ=>∃(x dx a b:ar) (p n many:Int) (es:aZ) (last:PyData),c=dY C x dx a b p n es many last/\ds=[]/\Φ (dY C x dx a b p n es (many+1) .none) true (.int many)
def Qt:i9 (sE C):=by
 intro c ds Φ Ψ hm z;revert hm;walk_at "mo";exact λq=>z _ _ _ q
def EY:bS ["self"] ["self"] (aI uh):=⟨rfl,rfl,rfl,by decide+kernel,rfl,by decide+kernel,by decide+kernel⟩
theorem Wx(F:bI K "new_number" "Desk.new_number" uh f fd){az:ar}(i:cD K az)(g:bf K az "last")(e:bf K az "many"):
  bA P w K mg base bF 1 f fd ["self"] (cz 1 (sE az)):=by
 refine F.ok EY (λvs H Q E h=>h.1) (λcdv A outer s H vs Q E hr h=>?_);obtain⟨_,nb,c,ws,ds,rfl,C,dH,T,ez,I,hF⟩:=h;obtain⟨Φ,G,hF⟩:∃Φ:Cu->Pd,(∀c' f d v H',Φ c' f d->kh c c' H H'->c'.P (λa=>nb a\/a∈c'.F) H'->af (λa=>nb a\/a∈c'.F\/(f=true/\H a≠none)) H' d v->Q v H')/\sE az c ds Φ:=⟨_,λc' f d v H' q=>q v H',hF⟩;obtain⟨x,dx,a,b,p,n,many,es,last,rfl,rfl,q⟩:=hF;refine⟨_,#[2,#[4,jf],#[4,@aR _ _ _ _ _ _ _ _ iA (@dS _ _ _ _ _ (pv 0) rfl) ak],@aR _ _ _ _ _ _ _ _ m8 (@dS _ _ _ _ _ (pv 0) rfl) ak],?_⟩;refine Sv.k6 C dH T ez I G (ρ:=[.cu _]) rfl ?_;clear G I;refine Sv.seq (Sv.kH rfl i g (.inr ⟨_,rfl⟩) (iQ rfl) ?_);rfl';refine Sv.kH rfl i e (.inr ⟨_,rfl⟩) (iQ rfl) ?_;refine Ev.jk (Ev.fld rfl i e rfl ⟨many,rfl,Ev.int ⟨1,rfl,?_⟩⟩);refine Sv.nA (bz.of ?_);refine Ev.jk (Ev.fld rfl i e rfl ⟨many+1,rfl,?_⟩);rfl';rw[show many+1-1=many by omega];intro aA v' H' hv;exact⟨_,_,_,rfl,⟨rfl,rfl,λa m=>m⟩,q,hv⟩
def wu(C:ar):CF:=λc ds Φ=>∃(x dx a b:ar) (p n many pl e:Int) (es:aZ) (last:PyData),c=dY C x dx a b p n es many last/\ds=[.int pl, .int e]/\bD p n many es/\0<=pl/\pl<n/\0<=e/\e<p/\Φ (dY C x dx a b p n (es++[(many, .lt pl e)]) (many+1) .none) true (.int many)
def Ww:i9 (wu C):=by
 intro c ds Φ Ψ hm z;revert hm;walk_at "mo";exact λq=>z _ _ _ q
def Pu:bS ["self","place","letter","number"] ["self","place","letter"] (aI tN):=⟨rfl,rfl,rfl,by decide+kernel,rfl,by decide+kernel,by decide+kernel⟩
def Hm(F:bI K "letter" "Desk.letter" tN f fd){az:ar}(i:cD K az)(j:bf K az "n")(k:bf K az "p")(l:bf K az "letter_deeds")(y:fQ P w K mg base az "new_number" 1 ["self"] (cz 1 (sE az)))(g:Callee P w K mg base "ask_place" 1 ["n","place"] (cG 2 CC))(u:Callee P w K mg base "ask_letter" 2 ["p","letter"] (cG 2 yX)):
  bA P w K mg base bF 3 f fd ["self","place","letter"] (cz 3 (wu az)):=by
 refine F.ok Pu (λvs H Q E h=>h.1) (λcdv A outer s H vs Q E hr h=>?_);obtain⟨_,nb,c,ws,ds,rfl,C,dH,T,ez,I,hF⟩:=h;obtain⟨Φ,G,hF⟩:∃Φ:Cu->Pd,(∀c' f d v H',Φ c' f d->kh c c' H H'->c'.P (λa=>nb a\/a∈c'.F) H'->af (λa=>nb a\/a∈c'.F\/(f=true/\H a≠none)) H' d v->Q v H')/\wu az c ds Φ:=⟨_,λc' f d v H' q=>q v H',hF⟩;obtain⟨x,dx,a,b,p,n,many,pl,e,es,last,rfl,rfl,hok,a0,a1,b0,b1,q⟩:=hF;refine⟨_,(@ay _ _ _ _ _ (@kI _ _ _ _ #[0,g,@aa _ _ _ _ _ (@dS _ _ _ _ _ (pv 0) rfl) (@aa _ _ _ _ _ (pv 1) ai rfl) rfl] (by rfl)) (@ay _ _ _ _ _ (@kI _ _ _ _ #[0,u,@aa _ _ _ _ _ (@dS _ _ _ _ _ (pv 0) rfl) (@aa _ _ _ _ _ (pv 2) ai rfl) rfl] (by rfl)) #[2,#[12,Pu.nd,@oj _ _ _ _ _ _ _ _ _ _ _ y (pv 0) (hr.mono ⋯) (by rfl)],#[13,@aa _ _ _ _ _ (pv 1) (@aa _ _ _ _ _ (pv 2) ai rfl) rfl,iT (@dS _ _ _ _ _ (pv 0) rfl) (pv 3) set_dict],pv 3])),?_⟩;refine Sv.k6 C dH T ez I G (ρ:=[.cu _, .d false _, .d false _, .no]) rfl ?_;clear G I;have hl:=hok.len;refine Sv.seq ?_;refine Sv.drop ?_;refine Ev.gK Sn ?_;refine Av.cons (Ev.fld rfl i j rfl ?_);rfl';refine⟨rfl,n,pl,rfl,a0,a1,?_⟩;refine Sv.seq ?_;refine Sv.drop ?_;refine Ev.gK Qm ?_;refine Av.cons (Ev.fld rfl i k rfl ?_);rfl';refine⟨rfl,p,e,rfl,b0,b1,?_⟩;refine Sv.seq ?_;refine Sv.xS (bz.mq Qt rfl rfl (aC.is rfl) ?_);refine Av.nil ⟨rfl,x,dx,a,b,p,n,many,es,last,rfl,rfl,?_⟩;refine Gv.nN ?_;refine Sv.seq ?_;refine Sv.CM rfl i l rfl ?_;rfl';obtain⟨e1,e2⟩:=hok.W6 pl e;refine⟨qi (by have:=CW B9 es;exact cU this hl) ⋯,?_⟩;have e3:dP "letter_deeds" (.cu (dI a (eH (xp es) many (.tuple [.int pl, .int e])))) (jD p n a b es (many+1) .none)=jD p n a b (es++[(many, .lt pl e)]) (many+1) .none:=by
  unfold jD;rw[e1,e2]
  rfl
 change Sv _ [.cu (aC az x dx (dP "letter_deeds" (.cu (dI a (eH (xp es) many (.tuple [.int pl, .int e])))) (jD p n a b es (many+1) .none))), .d false (.int pl), .d false (.int e), .d true (.int many)] _ _;rw[e3];refine Sv.nA (bz.of ?_);rfl';intro aA v' H' hv;exact⟨_,_,_,rfl,⟨rfl,rfl,λa m=>m⟩,q,hv⟩
def uU(C:ar):CF:=λc ds Φ=>∃(x dx a b:ar) (p n many r:Int) (prs:aB) (es:aZ) (last:PyData),c=dY C x dx a b p n es many last/\ds=[cy prs, .int r]/\bD p n many es/\rY p n prs/\0<=r/\r<p/\Φ (dY C x dx a b p n (es++[(many, .ck prs r)]) (many+1) .none) true (.int many)
def W9:i9 (uU C):=by
 intro c ds Φ Ψ hm z;revert hm;walk_at "mo";exact λq=>z _ _ _ q
def T9:bS ["self","pairs","rest","number"] ["self","pairs","rest"] (aI tH):=⟨rfl,rfl,rfl,by decide+kernel,rfl,by decide+kernel,by decide+kernel⟩
def ZJ(F:bI K "check" "Desk.check" tH f fd){az:ar}(i:cD K az)(k:bf K az "p")(o:bf K az "check_deeds")(j:bf K az "n")(y:fQ P w K mg base az "new_number" 1 ["self"] (cz 1 (sE az)))(u:Callee P w K mg base "ask_letter" 2 ["p","letter"] (cG 2 yX))(e:Callee P w K mg base "is_check" 1 ["p","n","pairs"] (cG 3 Gs))(cW:mg "list"=none):
  bA P w K mg base bF 3 f fd ["self","pairs","rest"] (cz 3 (uU az)):=by
 refine F.ok T9 (λvs H Q E h=>h.1) (λcdv A outer s H vs Q E hr h=>?_);obtain⟨_,nb,c,ws,ds,rfl,C,dH,T,ez,I,hF⟩:=h;obtain⟨Φ,G,hF⟩:∃Φ:Cu->Pd,(∀c' f d v H',Φ c' f d->kh c c' H H'->c'.P (λa=>nb a\/a∈c'.F) H'->af (λa=>nb a\/a∈c'.F\/(f=true/\H a≠none)) H' d v->Q v H')/\uU az c ds Φ:=⟨_,λc' f d v H' q=>q v H',hF⟩;obtain⟨x,dx,a,b,p,n,many,r,prs,es,last,rfl,rfl,hok,hc,r0,g,q⟩:=hF;refine⟨_,(@ay _ _ _ _ _ (@dZ _ _ _ _ _ _ _ _ (@rZ _ _ _ _ (@qK _ (K) _ _ rfl #[0,e,@aa _ _ _ _ _ (@dS _ _ _ _ _ (pv 0) rfl) (@aa _ _ _ _ _ (@dS _ _ _ _ _ (pv 0) rfl) (@aa _ _ _ _ _ (pv 1) ai rfl) rfl) rfl] (λ_=>rfl))) (@aE _ _ _ Cr) eV) (@ay _ _ _ _ _ (@kI _ _ _ _ #[0,u,@aa _ _ _ _ _ (@dS _ _ _ _ _ (pv 0) rfl) (@aa _ _ _ _ _ (pv 2) ai rfl) rfl] (by rfl)) #[2,#[12,T9.nd,@oj _ _ _ _ _ _ _ _ _ _ _ y (pv 0) (hr.mono ⋯) (by rfl)],#[13,(@aa _ _ _ _ _ #[14,cW,@aa _ _ _ _ _ (pv 1) ai rfl] (@aa _ _ _ _ _ (pv 2) ai rfl) rfl),iT (@dS _ _ _ _ _ (pv 0) rfl) (pv 3) set_dict],pv 3])),?_⟩;refine Sv.k6 C dH T ez I G (ρ:=[.cu _, .d false _, .d false _, .no]) rfl ?_;clear G I;have hl:=hok.len;refine Sv.seq ?_;refine Sv.mJ (Tv.not (Tv.rR ?_));refine Ev.gK XO ?_;refine Av.cons (Ev.fld rfl i k rfl ?_);refine Av.cons (Ev.fld rfl i j rfl ?_);rfl';refine⟨rfl,p,n,prs,rfl,λbb t=>⟨_,rfl,?_⟩⟩;rw[t.mpr hc,if_neg ⋯];refine Sv.next ?_
 refine Sv.seq ?_;refine Sv.drop ?_;refine Ev.gK Qm ?_;refine Av.cons (Ev.fld rfl i k rfl ?_);rfl';refine⟨rfl,p,r,rfl,r0,g,?_⟩;refine Sv.seq ?_;refine Sv.xS (bz.mq Qt rfl rfl (aC.is rfl) ?_);refine Av.nil ⟨rfl,x,dx,a,b,p,n,many,es,last,rfl,rfl,?_⟩;refine Gv.nN ?_;refine Sv.seq ?_;refine Sv.CM rfl i o rfl ?_;rfl';obtain⟨e1,e2⟩:=hok.YV prs r;refine⟨qi (by have:=CW yN es;exact cU this hl) ⋯,?_⟩;have e3:dP "check_deeds" (.cu (dI b (eH (bO es) many (.tuple [cy prs, .int r])))) (jD p n a b es (many+1) .none)=jD p n a b (es++[(many, .ck prs r)]) (many+1) .none:=by
  unfold jD;rw[e1,e2]
  rfl
 change Sv _ [.cu (aC az x dx (dP "check_deeds" (.cu (dI b (eH (bO es) many (.tuple [cy prs, .int r])))) (jD p n a b es (many+1) .none))), .d false (cy prs), .d false (.int r), .d true (.int many)] _ _;rw[e3];refine Sv.nA (bz.of ?_);rfl';intro aA v' H' hv;exact⟨_,_,_,rfl,⟨rfl,rfl,λa m=>m⟩,q,hv⟩
def xV(C:ar):CF:=λc ds Φ=>∃(x dx:ar) (p n:Int),c=aC C x dx []/\ds=[.int p, .int n]/\∀a b,Φ (dY C x dx a b p n [] 0 .none) true .none
def MA:i9 (xV C):=by
 intro c ds Φ Ψ hm z;revert hm;walk_at "mo";exact λq=>λa b=>z _ _ _ (q a b)
def Yy:bS ["self","p","n"] ["self","p","n"] (aI uC):=⟨rfl,rfl,rfl,by decide+kernel,rfl,by decide+kernel,by decide+kernel⟩
def ZU(F:bI K "__init__" "Desk.__init__" uC f fd){az:ar}(i:cD K az)(k:bf K az "p")(j:bf K az "n")(l:bf K az "letter_deeds")(o:bf K az "check_deeds")(e:bf K az "many")(g:bf K az "last"):
  bA P w K mg base bF 1 f fd ["self","p","n"] (cz 3 (xV az)):=by
 refine F.ok Yy (λvs H Q E h=>h.1) (λcdv A outer s H vs Q E hr h=>?_);obtain⟨_,nb,c,ws,ds,rfl,C,dH,T,ez,I,hF⟩:=h;obtain⟨Φ,G,hF⟩:∃Φ:Cu->Pd,(∀c' f d v H',Φ c' f d->kh c c' H H'->c'.P (λa=>nb a\/a∈c'.F) H'->af (λa=>nb a\/a∈c'.F\/(f=true/\H a≠none)) H' d v->Q v H')/\xV az c ds Φ:=⟨_,λc' f d v H' q=>q v H',hF⟩;obtain⟨x,dx,p,n,rfl,rfl,q⟩:=hF;refine⟨_,(@ay _ _ _ _ _ #[4,pv 1] (@ay _ _ _ _ _ #[4,pv 2] (@ay _ _ _ _ _ #[4,nL] (@ay _ _ _ _ _ #[4,nL] (@ay _ _ _ _ _ #[4,ak] (@aE _ _ _ #[4,jf])))))),?_⟩;refine Sv.k6 C dH T ez I G (ρ:=[.cu _, .d false _, .d false _]) rfl ?_;clear G I;refine Sv.seq (Sv.kH rfl i k (.inl rfl) (iQ rfl) ?_);rfl';refine Sv.kH rfl i j (.inl rfl) (iQ rfl) ?_;rfl';refine Sv.Ey rfl i l rfl (iQ rfl) (kZ.new λa=>?_);refine Sv.seq (Sv.Ey rfl i o rfl (iQ rfl) (kZ.new λb=>?_));refine Sv.seq (Sv.kH rfl i e (.inl rfl) (iQ rfl) ?_);rfl';refine Sv.kH rfl i g (.inl rfl) (iQ rfl) ?_;rfl'
 exact⟨_,rfl,⟨rfl,rfl,λy m=>by
  rcases aM.mp (show y∈x::dx::[] from m) with h|h
  .rw[h];exact bZ
  .rw[aF.mp h];exact bV _ bZ⟩,q a b⟩
def EZ(C:ar):vj:=λds Φ=>∃(p n:Int) (cs:List aB) (wd:Wo),ds=[c5 p n cs,fL wd]/\gc p/\p<10^40/\n=wd.length/\cs.length<=31/\wd.length<=31/\(∀prs∈cs,lY p n prs)/\(∀x,some x∈wd->0<=x/\x<p)/\∀(x dx a b:ar) (many:Int) (es:aZ) (ls:Ks) (ns:List Int),bD p n many es->0<=many->Bo cs wd es ls ns->Φ (dY C x dx a b p n es many .none) [.dict (ls.map aH), .list (ns.map .int)]
def M2:Tt (EZ C):=by
 intro ds Φ Ψ hm z;revert hm;walk_at "mo";exact λq=>λx dx a b many es ls ns g j k=>z _ _ (q x dx a b many es ls ns g j k)
def p9:bS ["bag","net","word","deeds","place","desk","letters","checks","kind","k"] ["bag","net","word"] (aI Bm):=⟨rfl,rfl,rfl,by decide+kernel,rfl,by decide+kernel,by decide+kernel⟩
theorem ae9(F:bI K "_law_told" "_law_told" Bm f fd){az:ar}(abN:fQ P w K mg base az "letter" 3 ["self","place","letter"] (cz 3 (wu az)))(XS:fQ P w K mg base az "check" 3 ["self","pairs","rest"] (cz 3 (uU az)))(Yt:qB P w K mg base az "Desk" 1 ["self","p","n"] (cz 3 (xV az)))(J:Callee P w K mg base "_law_draw" 1 ["bag","many"] k7)(cB:mg "range"=none)(bP:mg "len"=none)(cW:mg "list"=none):
    bA P w K mg base bF 4 f fd ["bag","net","word"] (w9 (EZ az)):=by
  refine F.ok p9 (λvs H Q E h=>h.1) (λcdv A outer s H vs Q E hr h=>?_);obtain⟨b,l,a0,v1,nb,dn,eG,kK,Φ,rfl,Z,C,t,I,hna,hab,hxa,X,R,G,hF⟩:=XG h;obtain⟨p,n,cs,wd,agi,hp,j9,rfl,hcl,hwl,e,hwr,q⟩:=hF;obtain⟨rfl,rfl⟩:dn=c5 p wd.length cs/\eG=wd.map aT:=by
    injection agi with h1 h2
    injection h2 with h2 _
    exact⟨h1,by injection h2⟩
  refine⟨_,(@ay _ _ _ _ _ (sG (i:=3) p9.nd rfl rfl (eZ.of (show fU (aI Bm) ["bag","net","word","deeds","place","desk","letters","checks","kind","k"] _ ["c"] [none]=true by decide+kernel)) (@j6 _ _ _ _ _ _ rfl cB (@aa _ _ _ _ _ #[9,bP,#[1,@aJ _ _ _ _ _ _ (dR K) eg (pv 1) ak (λ_ _=>rfl)]] ai rfl) (by rfl)) (λ_ _ _ _=>⟨#[3,(by show bx (["c"]:List Str);decide+kernel)],jN,(@fy _ _ _ _ _ (@aa _ _ _ _ _ qU (@aa _ _ _ _ _ (pv 0) ai rfl) rfl))⟩)) (@ay _ _ _ _ _ #[16,@j6 _ _ _ _ _ _ rfl cB (@aa _ _ _ _ _ #[26,bP] ai rfl) (by rfl),aY (i:=4) p9.nd rfl (bg rfl),@dZ _ _ _ _ _ _ _ _ (@bN _ _ _ _ _ _ _ _ qX (@aJ _ _ _ _ _ _ (c6 K) bY (pv 2) (pv 4) (λ_ _=>rfl)) jf (bM _)) (@aE _ _ _ (@kI _ _ _ _ (o8 uv O0 PySem.F.type_list_insert Z2 (pv 3) #[5,#[0,J,#[11,(@aR _ _ _ _ _ _ _ _ iA #[9,bP,@aa _ _ _ _ _ (pv 3) ai rfl] ak)]],@fy _ _ _ _ _ (@aa _ _ _ _ _ qU (@aa _ _ _ _ _ (pv 4) ai rfl) rfl)]) (by rfl))) eV] (@ay _ _ _ _ _ #[15,p9.nd,(@HC _ _ _ _ _ _ _ _ _ _ _ Yt (hr.mono ⋯) #[5,@aJ _ _ _ _ _ _ (dR K) eg (pv 1) ak (λ_ _=>rfl),@aJ _ _ _ _ _ _ (dR K) eg (pv 1) ak (λ_ _=>rfl)] (by rfl) ⋯ (by rfl) (by rfl))] (@ay _ _ _ _ _ (@bh _ _ (6) _ _ _ _ p9.nd rfl (bg rfl) nL (by rfl) (by first|exact .inl rfl|exact .inr rfl|assumption)) #[2,@bh _ _ (7) _ _ _ _ p9.nd rfl (bg rfl) (@iX _ _ _ _ ai) (by rfl) (by first|exact .inl rfl|exact .inr rfl|assumption),#[16,gH (K:=K) rfl (pv 3),(@k9 _ (K) _ _ _ (2) _ rfl rfl #[7,aY (i:=8) p9.nd rfl (bg rfl),aY (i:=9) p9.nd rfl (bg rfl)] (by rfl) (by rfl)),@dZ _ _ _ _ _ _ _ _ (@bN _ _ _ _ _ _ _ _ je (pv 8) qU (bM _)) (@aE _ _ _ (@gF _ _ _ _ _ _ #[18,abN,pv 5,#[5,pv 9,@aJ _ _ _ _ _ _ (c6 K) bY (pv 2) (pv 9) (λ_ _=>rfl)]] (iT (pv 6) (pv 9) set_dict) (by rfl) (by rfl) (by rfl))) (@aE _ _ _ (@kI _ _ _ _ (o8 uv wM xo tW (pv 7) #[1,#[18,XS,pv 5,(@aa _ _ _ _ _ #[14,cW,#[1,@aJ _ _ _ _ _ _ (c6 K) bY (@aJ _ _ _ _ _ _ (dR K) eg (pv 1) ak (λ_ _=>rfl)) (pv 9) (λ_ _=>rfl)]] (@aa _ _ _ _ _ ak ai rfl) rfl)]]) (by rfl)))],@fy _ _ _ _ _ (@aa _ _ _ _ _ (pv 5) (@aa _ _ _ _ _ (pv 6) (@aa _ _ _ _ _ (pv 7) ai rfl) rfl) rfl)])))),?_⟩;refine Sv.x4 ⋯ Z C t I hna hab hxa X R G (ρ:=[.aq, .d false _, .own _ false _, .no, .no, .no, .no, .no, .no, .no]) rfl ?_;clear G I;have p2:=hp.1;have LN:(cs.map cy).length=cs.length:=aj ..;have uo:(wd.map aT).length=wd.length:=aj ..;obtain⟨lT,u⟩:∃lT:Bool×Int->PyData,lT=λq=> .tuple [.str (if q.1 then dc "letter" else dc "check"), .int q.2]:=⟨_,rfl⟩;refine Sv.seq (Sv.DW (aD.nZ ⋯ rfl ?_));rfl';refine jH.rel lT true (λj q=>q=(false,(j:Int))) ?_ λO4 WB aeD=>?_
  · rintro j d ⟨hj,rfl⟩
    rfl';refine⟨by walk_at "wk",?_⟩;rfl';exact⟨λ_=>rfl,(false,(j:Int)),by rw[u,show(0+(j:Int))=j by omega];rfl,rfl⟩
  intro A3;have O:O4=(a4 cs.length).map λ(c:Nat)=>(false,(c:Int)):=by
    apply iu;intro j;rw[bu];by_cases c:j<cs.length
    · have M:j<O4.length:=∅
      rw[jA c,aL M,aeD j _ (aL M)];rfl
    · rw[eO ∅,eO (by rw[gC];omega)];rfl
  subst O;refine Sv.seq (Sv.tM ?_);rfl';refine⟨λi ρ=>∃(ts:List (Bool×Int)) (f:Bool) (L:Sl),ρ=[.aq, .d false (c5 p wd.length cs), .own a0 false (wd.map aT), .own A3 f (ts.map lT),L, .no, .no, .no, .no, .no]/\mD cs wd i ts,⟨_,_,_,rfl,mD.start⟩,?_,?_⟩
  · rintro i d ρ ⟨hi,rfl⟩ ⟨ts,f,L,rfl,hts⟩
    have hi:i<wd.length:=∅
    obtain⟨o,U⟩:∃o,wd[i]?=some o:=⟨_,aL hi⟩;have T:cI (wd.map aT) (0+(i:Int))=some (aT o):=jT ∅ (by rw[show(0+(i:Int)).toNat=i by omega,bu,U];rfl);have gG:=hts.ln;have S:(ts.map lT).length=ts.length:=aj ..;refine Gv.nN ?_;rfl';cases o with
    | none =>
      rfl';exact⟨ts,f,_,rfl,hts.skip λ_=>U⟩
    | some x =>
      rw[show aT (some x)= .int x from rfl];rfl';refine Sv.insert rfl ?_;rfl';intro r r0 r1;refine⟨r,rfl,r0,∅,∅,?_⟩;rfl';have v:(ts.map lT).take r.toNat++gL [.str (dc "letter"), .int (0+(i:Int))]::(ts.map lT).drop r.toNat=(ts.take r.toNat++(true,(i:Int))::ts.drop r.toNat).map lT:=by
        rw[cX,bR,Kw,List.map_drop,u,show(0+(i:Int))=i by omega]
        rfl
      refine⟨_,(f && vD [(true, .str (dc "letter")),(true, .int (0+(i:Int)))]), .d true (.int (0+(i:Int))),?_,hts.ins (m:=r.toNat) U⟩;rw[<-v]
      rfl
  rintro ρ ⟨ts,f,L,rfl,hts⟩;rw[show((wd.map aT).length:Int).toNat=wd.length by omega] at hts;have gG:=hts.ln;refine Sv.seq (Sv.make MA ?_);rfl';refine⟨rfl,λx dx=>⟨x,dx,p,wd.length,rfl,rfl,λa1 a2=>⟨rfl,?_⟩⟩⟩;refine Sv.seq (Sv.wQ (kZ.new λA6=>?_));refine Sv.seq (Sv.AJ λA7=>?_);refine Sv.seq (Sv.NN (a:=A3) (f:=f) (ds:=ts.map lT) rfl ?_);refine⟨λj ρ=>∃(es:aZ) (ls:Ks) (ns:List Int) (D V:Bool) (L B Y:Sl),ρ=[.aq, .d false (c5 p wd.length cs), .own a0 false (wd.map aT), .own A3 f (ts.map lT),L, .cu (dY az x dx a1 a2 p wd.length es j .none), .bB A6 D ls, .own A7 V (ns.map .int),B,Y]/\bD p wd.length j es/\es.length<=j/\ns.length<=j/\Tl cs wd ts j es ls ns,?_,⟨[],[],[],_,_,_,_,_,rfl,⟨.nil,(λ_ z=>nomatch z),(λ_ z=>nomatch z),iP _⟩,aW _,aW _,Tl.start⟩,?_,?_⟩
  · rintro j ρ ⟨es,ls,ns,D,V,L,B,Y,rfl,_⟩
    rfl
  · rintro j d ρ hd ⟨es,ls,ns,D,V,L,B,Y,rfl,hok,hel,hnl,hT⟩
    obtain⟨q0,hq,rfl⟩:=fY hd;have M:j<ts.length:=(bH.mp hq).1;have zK:=hT.ll;have N:((j+1:Nat):Int)=(j:Int)+1:=∅
    obtain⟨bq,k⟩:=q0;cases bq with
    | true =>
      rw[show lT (true,k)= .tuple [.str (dc "letter"), .int k] by rw[u];rfl];obtain⟨k0,k1,y,hy⟩:=hts.lt _ (cS hq) rfl;have k0:0<=k:=k0;have k1:k<wd.length:=k1;have T:cI (wd.map aT) k=some (.int y):=jT k0 (by rw[bu];show(wd[k.toNat]?).map _=_;rw[hy];rfl);obtain⟨y0,y1⟩:=hwr y (cS hy);rfl';refine⟨_, .ss _,_,rfl,?_⟩;rw[if_pos rfl];refine Sv.agp (a:=A6) (bz.mq Ww rfl rfl (aC.is rfl) ?_);rfl';refine⟨rfl,x,dx,a1,a2,p,wd.length,j,k,y,es, .none,rfl,rfl,hok,k0,k1,y0,y1,?_⟩;refine⟨_,_,rfl,?_⟩;rfl';exact⟨es++[((j:Int), .lt k y)],_,ns,_,_,_,_,_,rfl,by rw[N];exact hok.snoc ∅ (d:= .lt k y) ⟨k0,k1,y0,y1⟩ ∅,by rw[cP];show _+1<=_;omega,∅,hT.letter hok hts.nd hq k0 hy⟩
    | false =>
      obtain⟨rfl,prs,W,Ze⟩:=hT.check (many:=j) hts hq;obtain⟨g,hpl⟩:=e prs (cS W);have T:cI (cs.map cy) (ns.length:Int)=some (cy prs):=jT ∅ (by rw[bu,show((ns.length:Int)).toNat=ns.length by omega,W];rfl);rw[show lT (false,(ns.length:Int))= .tuple [.str (dc "check"), .int ns.length] by rw[u];rfl];rfl';refine⟨_, .sd _ _,_,rfl,?_⟩;rw[show decide (dc "check"=dc "letter")=false by decide,if_neg ⋯];refine Sv.appendS rfl (bz.mq W9 rfl rfl (aC.is rfl) ?_);rfl';refine⟨rfl,x,dx,a1,a2,p,wd.length,j,0,prs,es, .none,rfl,rfl,hok,g,∅,∅,?_⟩;refine⟨rfl,by rw[aj];omega,?_⟩;rw[show dj ba ns++[ba (j:Int)]=(ns++[(j:Int)]).map ba by rw[cX];rfl];exact⟨es++[((j:Int), .ck prs 0)],ls,ns++[(j:Int)],_,_,_,_,_,rfl,by rw[N];exact hok.snoc ∅ (d:= .ck prs 0) ⟨g,∅,∅⟩ ∅,by rw[cP];show _+1<=_;omega,by rw[cP];show _+1<=_;omega,Ze⟩
  · rintro ρ ⟨es,ls,ns,D,V,L,B,Y,rfl,hok,hel,hnl,hT⟩
    refine Sv.GS 6 rfl ?_;refine Sv.xm 7 rfl ?_;refine Sv.Sr rfl rfl ⋯ rfl rfl rfl ?_;exact q _ _ _ _ _ _ _ _ hok ∅ (hT.done hts (by rw[aj];exact aW _))
def rV(C:ar):CF:=λc ds Φ=>∃(x dx a b:ar) (p n many:Int) (es:aZ) (last:PyData),c=dY C x dx a b p n es many last/\ds=[]/\bD p n many es/\gc p/\p<10^40/\0<=n/\n<=4000/\LastOk p n es last/\∀d,sr p n es d->Φ (dY C x dx a b p n es many d) false d
def U7:i9 (rV C):=by
 intro c ds Φ Ψ hm z;revert hm;walk_at "mo";exact λq=>λd hd=>z _ _ _ (q d hd)
def acy:bS ["self"] ["self"] (aI su):=⟨rfl,rfl,rfl,by decide+kernel,rfl,by decide+kernel,by decide+kernel⟩
def Jn(F:bI K "found" "Desk.found" su f fd){az:ar}{aO:ar}(i:cD K az)(g:bf K az "last")(k:bf K az "p")(j:bf K az "n")(l:bf K az "letter_deeds")(o:bf K az "check_deeds")(e:Callee P w K mg base "found_by" 5 ["p","n","letter_deeds","check_deeds"] (cG 4 (Je aO))):
  bA P w K mg base bF 6 f fd ["self"] (cz 1 (rV az)):=by
 refine F.ok acy (λvs H Q E h=>h.1) (λcdv A outer s H vs Q E hr h=>?_);obtain⟨_,nb,c,ws,ds,rfl,C,dH,T,ez,I,hF⟩:=h;obtain⟨Φ,G,hF⟩:∃Φ:Cu->Pd,(∀c' f d v H',Φ c' f d->kh c c' H H'->c'.P (λa=>nb a\/a∈c'.F) H'->af (λa=>nb a\/a∈c'.F\/(f=true/\H a≠none)) H' d v->Q v H')/\rV az c ds Φ:=⟨_,λc' f d v H' q=>q v H',hF⟩;obtain⟨x,dx,a,b,p,n,many,es,last,rfl,rfl,hok,hp,Y,J,hn1,jI,q⟩:=hF;refine⟨_,(@ay _ _ _ _ _ (@dZ _ _ _ _ _ _ _ _ (@bN _ _ _ _ _ _ _ _ Fp (@dS _ _ _ _ _ (pv 0) rfl) jf (bM _)) (@aE _ _ _ #[4,#[0,e,@aa _ _ _ _ _ (@dS _ _ _ _ _ (pv 0) rfl) (@aa _ _ _ _ _ (@dS _ _ _ _ _ (pv 0) rfl) (@aa _ _ _ _ _ (@dS _ _ _ _ _ (pv 0) rfl) (@aa _ _ _ _ _ (@dS _ _ _ _ _ (pv 0) rfl) ai rfl) rfl) rfl) rfl]]) eV) (@aE _ _ _ (@bE _ _ _ _ (@dS _ _ _ _ _ (pv 0) rfl)))),?_⟩;refine Sv.k6 C dH T ez I G (ρ:=[.cu _]) rfl ?_;clear G I;have fin:∀d,sr p n es d->Sv (oB (dY az x dx a b p n es many last).F H nb) [.cu (dY az x dx a b p n es many d)] (pT (ja K (br 0) "last")) (objE (oB (dY az x dx a b p n es many last).F H nb) (dY az x dx a b p n es many last) Φ):=λd hd=>by
  refine Sv.nA (bz.of (Ev.fld rfl i g rfl ?_));intro aA v' H' hv;exact⟨_,_,_,rfl,⟨rfl,rfl,λa m=>m⟩,q d hd,hv⟩
 refine Sv.seq ?_;refine Sv.mJ ?_;refine Tv.test (Ev.is (Ev.fld rfl i g rfl ?_));rfl';rcases jI with rfl|hpic
 .rfl';refine Sv.kH rfl i g (.inr ⟨_,rfl⟩) (iQ rfl) ?_;refine Ev.G5 ahm ?_;refine fq.cons (Ev.fld rfl i k rfl ?_);refine fq.cons (Ev.fld rfl i j rfl ?_);refine fq.kH rfl i l rfl ?_;refine fq.kH rfl i o rfl ?_;refine fq.nil ?_;exact⟨rfl,p,n,many,es,rfl,hok,hp,Y,J,hn1,λd hd=>⟨.inl rfl,fin d hd⟩⟩
 .have hq:=fin _ hpic;obtain⟨W,rfl,hW⟩:=id hpic;rw[if_neg (by intro z;cases z)];refine Sv.next ?_
  exact hq
def yf(C:ar):CF:=λc ds Φ=>∃(x dx a b:ar) (p n many:Int) (es:aZ) (last:PyData),c=dY C x dx a b p n es many last/\ds=[]/\bD p n many es/\Bk p n/\LastOk p n es last/\∀d,sr p n es d->Φ (dY C x dx a b p n es many d) true (fL (jg p n es).wd)
def WQ:i9 (yf C):=by
 intro c ds Φ Ψ hm z;revert hm;walk_at "mo";exact λq=>λd hd=>z _ _ _ (q d hd)
def afB:bS ["self"] ["self"] (aI sX):=⟨rfl,rfl,rfl,by decide+kernel,rfl,by decide+kernel,by decide+kernel⟩
def Zr(F:bI K "known" "Desk.known" sX f fd){az:ar}(e:fQ P w K mg base az "found" 6 ["self"] (cz 1 (rV az)))(cW:mg "list"=none):
  bA P w K mg base bF 7 f fd ["self"] (cz 1 (yf az)):=by
 refine F.ok afB (λvs H Q E h=>h.1) (λcdv A outer s H vs Q E hr h=>?_);obtain⟨_,nb,c,ws,ds,rfl,C,dH,T,ez,I,hF⟩:=h;obtain⟨Φ,G,hF⟩:∃Φ:Cu->Pd,(∀c' f d v H',Φ c' f d->kh c c' H H'->c'.P (λa=>nb a\/a∈c'.F) H'->af (λa=>nb a\/a∈c'.F\/(f=true/\H a≠none)) H' d v->Q v H')/\yf az c ds Φ:=⟨_,λc' f d v H' q=>q v H',hF⟩;obtain⟨x,dx,a,b,p,n,many,es,last,rfl,rfl,hok,hn,jI,q⟩:=hF;refine⟨_,(@aE _ _ _ (@bE _ _ _ _ #[14,cW,#[1,#[8,@oj _ _ _ _ _ _ _ _ _ _ _ e (pv 0) (hr.mono ⋯) (by rfl)]]])),?_⟩;refine Sv.k6 C dH T ez I G (ρ:=[.cu _]) rfl ?_;clear G I;refine Sv.nA (mV.ev (mV.listOf (bz.nV (bz.mq U7 rfl rfl (aC.is rfl) ?_))));refine Av.nil ⟨rfl,x,dx,a,b,p,n,many,es,last,rfl,rfl,hok,hn.1,hn.2.1,hn.2.2.1,hn.2.2.2,jI,λd hd=>?_⟩;have hd':=hd;obtain⟨W,rfl,hW⟩:=hd;refine⟨_,rfl,Ev.int ⟨0,rfl,_,rfl,_, .inl rfl,λaA S H' hv=>?_⟩⟩;refine⟨_,_,_,rfl,⟨rfl,rfl,λa m=>m⟩,q _ hd',?_⟩;rw[show fE ((jg p n es).wd.map aT)=true from yS _] at hv;exact hv
def uG(C:ar):CF:=λc ds Φ=>∃(x dx a b:ar) (p n many k:Int) (es:aZ) (last:PyData),c=dY C x dx a b p n es many last/\ds=[.int k]/\bD p n many es/\LastOk p n es last/\Bk p n/\0<=k/\k<n/\(∀d,sr p n es d->Φ (dY C x dx a b p n es many d) false (tY ((jg p n es).wh k)))
def Y5:i9 (uG C):=by
 intro c ds Φ Ψ hm z;revert hm;walk_at "mo";exact λq=>λd hd=>z _ _ _ (q d hd)
def VP:bS ["self","place"] ["self","place"] (aI tX):=⟨rfl,rfl,rfl,by decide+kernel,rfl,by decide+kernel,by decide+kernel⟩
def N1(F:bI K "why" "Desk.why" tX f fd){az:ar}(i:cD K az)(j:bf K az "n")(e:fQ P w K mg base az "found" 6 ["self"] (cz 1 (rV az)))(g:Callee P w K mg base "ask_place" 1 ["n","place"] (cG 2 CC)):
  bA P w K mg base bF 7 f fd ["self","place"] (cz 2 (uG az)):=by
 refine F.ok VP (λvs H Q E h=>h.1) (λcdv A outer s H vs Q E hr h=>?_);obtain⟨_,nb,c,ws,ds,rfl,C,dH,T,ez,I,hF⟩:=h;obtain⟨Φ,G,hF⟩:∃Φ:Cu->Pd,(∀c' f d v H',Φ c' f d->kh c c' H H'->c'.P (λa=>nb a\/a∈c'.F) H'->af (λa=>nb a\/a∈c'.F\/(f=true/\H a≠none)) H' d v->Q v H')/\uG az c ds Φ:=⟨_,λc' f d v H' q=>q v H',hF⟩;obtain⟨x,dx,a,b,p,n,many,k,es,last,rfl,rfl,hok,jI,hn,k0,k1,q⟩:=hF;refine⟨_,(@ay _ _ _ _ _ (@kI _ _ _ _ #[0,g,@aa _ _ _ _ _ (@dS _ _ _ _ _ (pv 0) rfl) (@aa _ _ _ _ _ (pv 1) ai rfl) rfl] (by rfl)) (@aE _ _ _ (@bE _ _ _ _ (o8 KP Rc PySem.F.type_dict_get x7 #[8,@oj _ _ _ _ _ _ _ _ _ _ _ e (pv 0) (hr.mono ⋯) (by rfl)] (@aa _ _ _ _ _ (pv 1) ai rfl))))),?_⟩;refine Sv.k6 C dH T ez I G (ρ:=[.cu _, .d false _]) rfl ?_;clear G I;refine Sv.seq ?_;refine Sv.drop ?_;refine Ev.gK Sn ?_;refine Av.cons (Ev.fld rfl i j rfl ?_);rfl';refine⟨rfl,n,k,rfl,k0,k1,?_⟩;refine Sv.nA (bz.agU (bz.nV (bz.mq U7 rfl rfl (aC.is rfl) ?_)));refine Av.nil ⟨rfl,x,dx,a,b,p,n,many,es,last,rfl,rfl,hok,hn.1,hn.2.1,hn.2.2.1,hn.2.2.2,jI,λd hd=>?_⟩;have hd':=hd;obtain⟨W,rfl,hW⟩:=hd;refine⟨_,rfl,Ev.int ⟨1,rfl,_,rfl,W,rfl,Ev.var rfl ⟨k,rfl,λaA S H' hv=>?_⟩⟩⟩;refine⟨_,_,_,rfl,⟨rfl,rfl,λa m=>m⟩,q _ hd',?_⟩;rw[hW] at hv;revert hv;cases (jg p n es).wh k<;>exact λhv=>hv
def G2(C:ar):MF:=λts ds Φ=>∃(V x dx a b:ar) (p n many:Int) (cs:List aB) (wd:Wo) (es:aZ) (ls:Ks) (ns:List Int) (last:PyData),ts=[c9 V (wd.map aT),dY C x dx a b p n es many last]/\ds=[c5 p n cs, .dict (ls.map aH), .list (ns.map .int)]/\bD p n many es/\n=wd.length/\Bk p n/\LastOk p n es last/\wd.length<64/\j3 p cs wd.length/\jj wd/\Bo cs wd es ls ns/\∀c,LastOk p n es c->Φ [c9 V (wd.map aT),dY C x dx a b p n es many c] true (.bool true)
def Qy:Uh (G2 C):=λts ds Φ Ψ ⟨V,x,dx,a,b,p,n,many,cs,wd,es,ls,ns,last,e1,e2,h1,h2,h3,h4,h5,h6,e,g,q⟩ z=>⟨V,x,dx,a,b,p,n,many,cs,wd,es,ls,ns,last,e1,e2,h1,h2,h3,h4,h5,h6,e,g,λc k=>z _ _ _ (q c k)⟩
def nF:bS ["net","word","desk","letters","checks","there","why","place","rounds","turn","turns","c","letter"] ["net","word","desk","letters","checks"] (aI yQ):=⟨rfl,rfl,rfl,by decide+kernel,rfl,by decide+kernel,by decide+kernel⟩
theorem agy(F:bI K "_law_right" "_law_right" yQ f fd){az:ar}(Zp:fQ P w K mg base az "known" 7 ["self"] (cz 1 (yf az)))(ace:fQ P w K mg base az "why" 7 ["self","place"] (cz 2 (uG az)))(abi:Callee P w K mg base "_law_round" 2 ["net","word"] (cG 2 GH))(xE:Callee P w K mg base "_law_alike" 5 ["found","due"] (cG 2 (tB 5)))(abO:Callee P w K mg base "mended" 8 ["net","word"] (cG 2 Eg))(ahv:Callee P w K mg base "_law_copy" 1 ["net"] (cG 1 GQ))(cW:mg "list"=none)(cB:mg "range"=none)(bP:mg "len"=none):
    bA P w K mg base bF 9 f fd ["net","word","desk","letters","checks"] (CO [false,true,true,false,false] (G2 az)):=by
  refine F.ok nF (λvs H Q E h=>h.1) (λcdv A outer s H vs Q E hr h=>?_);obtain⟨nb,cts,ws,ds,Φ,rfl,B,G,hw,hF⟩:=Xg h;obtain⟨V,x,dx,a,b,p,n,many,cs,wd,es,ls,ns,last,rfl,rfl,hok,rfl,rF,jI,hwl,hN,hW,Z,q⟩:=hF;refine⟨_,(@ay _ _ _ _ _ #[15,nF.nd,#[14,cW,@aa _ _ _ _ _ (pv 1) ai rfl]] (@ay _ _ _ _ _ #[20,nF.nd,(@aR _ _ _ _ _ _ _ _ Vd (@iX _ _ _ _ #[1,jf]) #[25,bP])] (@ay _ _ _ _ _ #[16,@j6 _ _ _ _ _ _ rfl cB (@aa _ _ _ _ _ #[25,bP] ai rfl) (by rfl),aY (i:=7) nF.nd rfl (bg rfl),@dZ _ _ _ _ _ _ _ _ (@bN _ _ _ _ _ _ _ _ qX (@aJ _ _ _ _ _ _ (c6 K) bY (pv 1) (pv 7) (λ_ _=>rfl)) jf (bM _)) (@aE _ _ _ #[13,(@aa _ _ _ _ _ qU #[1,@aJ _ _ _ _ _ _ (jG) lO (pv 3) (pv 7) (λ_ _=>rfl)] rfl),iT (pv 6) (pv 7) set_list]) eV] (@ay _ _ _ _ _ (@bh _ _ (8) _ _ _ _ nF.nd rfl (bg rfl) (@iX _ _ _ _ ai) (by rfl) (by first|exact .inl rfl|exact .inr rfl|assumption)) #[2,#[10,@GP _ _ _ _ _ _ _ rfl cB (@aa _ _ _ _ _ ak #[1,(@aR _ _ _ _ _ _ _ _ iA #[25,bP] ak)] rfl) (by rfl) (by rfl),aY (i:=9) nF.nd rfl (bg rfl),@ay _ _ _ _ _ (@bh _ _ (10) _ _ _ _ nF.nd rfl (bg rfl) #[0,abi,@aa _ _ _ _ _ (pv 0) (@aa _ _ _ _ _ (pv 5) ai rfl) rfl] (by rfl) (by first|exact .inl rfl|exact .inr rfl|assumption)) (@ay _ _ _ _ _ (@dZ _ _ _ _ _ _ _ _ (@bN _ _ _ _ _ _ _ _ (BD hr.units) (pv 10) (@iX _ _ _ _ ai) (bM _)) (@aE _ _ _ (@kI _ _ _ _ (o8 uv wM xo tW (pv 8) #[1,pv 10]) (by rfl))) eV) (@aE _ _ _ #[10,gH (K:=K) rfl (pv 10),@k9 _ (K) _ _ _ (3) _ rfl rfl (@dW _ _ _ _ _ (aY (i:=7) nF.nd rfl (bg rfl)) #[7,aY (i:=11) nF.nd rfl (bg rfl),aY (i:=12) nF.nd rfl (bg rfl)] (by rfl)) (by rfl) (by rfl),@ay _ _ _ _ _ (@gF _ _ _ _ _ _ (pv 12) (iT (pv 5) (pv 7) set_list) (by rfl) (by rfl) (by rfl)) (@aE _ _ _ #[13,(@aa _ _ _ _ _ qU #[5,@aJ _ _ _ _ _ _ (c6 K) bY (pv 4) (pv 11) (λ_ _=>rfl),pv 9] rfl),iT (pv 6) (pv 7) set_list])]))],@dZ _ _ _ _ _ _ _ _ (@rZ _ _ _ _ (@qK _ (K) _ _ rfl #[0,xE,#[5,#[0,abO,#[5,#[0,ahv,@aa _ _ _ _ _ (pv 0) ai rfl],#[14,cW,@aa _ _ _ _ _ (pv 1) ai rfl]]],@fy _ _ _ _ _ (@aa _ _ _ _ _ (pv 5) #[1,pv 8] rfl)]] (λ_=>rfl))) (@aE _ _ _ (@bE _ _ _ _ pL)) eV,(@FQ _ _ _ _ _ _ _ #[0,xE,@aa _ _ _ _ _ (@oj _ _ _ _ _ _ _ _ _ _ _ Zp (pv 2) (hr.mono ⋯) (by rfl)) (@aa _ _ _ _ _ (pv 5) ai rfl) rfl] (@Fy _ _ _ _ _ #[0,xE,@aa _ _ _ _ _ (jd (eZ.of (show fU (aI yQ) ["net","word","desk","letters","checks","there","why","place","rounds","turn","turns","c","letter"] _ ["place","desk"] [none,some 2]=true by decide+kernel)) (@j6 _ _ _ _ _ _ rfl cB (@aa _ _ _ _ _ #[25,bP] ai rfl) (by rfl)) (λ_ _ _ _=>⟨#[3,(by show bx (["place","desk"]:List Str);decide+kernel)],jN,#[18,ace,pv 1,@aa _ _ _ _ _ (pv 0) ai rfl]⟩)) (@aa _ _ _ _ _ (pv 6) ai rfl) rfl]))])))),?_⟩;refine Sv.ael B G hw (ρ:=[.d false _, .cu _, .cu _, .d false _, .d false _, .no, .no, .no, .no, .no, .no, .no, .no]) rfl ?_;clear G hw;refine Sv.uq 1 rfl ?_;have uo:(wd.map aT).length=wd.length:=aj ..;have M:0<p:=by have:=rF.1.1;omega
  have hr:=hN.rg;have Hl:=Z.ir;obtain⟨N,eN⟩:∃N:Int,N=wd.length:=⟨_,rfl⟩;have eNt:N.toNat=wd.length:=∅
  refine Sv.seq (Sv.DW (aD.C1 rfl ?_));intro A5;refine Sv.seq (Sv.DW (aD.rep (d:= .none) (Ev.aN ⟨rfl,rfl,?_⟩)));rfl';intro A6;refine Sv.seq (Sv.tM ?_);rfl';refine⟨λi ρ=>∃(g D:Bool) (S:Sl),ρ=[.d false (c5 p wd.length cs), .own V false (wd.map aT), .cu (dY az x dx a b p wd.length es many last), .d false (.dict (ls.map aH)), .d false (.list (ns.map .int)), .own A5 g (wd.map aT), .own A6 D (lD wd.length (ir wd.length es) i),S, .no, .no, .no, .no, .no],⟨_,_,_,by rw[EI,uo];rfl⟩,?_,?_⟩
  · rintro i d ρ ⟨hi,rfl⟩ ⟨g,D,S,rfl⟩
    have hi:i<wd.length:=∅
    obtain⟨o,U⟩:∃o,wd[i]?=some o:=⟨_,aL hi⟩;have T:cI (wd.map aT) (0+(i:Int))=some (aT o):=jT ∅ (by rw[show(0+(i:Int)).toNat=i by omega,bu,U];rfl);have RO:=X9 (n:=(wd.length:Int)) (ts:=es) (a:=(i:Int)) ∅ ∅;refine Gv.nN ?_;rfl';cases o with
    | none =>
      rfl';have hno:(ir wd.length es).wh (i:Int)=none:=by
        rw[RO,Z.no λy z=>by rw[show((i:Int)).toNat=i by omega,U] at z;cases z];rfl
      show∃(g D:Bool) (S:Sl),(_:Rh)=[.d false (c5 p wd.length cs), .own V false (wd.map aT), .cu (dY az x dx a b p wd.length es many last), .d false (.dict (ls.map aH)), .d false (.list (ns.map .int)), .own A5 g (wd.map aT), .own A6 D (lD wd.length (ir wd.length es) (i+1)),S, .no, .no, .no, .no, .no];rw[Md hno];exact⟨_,_,_,rfl⟩
    | some y =>
      obtain⟨k,hk⟩:=Z.lv i y U;have hk':bJ ls (0+(i:Int))=some (.int k):=by rw[show 0+(i:Int)=i by omega];exact hk
      have hyes:tY ((ir wd.length es).wh (i:Int))=kB k:=by
        rw[RO,Z.first hk ∅ (by rw[show((i:Int)).toNat=i by omega];exact U)];rfl
      rw[show aT (some y)= .int y from rfl];rfl';refine Ev.m9 ?_;rfl';refine⟨_,rfl,?_⟩;rfl';refine⟨_,hk',?_⟩;rfl';refine⟨_,(0+(i:Int)).toNat,rfl,wR ∅ (by rw[XZ];omega),?_⟩;show∃(g D:Bool) (S:Sl),(_:Rh)=[.d false (c5 p wd.length cs), .own V false (wd.map aT), .cu (dY az x dx a b p wd.length es many last), .d false (.dict (ls.map aH)), .d false (.list (ns.map .int)), .own A5 g (wd.map aT), .own A6 D (lD wd.length (ir wd.length es) (i+1)),S, .no, .no, .no, .no, .no];rw[Xw,hyes,show(0+(i:Int)).toNat=i by omega];exact⟨_,_,_,rfl⟩
  rintro ρ ⟨g,D,S,rfl⟩;have e1:lD wd.length (ir wd.length es) ((wd.map aT).length:Int).toNat=jc wd.length (ir wd.length es):=by
    have h:=Vl (c:=ir wd.length es) (wd.length:Int);rw[show((wd.length:Int)).toNat=wd.length by omega] at h;rw[uo,show((wd.length:Int)).toNat=wd.length by omega];exact h
  rw[e1];have hz0:bG p wd.length es 0=ir wd.length es:=rfl;refine Sv.seq (Sv.AJ λA8=>?_);refine Sv.seq (Sv.VW ?_);rfl';refine⟨λi ρ=>∃(st:List (List cN)) (g D W:Bool) (S Y xO I C:Sl),ρ=[.d false (c5 p wd.length cs), .own V false (wd.map aT), .cu (dY az x dx a b p wd.length es many last), .d false (.dict (ls.map aH)), .d false (.list (ns.map .int)), .own A5 g ((bG p wd.length es i).wd.map aT), .own A6 D (jc wd.length (bG p wd.length es i)),S, .own A8 W (st.map gn),Y,xO,I,C]/\st++iO p cs (bG p wd.length es i).wd=iO p cs wd/\j5 p cs (bG p wd.length es i).wd=j5 p cs wd/\(st.length=i\/aP p cs (bG p wd.length es i).wd=[]),⟨[],_,_,_,_,_,_,_,_,by rw[hz0,Hl];rfl,by rw[hz0,Hl];rfl,by rw[hz0,Hl], .inl rfl⟩,?_,?_⟩
  · rintro i d ρ ⟨hi,rfl⟩ ⟨st,g,D,W,S,Y,xO,I,C,rfl,h1,h2,h3⟩
    obtain⟨R,i2,i3⟩:=rM M hok i;have eS:bG p wd.length es (i+1)=j7 p es ((i:Int)+1) (bG p wd.length es i):=rfl;generalize bG p wd.length es i=c at*;have RB:c.wd.length=wd.length:=by rw[R];omega
    have uJ:j3 p cs c.wd.length:=by rw[RB];exact hN
    have uy:jj c.wd:=λy m=>by
      have:=i3 y m;have:=rF.2.1;unfold Sm;omega
    obtain⟨s1,s2⟩:=Z.step M (t:=(i:Int)+1) R i2 uJ.rg;refine Gv.nN ?_;refine Sv.seq (Sv.asg (Ev.G5 aaw ?_));refine fq.cons (Ev.var rfl ?_);refine fq.own rfl (fq.nil ?_);refine⟨rfl,p,wd.length,cs,c.wd,rfl,uJ,uy,∅, .inl rfl,?_⟩;refine Gv.name ?_;refine Sv.seq ?_;refine Sv.Pg (λL=>∃(l:List (List cN)) (W:Bool) (I C:Sl),L=[.d false (c5 p wd.length cs), .own V false (wd.map aT), .cu (dY az x dx a b p wd.length es many last), .d false (.dict (ls.map aH)), .d false (.list (ns.map .int)), .own A5 g (c.wd.map aT), .own A6 D (jc wd.length c),S, .own A8 W (l.map gn), .d true (.int (1+(i:Int))), .d true (gn (aP p cs c.wd)),I,C]/\l++iO p cs (xk c.wd (aP p cs c.wd))=iO p cs wd/\j5 p cs (xk c.wd (aP p cs c.wd))=j5 p cs wd/\(l.length=i+1\/aP p cs (xk c.wd (aP p cs c.wd))=[])) ?_ ?_
    · rfl'
      refine⟨Ua _,E6,_,rfl,?_⟩;rw[qQ,O1];by_cases c0:aP p cs c.wd=[]
      · rw[if_neg (by rw[decide_eq_true c0];simp)]
        refine Sv.next ?_
        refine⟨st,W,I,C,rfl,?_,?_,?_⟩<;>rw[c0]<;>first|exact h1|exact h2|exact .inr c0
      · rw[if_pos (by rw[decide_eq_false c0];rfl)]
        refine Sv.append rfl ?_;refine Ev.var rfl ?_;have hl':=HU (p:=p) (cs:=cs) (wd:=wd);rw[Ba M uJ.rg c0] at h1;rw[Po M uJ.rg c0] at h2;have hsl:st.length<64:=by rw[<-h1,cP] at hl';omega
        refine⟨by rw[aj];omega,?_⟩;rw[show st.map gn++[gn (aP p cs c.wd)]=(st++[aP p cs c.wd]).map gn by rw[cX];rfl];refine⟨st++[aP p cs c.wd],_,I,C,rfl,by rw[u9];exact h1,h2, .inl ?_⟩;rcases h3 with h3|h3
        · rw[cP,kc,h3]
        · exact absurd h3 c0
    · rintro L ⟨l,W,I,C,rfl,g1,g2,g3⟩
      refine Sv.forL (Ev.var rfl ?_);refine⟨_,rfl,λv=>⟨λj ρ=>∃(g D:Bool) (S I C:Sl),ρ=[.d false (c5 p wd.length cs), .own V false (wd.map aT), .cu (dY az x dx a b p wd.length es many last), .d false (.dict (ls.map aH)), .d false (.list (ns.map .int)), .own A5 g ((xk c.wd ((aP p cs c.wd).take j)).map aT), .own A6 D (p5 ns ((i:Int)+1) (jc wd.length c) ((aP p cs c.wd).take j)),S, .own A8 W (l.map gn), .d true (.int (1+(i:Int))), .d true (gn (aP p cs c.wd)),I,C],⟨_,_,_,_,_,rfl⟩,?_,?_⟩⟩
      · rintro j d ρ hd ⟨g,D,S,I,C,rfl⟩
        obtain⟨m,hm,rfl⟩:=fY hd;obtain⟨b1,b2,b3,b4,b5⟩:=oV M (cS hm) uJ.rg;obtain⟨c1,c2,_,_⟩:=A4 (cS hm);have hnl:=Z.nl;have T:cI (ns.map ba) m.2.1=some (.int (ns.getD m.2.1.toNat 0)):=jT c1 (by rw[bu,iM,aL ∅];rfl);rfl';refine⟨m.1,m.1.toNat,rfl,wR b1 (by rw[aj,nW];omega),?_⟩;rfl';refine⟨m.1,m.1.toNat,rfl,wR b1 (by rw[Le,xN];omega),?_⟩;show∃(g D:Bool) (S I C:Sl),(_:Rh)=[.d false (c5 p wd.length cs), .own V false (wd.map aT), .cu (dY az x dx a b p wd.length es many last), .d false (.dict (ls.map aH)), .d false (.list (ns.map .int)), .own A5 g ((xk c.wd ((aP p cs c.wd).take (j+1))).map aT), .own A6 D (p5 ns ((i:Int)+1) (jc wd.length c) ((aP p cs c.wd).take (j+1))),S, .own A8 W (l.map gn), .d true (.int (1+(i:Int))), .d true (gn (aP p cs c.wd)),I,C];rw[xj hm,xr,Ud,zB,show(i:Int)+1=1+i by omega];exact⟨_,_,_,_,_,rfl⟩
      · rintro ρ ⟨g,D,S,I,C,rfl⟩
        rw[aj,jO];show∃(st:List (List cN)) (g D W:Bool) (S Y xO I C:Sl),(_:Rh)=[.d false (c5 p wd.length cs), .own V false (wd.map aT), .cu (dY az x dx a b p wd.length es many last), .d false (.dict (ls.map aH)), .d false (.list (ns.map .int)), .own A5 g ((bG p wd.length es (i+1)).wd.map aT), .own A6 D (jc wd.length (bG p wd.length es (i+1))),S, .own A8 W (st.map gn),Y,xO,I,C]/\st++iO p cs (bG p wd.length es (i+1)).wd=iO p cs wd/\j5 p cs (bG p wd.length es (i+1)).wd=j5 p cs wd/\(st.length=i+1\/aP p cs (bG p wd.length es (i+1)).wd=[]);rw[eS,s1,s2];exact⟨l,_,_,_,_,_,_,_,_,rfl,g1,g2,g3⟩
  rintro ρ ⟨st,g,D,W,S,Y,xO,I,C,rfl,h1,h2,h3⟩;have en:(((wd.map aT).length:Int)+2-1).toNat=wd.length+1:=∅
  rw[en] at h1 h2 h3⊢;have hE:bG p wd.length es (wd.length+1)=jg p wd.length es:=by unfold jg;rw[show((wd.length:Int)).toNat=wd.length by omega]
  rw[hE] at h1 h2 h3⊢;obtain⟨R,i2,i3⟩:=rM M hok (((wd.length:Int)).toNat+1);have R:(jg p wd.length es).wd.length=((wd.length:Int)).toNat:=R;have hml:=HU (p:=p) (cs:=cs) (wd:=wd);have h0:aP p cs (jg p wd.length es).wd=[]:=by
    rcases h3 with h3|h3
    · rw[<-h1,cP,h3] at hml;omega
    · exact h3
  rw[GO h0,ic] at h1;rw[Mq h0] at h2;have hcw:(jg p wd.length es).wd.length=wd.length:=∅
  have hal:∀(n:Nat) (w:Wo),w.length<=10000->tO (n+2) (fL w):=λn w h=> .inr ⟨_, .inl rfl,by rw[aj];exact h,λe he=>by
    obtain⟨o,_,rfl⟩:=cM.mp he;cases o<;>exact .inl rfl⟩
  have Jt:tO 5 (.tuple [fL (jg p wd.length es).wd, .list (st.map gn)]):= .inr ⟨_, .inr rfl,by show 2<=10000;omega,λe he=>by
    rcases aM.mp he with rfl|he
    · exact hal 2 _ ∅
    · rw[aF.mp he]
      refine .inr ⟨_, .inl rfl,by rw[aj,h1];omega,λe he=>?_⟩;obtain⟨ms,O,rfl⟩:=cM.mp he;refine .inr ⟨_, .inl rfl,?_,λe he=>?_⟩
      · rw[aj]
        have:=Qp M hr ms (by rw[<-h1];exact O);omega
      obtain⟨m,_,rfl⟩:=cM.mp he;refine .inr ⟨_, .inr rfl,by show 3<=10000;omega,λe he=>?_⟩;simp only[aM,dX,or_false] at he;rcases he with rfl|rfl|rfl<;>exact .inl rfl⟩
  refine Sv.seq ?_;refine Sv.mJ (Tv.not (Tv.rR (Ev.lend 5 rfl (Ev.lend 8 rfl (Ev.gK (wJ 5) ?_)))));refine Av.cons (Ev.gK aeP ?_);refine Av.cons (Ev.gK VM ?_);rfl';refine⟨rfl,p,wd.length,cs,rfl,by have:=hN.2.2.1;omega,λfc=>?_⟩;rfl';refine⟨rfl,p,wd.length,cs,wd,rfl,hN,hW,hwl,?_⟩;rfl';refine⟨rfl, .tuple [fL (jg p wd.length es).wd, .list (st.map gn)],by rw[h1,h2];rfl,Jt,rfl,rfl,_,rfl,?_⟩;rw[if_neg ⋯];refine Sv.next ?_
  refine Sv.xm 5 rfl ?_;refine Sv.xm 6 rfl ?_;refine Sv.nA (bz.c9 1 (bz.JA (bz.gK (wJ 5) (rD.cons (bz.mq WQ rfl rfl (aC.is rfl) ?_)))));refine Av.nil ⟨rfl,x,dx,a,b,p,wd.length,many,es,last,rfl,rfl,hok,rF,jI,λd' hd'=>?_⟩;rfl';refine⟨rfl,fL (jg p wd.length es).wd,rfl,hal 3 _ ∅,_,rfl,?_⟩;rw[if_pos rfl];have G3:(jc wd.length (jg p wd.length es)).length=wd.length:=by rw[xN];omega
  refine bz.gK (wJ 5) (rD.cons (mV.ev (mV.Oy (J:=λk c' r=>∃d,LastOk p wd.length es d/\c'=dY az x dx a b p wd.length es many d/\r=(jc wd.length (jg p wd.length es)).take k) Y5 rfl rfl ?_ ?_)))
  · rintro k c' r ⟨d,_,rfl,_⟩
    exact aC.is rfl
  rfl';refine⟨wd.length,by rw[uo],∅,⟨d', .inr hd',rfl,rfl⟩,?_,?_⟩
  · rintro k c' r hk ⟨d,hd,rfl,rfl⟩
    refine⟨x,dx,a,b,p,wd.length,many,k,es,d,rfl,rfl,hok,hd,rF,∅,∅,λX hd2=>⟨X, .inr hd2,rfl,?_⟩⟩;refine(xj ?_).symm;unfold jc;rw[bu,jA ∅]
    rfl
  · rintro c' r ⟨d,hd,rfl,rfl⟩
    rw[qp ∅];rfl';refine⟨rfl, .list (jc wd.length (jg p wd.length es)),rfl, .inr ⟨_, .inl rfl,∅,λe he=>?_⟩,?_⟩
    · obtain⟨a',_,rfl⟩:=cM.mp he
      cases ew:(jg p wd.length es).wh (a':Int) with
      |none=>exact .inl rfl
      | some w' =>
        rcases Tn _ ew with ⟨k,rfl⟩|⟨k,u,rfl⟩
        · refine .inr ⟨_, .inr rfl,(by decide:2<=10000),λe he=>?_⟩
          simp only[aM,dX,or_false] at he;rcases he with rfl|rfl<;>exact .inl rfl
        · refine .inr ⟨_, .inr rfl,(by decide:3<=10000),λe he=>?_⟩
          simp only[aM,dX,or_false] at he;rcases he with rfl|rfl|rfl<;>exact .inl rfl
    refine⟨_,_,_,rfl,?_⟩;intro aA v' H' hv;exact⟨[_,_],_,_, .mk rfl (.mk rfl .xK), .mk ⟨rfl,rfl,λa m=>m⟩ (.mk ⟨rfl,rfl,λa m=>m⟩ .xK),q _ hd,hv⟩
def yj(C:ar):CF:=λc ds Φ=>∃(x dx a b:ar) (p n many k:Int) (es:aZ) (last:PyData),c=dY C x dx a b p n es many last/\ds=[.int k]/\bD p n many es/\(∃d,(k,d)∈es)/\Φ (dY C x dx a b p n (jC es k) many .none) true .none
def Nc:i9 (yj C):=by
 intro c ds Φ Ψ hm z;revert hm;walk_at "mo";exact λq=>z _ _ _ q
def aga:bS ["self","number"] ["self","number"] (aI sM):=⟨rfl,rfl,rfl,by decide+kernel,rfl,by decide+kernel,by decide+kernel⟩
def X1(F:bI K "take_back" "Desk.take_back" sM f fd){az:ar}(i:cD K az)(g:bf K az "last")(l:bf K az "letter_deeds")(o:bf K az "check_deeds"):
  bA P w K mg base bF 1 f fd ["self","number"] (cz 2 (yj az)):=by
 refine F.ok aga (λvs H Q E h=>h.1) (λcdv A outer s H vs Q E hr h=>?_);obtain⟨_,nb,c,ws,ds,rfl,C,dH,T,ez,I,hF⟩:=h;obtain⟨Φ,G,hF⟩:∃Φ:Cu->Pd,(∀c' f d v H',Φ c' f d->kh c c' H H'->c'.P (λa=>nb a\/a∈c'.F) H'->af (λa=>nb a\/a∈c'.F\/(f=true/\H a≠none)) H' d v->Q v H')/\yj az c ds Φ:=⟨_,λc' f d v H' q=>q v H',hF⟩;obtain⟨x,dx,a,b,p,n,many,k,es,last,rfl,rfl,hok,⟨d,hd⟩,q⟩:=hF;refine⟨_,(@ay _ _ _ _ _ (@dZ _ _ _ _ _ _ _ _ (@bN _ _ _ _ _ _ _ _ (LA hr.units) (pv 1) (@dS _ _ _ _ _ (pv 0) rfl) (by with_unfolding_all rfl)) (@aE _ _ _ (@kI _ _ _ _ (o8 KP HJ Mi Uu (@dS _ _ _ _ _ (pv 0) rfl) (@aa _ _ _ _ _ (pv 1) ai rfl)) (by rfl))) (@aE _ _ _ (@dZ _ _ _ _ _ _ _ _ (@bN _ _ _ _ _ _ _ _ (LA hr.units) (pv 1) (@dS _ _ _ _ _ (pv 0) rfl) (by with_unfolding_all rfl)) (@aE _ _ _ (@kI _ _ _ _ (o8 KP HJ Mi Uu (@dS _ _ _ _ _ (pv 0) rfl) (@aa _ _ _ _ _ (pv 1) ai rfl)) (by rfl))) (@aE _ _ _ Cr)))) (@aE _ _ _ #[4,jf])),?_⟩;refine Sv.k6 C dH T ez I G (ρ:=[.cu _, .d false _]) rfl ?_;clear G I;refine Sv.seq ?_;refine Sv.mJ (Tv.test (Ev.Q8 rfl i l rfl ?_));rfl';rw[FH];by_cases c1:dh (xp es) k=true
 .rw[if_pos c1];obtain⟨pl,e,m⟩:=Ax.mp c1;obtain⟨e1,e2⟩:=hok.ZM m;refine Sv.Uy rfl i l rfl ?_;rfl';have e3:dP "letter_deeds" (.cu (dI a (jz (xp es) k))) (jD p n a b es many last)=jD p n a b (jC es k) many last:=by
   unfold jD;rw[e1,e2]
   rfl
  change Sv _ [.cu (aC az x dx (dP "letter_deeds" (.cu (dI a (jz (xp es) k))) (jD p n a b es many last))), .d false (.int k)] _ _;rw[e3];refine Sv.kH rfl i g (.inr ⟨_,rfl⟩) (iQ rfl) ?_;rfl';exact⟨_,rfl,⟨rfl,rfl,λa m=>m⟩,q⟩
 rw[if_neg c1];refine Sv.mJ (Tv.test (Ev.Q8 rfl i o rfl ?_));rfl';rw[FH];by_cases c2:dh (bO es) k=true
 .rw[if_pos c2];obtain⟨prs,r,m⟩:=AZ.mp c2;obtain⟨e1,e2⟩:=hok.Vt m;refine Sv.Uy rfl i o rfl ?_;rfl';have e3:dP "check_deeds" (.cu (dI b (jz (bO es) k))) (jD p n a b es many last)=jD p n a b (jC es k) many last:=by
   unfold jD;rw[e1,e2]
   rfl
  change Sv _ [.cu (aC az x dx (dP "check_deeds" (.cu (dI b (jz (bO es) k))) (jD p n a b es many last))), .d false (.int k)] _ _;rw[e3];refine Sv.kH rfl i g (.inr ⟨_,rfl⟩) (iQ rfl) ?_;rfl';exact⟨_,rfl,⟨rfl,rfl,λa m=>m⟩,q⟩
 rw[if_neg c2]
 exact absurd hd (λm=>by
  cases d with
  |lt pl e=>exact c1 (Ax.mpr ⟨pl,e,m⟩)
  |ck prs r=>exact c2 (AZ.mpr ⟨prs,r,m⟩))
def kU:bS ["script","bag","way","back","p","whole","net","word","desk","letters","checks","k","some","place"] ["script"] (aI nR):=⟨rfl,rfl,rfl,by decide+kernel,rfl,by decide+kernel,by decide+kernel⟩
theorem XF(F:bI K "law" "law" nR f fd){az:ar}(ZZ:fQ P w K mg base az "take_back" 1 ["self","number"] (cz 2 (yj az)))(aea:Callee P w K mg base "_law_bag" 1 ["script"] (MN K))(J:Callee P w K mg base "_law_draw" 1 ["bag","many"] k7)(Wa:Callee P w K mg base "_law_prime" 2 ["bag"] (fV 1 IM))(acg:Callee P w K mg base "_law_letters" 3 ["bag","p","n"] (fV 3 J2))(aa1:Callee P w K mg base "_law_any" 5 ["bag","p","word","many","wide"] (fV 5 FZ))(agQ:Callee P w K mg base "_law_lossy" 2 ["bag","word"] (fV 2 Ft))(Z4:Callee P w K mg base "_law_told" 4 ["bag","net","word"] (w9 (EZ az)))(Rf:Callee P w K mg base "_law_right" 9 ["net","word","desk","letters","checks"] (CO [false,true,true,false,false] (G2 az)))(cB:mg "range"=none)(bP:mg "len"=none):
    bA P w K mg base bF 10 f fd ["script"] (yE K):=by
  refine F.ok kU (λvs H Q E h=>?_) (λcdv A outer s H vs Q E hr h=>?_)
  · obtain⟨a,ns,rfl,N,hl,q⟩:=h
    rfl
  obtain⟨a,ns,rfl,N,hl,q⟩:=h;refine⟨_,(@ay _ _ _ _ _ #[23,kU.nd,#[0,aea,@aa _ _ _ _ _ (pv 0) ai rfl]] (@ay _ _ _ _ _ #[17,kU.nd,(@aR _ _ _ _ _ _ _ _ rC #[0,J,@aa _ _ _ _ _ (pv 1) (@aa _ _ _ _ _ ak ai rfl) rfl] ak)] (@ay _ _ _ _ _ #[12,kU.nd,#[0,J,@aa _ _ _ _ _ (pv 1) (@aa _ _ _ _ _ ak ai rfl) rfl]] (@ay _ _ _ _ _ #[22,kU.nd,#[0,Wa,@aa _ _ _ _ _ (pv 1) ai rfl]] (@ay _ _ _ _ _ #[15,kU.nd,#[0,acg,@aa _ _ _ _ _ (pv 1) (@aa _ _ _ _ _ (pv 4) #[1,(@aR _ _ _ _ _ _ _ _ iA ak #[0,J,@aa _ _ _ _ _ (pv 1) (@aa _ _ _ _ _ (@aJ _ _ _ _ _ _ (c6 K) bY (@iX _ _ _ _ (@aa _ _ _ _ _ ak (@aa _ _ _ _ _ ak ai rfl) rfl)) (pv 2) (λ_ _=>rfl)) ai rfl) rfl])] rfl) rfl]] (@ay _ _ _ _ _ #[20,kU.nd,#[0,aa1,@aa _ _ _ _ _ (pv 1) (@aa _ _ _ _ _ (pv 4) (@aa _ _ _ _ _ (pv 5) #[5,#[0,J,@aa _ _ _ _ _ (pv 1) (@aa _ _ _ _ _ (@aJ _ _ _ _ _ _ (c6 K) bY (@iX _ _ _ _ (@aa _ _ _ _ _ ak (@aa _ _ _ _ _ ak ai rfl) rfl)) (pv 2) (λ_ _=>rfl)) ai rfl) rfl],(@aR _ _ _ _ _ _ _ _ iA ak #[0,J,@aa _ _ _ _ _ (pv 1) (@aa _ _ _ _ _ ak ai rfl) rfl])] rfl) rfl) rfl]] (@ay _ _ _ _ _ (@bh _ _ (7) _ _ _ _ kU.nd rfl (e0 rfl) #[0,agQ,@aa _ _ _ _ _ (pv 1) (@aa _ _ _ _ _ (pv 5) ai rfl) rfl] (by rfl) (by first|exact .inl rfl|exact .inr rfl|assumption)) (@ay _ _ _ _ _ (@gF _ _ _ _ _ _ #[0,Z4,@aa _ _ _ _ _ (pv 1) (@aa _ _ _ _ _ (pv 6) (@aa _ _ _ _ _ (pv 7) ai rfl) rfl) rfl] (@k9 _ (K) _ _ _ (3) _ rfl rfl (@dW _ _ _ _ _ (aY (i:=8) kU.nd rfl (bg rfl)) #[7,aY (i:=9) kU.nd rfl (bg rfl),aY (i:=10) kU.nd rfl (bg rfl)] (by rfl)) (by rfl) (by rfl)) (by rfl) (by rfl) (by rfl)) (@ay _ _ _ _ _ (@dZ _ _ _ _ _ _ _ _ (@rZ _ _ _ _ (@qK _ (K) _ _ rfl #[0,Rf,@aa _ _ _ _ _ (pv 6) (@aa _ _ _ _ _ (pv 7) (@aa _ _ _ _ _ (pv 8) #[5,pv 9,pv 10] rfl) rfl) rfl] (λ_=>rfl))) (@aE _ _ _ (@bE _ _ _ _ pL)) eV) (@ay _ _ _ _ _ #[10,@j6 _ _ _ _ _ _ rfl cB (@aa _ _ _ _ _ (pv 3) ai rfl) (by rfl),aY (i:=11) kU.nd rfl (bg rfl),@ay _ _ _ _ _ (sG (i:=12) kU.nd rfl rfl (eZ.of (show fU (aI nR) ["script","bag","way","back","p","whole","net","word","desk","letters","checks","k","some","place"] _ ["place","word"] [none,some 7]=true by decide+kernel)) (@j6 _ _ _ _ _ _ rfl cB (@aa _ _ _ _ _ #[9,bP,@aa _ _ _ _ _ (pv 7) ai rfl] ai rfl) (by rfl)) (λ_ _ _ _=>⟨#[3,(by show bx (["place","word"]:List Str);decide+kernel)],(pC (@bN _ _ _ _ _ _ _ _ qX (@aJ _ _ _ _ _ _ (c6 K) bY (pv 1) (pv 0) (λ_ _=>rfl)) jf (bM _))),(pv 0)⟩)) (@aE _ _ _ (@dZ _ _ _ _ _ _ _ _ (@bN _ _ _ _ _ _ _ _ (BD hr.units) (pv 12) (@iX _ _ _ _ ai) (bM _)) (@ay _ _ _ _ _ (@bh _ _ (13) _ _ _ _ kU.nd rfl (bg rfl) (@aJ _ _ _ _ _ _ (c6 K) bY (pv 12) #[0,J,@aa _ _ _ _ _ (pv 1) (@aa _ _ _ _ _ #[9,bP,#[1,pv 12]] ai rfl) rfl] (λ_ _=>rfl)) (by rfl) (by first|exact .inl rfl|exact .inr rfl|assumption)) (@ay _ _ _ _ _ (@kI _ _ _ _ #[18,ZZ,pv 8,#[1,@aJ _ _ _ _ _ _ (jG) lO (pv 9) (pv 13) (λ_ _=>rfl)]] (by rfl)) (@ay _ _ _ _ _ (@gF _ _ _ _ _ _ jf (iT (pv 7) (pv 13) set_list) (by rfl) (by rfl) (by rfl)) (@aE _ _ _ (@dZ _ _ _ _ _ _ _ _ (@rZ _ _ _ _ (@qK _ (K) _ _ rfl #[0,Rf,@aa _ _ _ _ _ (pv 6) (@aa _ _ _ _ _ (pv 7) (@aa _ _ _ _ _ (pv 8) #[5,pv 9,pv 10] rfl) rfl) rfl] (λ_=>rfl))) (@aE _ _ _ (@bE _ _ _ _ pL)) eV))))) eV))] (@aE _ _ _ (@bE _ _ _ _ pL)))))))))))),?_⟩;walk_at "st";refine⟨a,ns,rfl,N,hl,λb l H1 s1 B B1=>?_⟩;have hS1:=s1.seq N;have key:∀(t:TS) (D:Ends),(∀H,D.rt (.bl true) H)->Sv (Jc b l H1) [.raw (.ref a), .aq, .no, .no, .no, .no, .no, .no, .no, .no, .no, .no, .no, .no] t {nx:=λ_=>False,rt:=λ_ d=>d= .bool true}->t D [some (.ref a),some (.ref b),none,none,none,none,none,none,none,none,none,none,none,none] H1:=λt D d2 h=>h _ _ _ D (J9 (m:=12) B1) (Xd d2);refine R.Rj ?_;dsimp only;refine key _ _ (λH=>?_) ?_;· exact q _
  clear key q;rfl';intro r r0 g;have G:0<=r/7:=vF r0 ⋯;have hw1:r/7<2:=∅
  rfl';intro back bk0 bk1;rfl';refine Ev.kW zl rfl ?_;rfl';refine⟨rfl,λp hp j9 M=>?_⟩;have p2:=hp.1;rfl';refine Ev.kW ZK rfl ?_;rfl';obtain⟨m,W,m0,m1⟩:=pick (L:=[9,30]) G (by show r/7<2;omega) (λx=>1<=x/\x<=30) ⋯;refine⟨_,W,_,rfl,∅,by unfold Sm;omega,λu u0 u1=>⟨_,rfl,?_⟩⟩;rfl';refine⟨rfl,p,1+u,rfl,p2,j9,∅,∅,λos U S=>?_⟩;have n:(os.map ba).length=os.length:=aj ..;rfl';refine Ev.kW B3 rfl ?_;rfl';obtain⟨m2,Za,m20,m21⟩:=pick (L:=[11,31]) G (by show r/7<2;omega) (λx=>1<=x/\x<=31) ⋯;refine⟨_,Za,_,rfl,∅,by unfold Sm;omega,λy y0 y1=>?_⟩;rfl';intro z z0 z1;refine⟨_,rfl,?_⟩;rfl';refine⟨rfl,p,y,2+z,os,rfl,hp,j9,∅,∅,S,∅,∅,∅,∅,λcs fc hcl hN e=>?_⟩;refine Gv.JU ?_;refine Sv.seq (Sv.YN (Ac.kW Pm rfl ?_));rfl';refine⟨rfl,os,rfl,∅,λc pP=>⟨rfl, .inl ⟨_,rfl,λA7=>?_⟩⟩⟩;obtain⟨hwl,FI⟩:=pP;have hwl:c.length=os.length:=hwl;have Z:∀x,some x∈c->0<=x/\x<p:=λx m=>by
    obtain⟨j,O⟩:=iW m;exact S x (cS (FI j x O))
  have rF:Bk p os.length:=⟨hp,j9,∅,∅⟩;refine Sv.seq (Sv.Vg M2 rfl rfl (yS _) (Ev.var rfl ?_));refine⟨p,os.length,cs,c,rfl,hp,j9,∅,∅,∅,e,Z,λx dx a1 a2 many zI ls ks RM Y UH=>⟨_,_,rfl,?_⟩⟩;have afQ:LastOk p os.length zI .none:= .inl rfl;refine Sv.seq ?_;refine Sv.c9 7 rfl ?_;refine Sv.Lz (m7.not (m7.rR (bz.Qa [7,8] [c9 A7 (c.map aT),dY az x dx a1 a2 p os.length zI many .none] Qy ⋯ (.mk rfl (.mk rfl .xK)) (LW rfl rfl) ?_)));refine iF.data (Ev.var rfl (iF.thing rfl (iF.thing rfl (iF.data (Ev.var rfl (iF.data (Ev.var rfl (iF.nil ⟨trivial,?_⟩))))))));have uy:∀{w:Wo},(∀x,some x∈w->0<=x/\x<p)->jj w:=λ{w} h x m=>by
    have:=h x m;unfold Sm;omega
  refine⟨A7,x,dx,a1,a2,p,os.length,many,cs,c,zI,ls,ks, .none,rfl,rfl,RM,∅,rF,afQ,∅,by rw[hwl];exact hN,uy Z,UH,λlast jI=>⟨_,rfl,?_⟩⟩;rw[if_neg ⋯];refine Sv.next ?_
  refine Sv.uq 7 rfl ?_;refine Sv.seq (Sv.tM ?_);rfl';refine⟨λi ρ=>∃(wd:Wo) (es:aZ) (last:PyData) (V:Bool) (I C J0:Sl),ρ=[.raw (.ref a), .aq, .d true (.int (r/7)), .d true (.int back), .d true (.int p), .d false (.list (os.map .int)), .d false (c5 p os.length cs), .own A7 V (wd.map aT), .cu (dY az x dx a1 a2 p os.length es many last), .d false (.dict (ls.map aH)), .d false (.list (ks.map .int)),I,C,J0]/\wd.length=os.length/\(∀x,some x∈wd->0<=x/\x<p)/\bD p os.length many es/\LastOk p os.length es last/\Bo cs wd es ls ks,⟨c,zI,last,_,_,_,_,rfl,hwl,Z,RM,jI,UH⟩,?_,?_⟩
  · rintro i d ρ ⟨hi,rfl⟩ ⟨wd,es,last,V,I,C,J0,rfl,hwl,hr,hok,jI,hB⟩
    have uo:(wd.map aT).length=wd.length:=aj ..;refine Gv.nN ?_;refine Sv.seq (Sv.agZ (aD.X4 7 rfl (aD.nZ ⋯ rfl ?_)));rfl';refine⟨true,λj ds=>∃rs:List Int,ds=rs.map .int/\∀y∈rs,0<=y/\y<j/\∃v,wd[y.toNat]?=some (some v),⟨[],rfl,λ_ m=>by cases m⟩,?_,?_⟩
    · rintro j d ds ⟨O,rfl⟩ hl' ⟨rs,rfl,hrs⟩
      have O:j<wd.length:=∅
      obtain⟨o,U⟩:∃o,wd[j]?=some o:=⟨_,aL O⟩;have T:cI (wd.map aT) (0+(j:Int))=some (aT o):=jT ∅ (by rw[show(0+(j:Int)).toNat=j by omega,bu,U];rfl);rfl';refine⟨by walk_at "wk",?_⟩;rfl';cases o with
      | none =>
        rw[if_neg ⋯];exact⟨rs,rfl,λy m=>by obtain⟨g1,g2,X⟩:=hrs y m;exact⟨g1,∅,X⟩⟩
      | some v =>
        rw[if_pos (show(!ue (aT (some v)))=true from rfl)];rfl';refine⟨rs++[(j:Int)],by rw[cX,show 0+(j:Int)=j by omega];rfl,λy m=>?_⟩;rcases fN.mp m with m|m
        · obtain⟨g1,g2,X⟩:=hrs y m;exact⟨g1,∅,X⟩
        · rw[aF.mp m];exact⟨∅,∅,v,U⟩
    · rintro ds hl' ⟨rs,rfl,hrs⟩
      have hrm:(rs.map ba).length=rs.length:=aj ..;refine⟨pZ.mpr λy m=>by obtain⟨_,_,rfl⟩:=cM.mp m;rfl,λA12=>?_⟩;refine Sv.mJ (Tv.lend 12 rfl ?_);rfl';refine⟨shaped_ints _,E6,_,rfl,?_⟩;rw[show(fI (rs.map ba)).eqv (fI (dj (λ(x:Fd)=>x.2) []))=(rs.map ba).isEmpty from L2.agn _];cases U6:rs with
      | nil =>
        rw[if_neg ⋯];refine Sv.next ?_
        exact⟨wd,es,last,V,_,_,_,rfl,hwl,hr,hok,jI,hB⟩
      | cons g r2 =>
        rw[if_pos (by rfl)];rw[<-U6];have hrl:0<rs.length:=by rw[U6];simp
        rfl';intro u u0 u1;have WY:u.toNat<rs.length:=by rw[aj] at u1;omega
        obtain⟨y,hy⟩:∃y,rs[u.toNat]?=some y:=⟨_,aL WY⟩;refine⟨u,rfl, .int y,jT u0 (by rw[bu,hy];rfl),?_⟩;obtain⟨g1,g2,v,hv⟩:=hrs y (cS hy);obtain⟨k,hk⟩:=hB.lv y.toNat v hv;rw[show((y.toNat:Nat):Int)=y by omega] at hk;have hm:(k,fR.lt y v)∈es:=(hB.lt k y v).mpr ⟨hk,g1,hv⟩;refine Gv.nN ?_;refine Sv.seq (Sv.I0 (bz.mq Nc rfl rfl (aC.is rfl) ?_));refine Av.cons (Ev.m9 ?_);rfl';refine⟨_,rfl,?_⟩;rfl';refine⟨_,hk,?_⟩;rfl';refine⟨rfl,x,dx,a1,a2,p,os.length,many,k,es,last,rfl,rfl,hok,⟨_,hm⟩,?_⟩;refine Sv.seq (Sv.Ie rfl ?_);rfl';refine⟨y,y.toNat,rfl,wR g1 (by rw[uo];omega),?_⟩;have hB2:=hB.out hok g1 hk hv;have SA:=hok.out k;have hr2:∀x,some x∈wd.set y.toNat none->0<=x/\x<p:=λx m=>by
          rcases N6 m with m|m
          · exact hr x m
          · cases m
        rw[show(wd.map aT).set y.toNat vE=(wd.set y.toNat none).map aT by rw[zB];rfl];have G3:(wd.set y.toNat none).length=os.length:=by rw[gR];exact hwl
        generalize wd.set y.toNat none=wd2 at*;generalize jC es k=sH at*;refine Sv.c9 7 rfl ?_;refine Sv.Lz (m7.not (m7.rR (bz.Qa [7,8] [c9 A7 (wd2.map aT),dY az x dx a1 a2 p os.length sH many .none] Qy ⋯ (.mk rfl (.mk rfl .xK)) (LW rfl rfl) ?_)));refine iF.data (Ev.var rfl (iF.thing rfl (iF.thing rfl (iF.data (Ev.var rfl (iF.data (Ev.var rfl (iF.nil ⟨trivial,?_⟩))))))));refine⟨A7,x,dx,a1,a2,p,os.length,many,cs,wd2,sH,ls,ks, .none,rfl,rfl,SA,∅,rF, .inl rfl,∅,by rw[G3];exact hN,uy hr2,hB2,λadk Wq=>⟨_,rfl,?_⟩⟩;rw[if_neg ⋯];refine Sv.uq 7 rfl (Sv.next ?_);exact⟨wd2,sH,adk,_,_,_,_,rfl,G3,hr2,SA,Wq,hB2⟩
  · rintro ρ ⟨wd,es,last,V,I,C,J0,rfl,_⟩
    rfl';exact rfl
end
local macro_rules| `(tactic|walk_at "bn")=> `(tactic|(intro _ _ _ _ _ _ us hl;first|(obtain⟨_,h⟩:=QH hl;subst h;rfl)|(obtain⟨_,_,h⟩:=ln2 hl;subst h;rfl)|(obtain⟨_,_,_,h⟩:=Sx hl;subst h;rfl)|(obtain⟨_,_,_,_,h⟩:=N8 hl;subst h;rfl)|(obtain⟨_,_,_,_,_,h⟩:=Yu hl;subst h;rfl)|(obtain⟨_,_,_,_,_,_,h⟩:=ln6 hl;subst h;rfl)|(obtain⟨_,_,_,_,_,_,_,h⟩:=ln7 hl;subst h;rfl)))
def all_mk:Tb:=by
 intro l w K h mg fa f0 f1 f2 f3 f4 f5 f6 f7 f8 f9 Mp S7 MT Uj TR LY SW Ls MU SX Ob L7 Uc Oa U8 Lf Li Qi KS Sf NT ML f32 MQ Pf CZ tR uA rJ ud tD t8 rS sA sO t6 t7 rH sS tU sJ X G LX Oq Fc Uv OZ Hu GF Jb De JK SV OY RD Uq Ul UK NH GY UJ LR LI SO Te NU K1 Tq Jo S9 QC LH UD Q9 S4 RN RC Jl L0 Oe MK Sg RX OA Nj UO Hf So RV MJ O8 Qq NG MW S0 JC T7 T4 PK Mc PN SN SD Lr Il LZ OC LL PU Sw RK Ui QY Gh Nq P4 Lk K9 KY Lq M3 Uz JR Nz SJ RE Pj NI Sy MV Pb HG KW Td Q5 P5 LB Ou K4 Me Kd RZ Uo L8 Sa Su TX R4 Ra E2 MC TM Tz OW QV MY Ow TV Hq Si Ml Qk MM RJ UR Mj Ng Iz Lc L6 P8 Rz T6 Lv SG U1 Jk O5 Rg PM MD SH ON Ub UM Gq Ug bU yH Ae DC yZ AA yJ D6 aO Au BB B0 CV AX Ct Cg az AM Ah zh Dc zp B5 CK kD lP oK lA oH oU mZ kY j8 jn jV jX mO jo d0 d1 d2 d3 d4 d5 d6 d7 d8 d9 DR zm AL BO Ce BP B8 zO AW Dz Ca C0 Dy zo zU Am zc Dm Cd zV CB D3 DX yF zw z7 zd zv Di Bp BZ zX Dn zf zj yM AF CU v7 AD DH Ay zu wL C6 Dg DP Ck wF Bh Dk yz zq DU zL Cm DM BS uS BA DN DG Ea uK CL D4 AS Bj Ak CS DB BF Du yb z5 DA C9 Aa xu CH z6 Dh yu vC yD Be DJ BH ye Bb AI CN Dd vo CG yC As yL vV Bu Br AH zG wo zg Dj D7 yy yW CY yT Df C5 Cy CI Ds Co zz;have e:=LX.symm.trans (cK X G z7);cases e;obtain⟨a0,_,F0⟩:=d0;have b0:=F0.binds (ps:=["p","a","b"]) (by walk_at "bn");obtain⟨a1,_,Q⟩:=d1;have b1:=Q.binds (ps:=["p","b"]) (by walk_at "bn");obtain⟨a2,_,F2⟩:=d2;have b2:=F2.binds (ps:=["p","pairs","word"]) (by walk_at "bn");obtain⟨C,_,F3⟩:=d3;have b3:=F3.binds (ps:=["p","n","pairs"]) (by walk_at "bn");obtain⟨c,_,g⟩:=d4;have b4:=g.binds (ps:=["n","place"]) (by walk_at "bn");obtain⟨a5,_,q⟩:=d5;have b5:=q.binds (ps:=["p","letter"]) (by walk_at "bn");obtain⟨a6,_,V⟩:=d6;have b6:=V.binds (ps:=["p","letter"]) (by walk_at "bn");obtain⟨a7,_,M⟩:=d7;have b7:=M.binds (ps:=["net","word","c"]) (by walk_at "bn");obtain⟨a8,_,E⟩:=d8;have b8:=E.binds (ps:=["p","pairs","rest","word"]) (by walk_at "bn");obtain⟨a9,_,H⟩:=d9;have b9:=H.binds (ps:=["net","word"]) (by walk_at "bn");obtain⟨a10,_,r⟩:=DR;have YJ:=r.binds (ps:=["net"]) (by walk_at "bn");obtain⟨Wv,_,Hs⟩:=zm;have b11:=Hs.binds (ps:=["net","word"]) (by walk_at "bn");obtain⟨WK,_,Z⟩:=AL;have YK:=Z.binds (ps:=["letter_deeds"]) (by walk_at "bn");obtain⟨m,_,T⟩:=BO;have Z8:=T.binds (ps:=["p","n","letter_deeds","check_deeds"]) (by walk_at "bn");obtain⟨Xy,_,HM⟩:=Ce;have Z0:=HM.binds (ps:=["script"]) (by walk_at "bn");obtain⟨XJ,_,y⟩:=BP;have b15:=y.binds (ps:=["bag","many"]) (by walk_at "bn");obtain⟨a16,_,x⟩:=B8;have b16:=x.binds (ps:=["number"]) (by walk_at "bn");obtain⟨z,_,O⟩:=zO;have b17:=O.binds (ps:=["bag"]) (by walk_at "bn");obtain⟨VB,_,JE⟩:=AW;have Wc:=JE.binds (ps:=["p","a","b"]) (by walk_at "bn");obtain⟨WZ,_,Km⟩:=Dz;have b19:=Km.binds (ps:=["p","pairs","word"]) (by walk_at "bn");obtain⟨a20,_,F⟩:=Ca;have b20:=F.binds (ps:=["bag","p"]) (by walk_at "bn");obtain⟨a21,_,Jw⟩:=C0;have b21:=Jw.binds (ps:=["bag","p"]) (by walk_at "bn");obtain⟨j,_,J⟩:=Dy;have b22:=J.binds (ps:=["bag","p","n"]) (by walk_at "bn");obtain⟨N,_,Hr⟩:=zo;have b23:=Hr.binds (ps:=["bag","n","wide"]) (by walk_at "bn");obtain⟨Yi,_,p⟩:=zU;have b24:=p.binds (ps:=["bag","p","n","many","wide"]) (by walk_at "bn");obtain⟨a25,_,f⟩:=Am;have Zf:=f.binds (ps:=["bag","p","word","wide"]) (by walk_at "bn");obtain⟨a26,_,n⟩:=zc;have Zh:=n.binds (ps:=["bag","p","word","many","wide"]) (by walk_at "bn");obtain⟨a27,_,Ig⟩:=Dm;have b27:=Ig.binds (ps:=["bag","p","word","many","wide"]) (by walk_at "bn");obtain⟨Y,_,Hj⟩:=Cd;have b28:=Hj.binds (ps:=["bag","word"]) (by walk_at "bn");obtain⟨B,_,u⟩:=zV;have ZX:=u.binds (ps:=["net"]) (by walk_at "bn");obtain⟨d,_,a⟩:=CB;have ux:=a.binds (ps:=["found","due"]) (by walk_at "bn");obtain⟨Wh,_,Ii⟩:=D3;have b31:=Ii.binds (ps:=["pairs","word"]) (by walk_at "bn");obtain⟨I,_,Ja⟩:=DX;have b32:=Ja.binds (ps:=["net","word"]) (by walk_at "bn");obtain⟨Vo,_,Fx⟩:=yF;have b33:=Fx.binds (ps:=["bag","net","word"]) (by walk_at "bn");obtain⟨L,_,A⟩:=zw;have b34:=A.binds (ps:=["net","word","desk","letters","checks"]) (by walk_at "bn");have F35:=jR (st:=nR) zd zv Di;have Rm:=jR (st:=sD) zX Dn zf;have ZE:=Rm.binds (ps:=["self","net","word"]) (by walk_at "bn");have Qg:=jR (st:=rX) AF CU v7;have b37:=Qg.binds (ps:=["self"]) (by walk_at "bn");have OP:=jR (st:=sC) Ay zu wL;have Yl:=OP.binds (ps:=["self"]) (by walk_at "bn");have Oh:=jR (st:=sq) DP Ck wF;have WC:=Oh.binds (ps:=["self"]) (by walk_at "bn");have Oj:=jR (st:=qI) yz zq DU;have Zl:=Oj.binds (ps:=["self","p","n","check_deeds"]) (by walk_at "bn");have O3:=jR (st:=tw) DM BS uS;have WG:=O3.binds (ps:=["self","found"]) (by walk_at "bn");have RT:=jR (st:=qV) DG Ea uK;have Vi:=RT.binds (ps:=["self","turn"]) (by walk_at "bn");have QU:=jR (st:=uC) AS Bj Ak;have b43:=QU.binds (ps:=["self","p","n"]) (by walk_at "bn");have QK:=jR (st:=tN) BF Du yb;have b44:=QK.binds (ps:=["self","place","letter"]) (by walk_at "bn");have Px:=jR (st:=tH) C9 Aa xu;have Xx:=Px.binds (ps:=["self","pairs","rest"]) (by walk_at "bn");have Tp:=jR (st:=uh) Dh yu vC;have b46:=Tp.binds (ps:=["self"]) (by walk_at "bn");have OR:=jR (st:=sM) DJ BH ye;have Yv:=OR.binds (ps:=["self","number"]) (by walk_at "bn");have Mu:=jR (st:=su) CN Dd vo;have b48:=Mu.binds (ps:=["self"]) (by walk_at "bn");have R9:=jR (st:=sX) As yL vV;have Xl:=R9.binds (ps:=["self"]) (by walk_at "bn");have L1:=jR (st:=tX) AH zG wo;have VV:=L1.binds (ps:=["self","place"]) (by walk_at "bn");have b:cD K bU:=⟨Ae,DC,yZ,AA⟩;have o:cD K aO:=⟨BB,B0,CV,AX⟩;have i:cD K az:=⟨Ah,zh,Dc,zp⟩;have Ke:=kR X G zg;have qT:=kR X G Dj;have pK:=kR X G D7;have mG:=kR X G yy;have j4:=kR X G yW;have bP:=kR X G CY;have cW:=kR X G yT;have II:=kR X G Df;have cB:=kR X G C5;have JL:=kR X G Cy;have kr:=kR X G CI;have qo:=kR X G Ds;have KQ:=kR X G Co;have qg:=kR X G zz;refine⟨PySem.W.fnOf "law" "law" (ie nR) (gX nR) (aI nR) .none Hu GF Jb Fc De JK,λs v=> .of_eq rfl,λbase _ _=>?_⟩;have XH:=Callee.mk' Q (IH (P:=l.prog) (w:=w) (base:=base) Q) b1 (cK X G a1);have acA:=Callee.mk' F0 (Zj (P:=l.prog) (w:=w) (base:=base) F0 XH) b0 (cK X G a0);have Zm:=Callee.mk' F2 (YU (P:=l.prog) (w:=w) (base:=base) F2) b2 (cK X G a2);have afd:=Callee.mk' F3 (DD (P:=l.prog) (w:=w) (base:=base) F3 bP) b3 (cK X G C);have Qz:=Callee.mk' g (Zb (P:=l.prog) (w:=w) (base:=base) g) b4 (cK X G c);have ahM:=Callee.mk' q (NA (P:=l.prog) (w:=w) (base:=base) q) b5 (cK X G a5);have Nn:=Callee.mk' V (VU (P:=l.prog) (w:=w) (base:=base) V ahM) b6 (cK X G a6);have LS:=Callee.mk' E (W5 (P:=l.prog) (w:=w) (base:=base) E acA Zm bP) b8 (cK X G a8);have YO:=Callee.mk' M (W8 (P:=l.prog) (w:=w) (base:=base) M LS) b7 (cK X G a7);have VC:=Callee.mk' H (Ws (P:=l.prog) (w:=w) (base:=base) H YO cB bP kr) b9 (cK X G a9);have ags:=Callee.mk' r (Hw (P:=l.prog) (w:=w) (base:=base) r cW) YJ (cK X G a10);have age:fQ l.prog w K mg base bU "step" 6 ["self"] (cz 1 (uI bU)):=⟨b,uA,_,Kk (P:=l.prog) (w:=w) (base:=base) Qg b oK lA VC,b37,⟨zj,yM,v7⟩⟩;have S:fQ l.prog w K mg base bU "mend" 7 ["self"] (cz 1 (uP bU)):=⟨b,rJ,_,ahH (P:=l.prog) (w:=w) (base:=base) OP age,Yl,⟨AD,DH,wL⟩⟩;have WS:fQ l.prog w K mg base bU "word" 1 ["self"] (cz 1 (xA bU)):=⟨b,ud,_,V1 (P:=l.prog) (w:=w) (base:=base) Oh b lA cW,WC,⟨C6,Dg,wF⟩⟩;have XI:qB l.prog w K mg base bU "Mender" 2 ["self","net","word"] (cz 3 (vW bU)):=⟨tR,_,adT (P:=l.prog) (w:=w) (base:=base) Rm b oK lA ags cW,ZE,⟨yJ,Bp,BZ,D6⟩,cK X G yH⟩;have X7:=Callee.mk' Hs (adE (P:=l.prog) (w:=w) (base:=base) Hs S WS XI) b11 (cK X G Wv);have Wf:=Callee.mk' Z (KJ (P:=l.prog) (w:=w) (base:=base) Z kr) YK (cK X G WK);have D:fQ l.prog w K mg base aO "take" 1 ["self","found"] (cz 2 (vq aO)):=⟨o,t8,_,ac3 (P:=l.prog) (w:=w) (base:=base) O3 o kD lP mZ kY,WG,⟨zL,Cm,uS⟩⟩;have abX:fQ l.prog w K mg base aO "found_in" 4 ["self","turn"] (qG 2 (wz aO)):=⟨o,rS,_,ZL (P:=l.prog) (w:=w) (base:=base) RT o kY oU oH kD LS,Vi,⟨BA,DN,uK⟩⟩;have XU:qB l.prog w K mg base aO "Finding" 1 ["self","p","n","check_deeds"] (cz 4 (xq aO)):=⟨tD,_,Vr (P:=l.prog) (w:=w) (base:=base) Oj o oH oU kD lP mZ kY kr bP cB,Zl,⟨Ct,Bh,Dk,Cg⟩,cK X G Au⟩;have VG:=Callee.mk' T (afz (P:=l.prog) (w:=w) (base:=base) T o kD lP D abX XU Wf) Z8 (cK X G m);have Zq:=Callee.mk' HM (Xa (P:=l.prog) (w:=w) (base:=base) HM Ke) Z0 (cK X G Xy);have m6:=Callee.mk' y (VJ (P:=l.prog) (w:=w) (base:=base) y bP) b15 (cK X G XJ);have abH:=Callee.mk' x (y3 (P:=l.prog) (w:=w) (base:=base) x cB) b16 (cK X G a16);have afA:=Callee.mk' O (Yk (P:=l.prog) (w:=w) (base:=base) O m6 abH) b17 (cK X G z);have Tw:=Callee.mk' JE (Yc (P:=l.prog) (w:=w) (base:=base) JE) Wc (cK X G VB);have TJ:=Callee.mk' Km (OH (P:=l.prog) (w:=w) (base:=base) Km KQ) b19 (cK X G WZ);have afF:=Callee.mk' F (PQ (P:=l.prog) (w:=w) (base:=base) F m6) b20 (cK X G a20);have TF:=Callee.mk' Jw (T2 (P:=l.prog) (w:=w) (base:=base) Jw m6) b21 (cK X G a21);have afh:=Callee.mk' J (Yj (P:=l.prog) (w:=w) (base:=base) J m6 afF cB mG II) b22 (cK X G j);have SE:=Callee.mk' Hr (x9 (P:=l.prog) (w:=w) (base:=base) Hr m6 kr cW JL cB) b23 (cK X G N);have Xj:=Callee.mk' p (ae5 (P:=l.prog) (w:=w) (base:=base) p TF SE m6 cB cW bP) b24 (cK X G Yi);have Wm:=Callee.mk' f (YH (P:=l.prog) (w:=w) (base:=base) f TJ TF SE Tw bP) Zf (cK X G a25);have WT:=Callee.mk' n (ZO (P:=l.prog) (w:=w) (base:=base) n Wm bP cB) Zh (cK X G a26);have aha:=Callee.mk' Ig (agu (P:=l.prog) (w:=w) (base:=base) Ig Xj m6 WT bP) b27 (cK X G a27);have ac0:=Callee.mk' Hj (Fm (P:=l.prog) (w:=w) (base:=base) Hj m6) b28 (cK X G Y);have Xq:=Callee.mk' u (Wl (P:=l.prog) (w:=w) (base:=base) u cW) ZX (cK X G B);have ab8:=Callee.void (P:=l.prog) (w:=w) (base:=base) (k:=0) (sp:=cG 2 (tB 0)) a ux (cK X G d) R5;have Z5:=Callee.mk' a (wV (P:=l.prog) (w:=w) (base:=base) 0 a ab8 j4 cW qg qT bP pK mG qo cB) ux (cK X G d);have afe:=Callee.mk' a (wV (P:=l.prog) (w:=w) (base:=base) 1 a Z5 j4 cW qg qT bP pK mG qo cB) ux (cK X G d);have acR:=Callee.mk' a (wV (P:=l.prog) (w:=w) (base:=base) 2 a afe j4 cW qg qT bP pK mG qo cB) ux (cK X G d);have YY:=Callee.mk' a (wV (P:=l.prog) (w:=w) (base:=base) 3 a acR j4 cW qg qT bP pK mG qo cB) ux (cK X G d);have YR:=Callee.mk' a (wV (P:=l.prog) (w:=w) (base:=base) 4 a YY j4 cW qg qT bP pK mG qo cB) ux (cK X G d);have X0:=YR;have abR:=Callee.mk' Ii (Zs (P:=l.prog) (w:=w) (base:=base) Ii) b31 (cK X G Wh);have agw:=Callee.mk' Ja (YZ (P:=l.prog) (w:=w) (base:=base) Ja abR Tw TJ cB bP kr) b32 (cK X G I);have Qw:fQ l.prog w K mg base az "new_number" 1 ["self"] (cz 1 (sE az)):=⟨i,t7,_,Wx (P:=l.prog) (w:=w) (base:=base) Tp i jo mO,b46,⟨CH,z6,vC⟩⟩;have U:fQ l.prog w K mg base az "letter" 3 ["self","place","letter"] (cz 3 (wu az)):=⟨i,sO,_,Hm (P:=l.prog) (w:=w) (base:=base) QK i jn j8 jV Qw Qz Nn,b44,⟨CS,DB,yb⟩⟩;have XQ:fQ l.prog w K mg base az "check" 3 ["self","pairs","rest"] (cz 3 (uU az)):=⟨i,t6,_,ZJ (P:=l.prog) (w:=w) (base:=base) Px i j8 jX jn Qw Nn afd cW,Xx,⟨z5,DA,xu⟩⟩;have ad0:qB l.prog w K mg base az "Desk" 1 ["self","p","n"] (cz 3 (xV az)):=⟨sA,_,ZU (P:=l.prog) (w:=w) (base:=base) QU i j8 jn jV jX mO jo,b43,⟨B5,CL,D4,CK⟩,cK X G AM⟩;have WW:=Callee.mk' Fx (ae9 (P:=l.prog) (w:=w) (base:=base) Fx U XQ ad0 m6 cB bP cW) b33 (cK X G Vo);have Mh:fQ l.prog w K mg base az "found" 6 ["self"] (cz 1 (rV az)):=⟨i,sS,_,Jn (P:=l.prog) (w:=w) (base:=base) Mu i jo j8 jn jV jX VG,b48,⟨Bb,AI,vo⟩⟩;have t:fQ l.prog w K mg base az "known" 7 ["self"] (cz 1 (yf az)):=⟨i,tU,_,Zr (P:=l.prog) (w:=w) (base:=base) R9 Mh cW,Xl,⟨CG,yC,vV⟩⟩;have R:fQ l.prog w K mg base az "why" 7 ["self","place"] (cz 2 (uG az)):=⟨i,sJ,_,N1 (P:=l.prog) (w:=w) (base:=base) L1 i jn Mh Qz,VV,⟨Bu,Br,wo⟩⟩;have adZ:=Callee.mk' A (agy (P:=l.prog) (w:=w) (base:=base) A t R agw X0 X7 Xq cW cB bP) b34 (cK X G L);have WN:fQ l.prog w K mg base az "take_back" 1 ["self","number"] (cz 2 (yj az)):=⟨i,rH,_,X1 (P:=l.prog) (w:=w) (base:=base) OR i jo jV jX,Yv,⟨yD,Be,ye⟩⟩;exact XF F35 WN Zq m6 afA afh aha ac0 WW adZ cB bP
end K88
end
section
open PySem PySem.W PyProof.Rows
theorem PySem.Challenge.cw_fewchecks_k88_whole_desk_and_mender_holds : PySem.Challenge.rw_fewchecks_k88_whole_desk_and_mender.Holds := by
 w_on
 o_law
 k_head
 (case hw=>w_witness2)
 k_fill
 refine K88.walk (l:=PySem.Challenge.rw_fewchecks_k88_whole_desk_and_mender) rfl rfl (λw h Y=>PySem.W.kIn_of Y) ?F
 case F=>
  intro w mg fa h KX G hmg
  refine' K88.all_mk KX G hmg ..
  any_goals first|(refine' L2.aX.mk ..;any_goals k_is)|k_is
end
