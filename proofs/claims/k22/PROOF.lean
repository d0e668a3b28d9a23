import PyProof.Rows.All
import Wide.All
import OpenK.AllK
import Wide.FinOn
import Lean
import PyProof.EqAt
import PyProof.EqKinds
import PyProof.TupleCall
import PySem.Challenge.RW_fewchecks_k22_a_round
set_option Elab.async false
set_option linter.all false
set_option maxHeartbeats 0
set_option maxRecDepth 100000
set_option compiler.extract_closed false
section
local macro_rules | `(tactic| omega) => `(tactic| first | lia | omega (config := {}))
local macro_rules|`(∅)=>`(by omega)
local macro_rules|`(⋯)=>`(by decide)
local macro_rules | `(tactic| rfl') => `(tactic| walk_at "dt")
open And renaming intro->o5
open Array renaming length_toList->cX,size_extract->fB,toList_append->g9,getElem?_toList->iW,toList_push->jT,getElem?_eq_getElem->kJ,size_append->mV,getElem?_eq_some_iff->rV,size_push->sS,mem_toList_iff->tX,size_reverse->xW,getD_eq_getD_getElem?->D6,getElem?_push->zC,getElem?_eq_none->Ak,toList_reverse->Bm,mem_of_getElem?->Cc,append_empty->CC,toList_modify->zM,getElem?_append->Le,getElem?_extract_of_lt->IJ,toList_setIfInBounds->EH,getElem?_extract->GV,append_assoc->kv,toList_map->nh,size_map->qs
open Bool renaming false_ne_true->bT,and_eq_true->eZ,false_eq_true->kj,or_false->nY,false_or->nV,eq_iff_iff->pO,not_true->sV,true_or->tE,eq_false_iff->Bj,not_eq_true->nP,not_false->p0,true_and->r7,bne_true->sh
open Classical renaming byContradiction->iS,choose_spec->Hz,choose->nM
open False renaming elim->dC
open ForInStep renaming yield->dc,done->hF
open Function renaming comp_def->md
open Int renaming emod_nonneg->gP,emod_lt_of_pos->gM,mul_assoc->lW,mul_comm->oS,mul_sub->nW,mul_ediv_add_emod->qo,zero_mul->tu,mul_le_mul_of_nonneg_left->rQ,ediv_nonneg->xP,sub_zero->uT,natAbs_dvd_natAbs->yi,emod_eq_of_lt->vU,mul_one->B7,mul_add->Dh,natAbs_mul->Cs,le_of_dvd->zJ,ediv_le_self->Ax,mul_le_mul->Bo,mul_zero->BQ,eq_ofNat_of_zero_le->Ga,gcd_eq_zero_iff->Ja,gcd->h9,gcd_dvd_right->ml,lt_trichotomy->mr,toNat_natCast->mx,emod_add_emod->my,gcd_dvd_left->nB,natCast_mul->oy,toNat->pb,mul_nonneg->pq,le_of_lt->sC,one_mul->uM,mul_neg->uU,sub_mul->u3
open List renaming length_map->ak,mem_cons->aA,mem_singleton->aN,getElem?_eq_getElem->aQ,lookup_cons->aZ,getElem?_set_ne->bu,map_cons->bw,mem_cons_of_mem->bA,getElem?_eq_some_iff->bH,mem_cons_self->bY,getElem?_map->cB,getElem?_set_self->cD,not_mem_nil->cK,size_toArray->cT,mem_of_getElem?->c8,nodup_cons->dU,length_cons->eY,map_append->e7,mem_append->fK,getElem?_append_left->fG,append_assoc->fJ,mem_map->fk,getElem?_append_right->gb,getElem?_replicate->fZ,length_append->gx,append_nil->ic,getElem_mem->iA,length_set->iQ,mem_append_right->je,set_set->jx,length_singleton->j8,cons_append->j5,getElem?_cons_succ->jS,flatMap_cons->jN,take_length->jQ,length_take->kh,getD_eq_getElem?_getD->ko,take_append_drop->kP,getElem?_of_mem->kI,mem_filter->lM,ext_getElem?->lD,perm_append_comm->lU,map_map->lI,filter_append->lg,length_eq_zero_iff->mP,getElem?_eq_none->mT,nodup_append->nj,find?_cons->m8,any_cons->nH,filterMap_cons->qd,all_eq_true->pF,all_cons->oW,mem_flatMap->pR,mem_range->qX,mem_append_left->qY,drop_eq_getElem_cons->sO,filter_cons_of_pos->sL,filter_cons_of_neg->q9,any_eq_true->wR,drop_zero->uE,map_congr_left->uJ,pairwise_map->yj,range_succ->uz,mem_filterMap->AR,of_mem_zip->Dq,length_drop->z5,map_nil->Ae,take_add_one->B4,sum_append->yR,length_eraseIdx_of_lt->CM,range_succ_eq_map->yT,length_nil->B6,take_of_length_le->Aq,drop_of_length_le->BO,reverse_perm->BW,flatMap_append->Ca,getElem?_take_of_lt->EW,eraseIdx_cons_succ->Eb,length_dropLast->JB,filterMap_cons_some->Lw,pairwise_lt_range->Im,getElem?_toArray->E2,pairwise_iff_getElem->Ec,set_append_right->Lk,eraseIdx_append_of_length_le->Jg,mem_of_mem_take->IE,getElem?_append->LL,ne_nil_of_length_pos->Gk,dropLast_concat_getLast->EK,getLast_eq_getElem->EZ,replicate_succ'->HV,range->bp,Nodup->cf,replicate->cj,lookup->da,map->df,zipWith->g6,take->jt,filter->kn,set_cons_zero->lx,pairwise_cons->lO,length_range->me,reverse_cons->mi,getElem_map->nk,length->oj,foldl_cons->o3,take_succ->ql,take_take->qr,map_set->tq,drop->w7
open List.Nodup renaming length_le_of_subset->BV
open List.Pairwise renaming nil->v3
open List.Perm renaming append_left->kC,refl->Dp,append_right->yX,trans->oT,swap->xh,cons->xi
open List.cons renaming inj->sD
open Nat renaming le_refl->aF,ne_of_lt->dz,lt_of_lt_of_le->eG,zero_le->eW,le_trans->fX,lt_irrefl->jk,le_of_lt->j4,mul_mod->lz,le_of_eq->mj,lt_succ_of_lt->mh,lt_succ_self->oH,ne_of_gt->pe,le_succ->pK,lt_trans->rM,add_zero->qA,mul_assoc->tR,mul_comm->rq,lt_of_le_of_lt->uA,mod_lt->uf,sub_self->xN,pow_add->uY,le_of_not_lt->Bs,lt_or_eq_of_le->DG,lt_trichotomy->D3,lt_of_lt_of_eq->B9,min_eq_left->C1,zero_add->De,mul_one->DU,zero_mul->D5,div_add_mod->DW,mod_mod->Bw,mod_mod_of_dvd->zq,one_mul->CH,le_of_dvd->za,dvd_of_mod_eq_zero->J5,le_of_ble_eq_true->Hv,Coprime->h8,pos_of_ne_zero->lr,add_sub_cancel->lE,mod_eq_of_lt->nz,mul_le_mul->qx,lt_or_ge->so,mul_zero->sF,pow_zero->sT,log2_lt->uj,pow_mul->vb,pow_mod->vc,gcd->vh
open Nat.Coprime renaming pow_left->tx
open Nat.succ renaming inj->vf
open Ne renaming symm->bJ
open Option renaming some_ne_none->dS,map_eq_some_iff->jJ,isSome_map->Dz,isSome_iff_exists->Gr,isNone_iff_eq_none->J7,getD_none->nf,map_some->ox,none->t5
open Option.some renaming inj->ie,injEq->wb
open Or renaming inl->a5,inr->e6
open PyProof.Rows renaming boot_list->jR,boot_isinstance->kO,callWith_type1->vL,boot_sorted->yP,boot_int->C4,boot_tuple->EI,boot_bool->Eh,boot_str->Jp,wpS_bind->az,wpS_pure->a3,Keyed->a4,SortSt->bo,arrOf->cc,wpS_forRange->cZ,IntsAre->ee,wpS_mono->eA,wpS_modify->eP,firstMet->fm,failedOf->gv,oneType'->gw,wpS_get->g0,elem'->g4,setPending->hM,pairsOf->h7,seqObj->ik,subscriptTail_builtinR->il,AllBare->iz,wpS_lift->j1,boot_range->j2,pairsOf_toList->kf,subscriptTail->kS,firstMet_succ->lh,listUpdate_at->lL,envOfC->mI,callWith_builtin1->mK,mem_zip_self->mW,pairsOf_size->m4,entry_list_sort->oQ,seqEpoch_at->pa,slot_list_sort->qa,args_list_sort->qc,sortedHeap_old->qk,sortedHeap_at->sg,boot_abs->td,boot_sum->tf,boot_min->ti,boot_set->tj,boot_all->tm,minRun'->va,bubble->vT,numOf->xa
open PyProof.Rows.F renaming plain_set_update_loop->Ac,entry_set_update_loop->hZ
open PyProof.Rows.SortSt renaming mk'->rl
open PySem renaming boot_len->iU,mem_of_lookup->nI,wpAny_bind->ae,Value->ag,Shared->ar,Addr->aw,wpAny_pure->ax,model->a6,Program->be,mainGlobals->bg,starEach->cn,rawInt->cq,World->cx,Around->cC,wpAny_call_entry->c6,wpAny_newObj_type->de,wpAny_holding->dk,wpAny_setState_of->du,compareOp->dy,codeAny_builtin->dA,wpAny_passesOwn->ec,pickOrder->ei,Heap->ek,SetTable->el,wpAny_callSpecial?_slot->en,wpAny_askSetting->eo,wpAny_mono->er,Expr->eu,unsupported->eD,sysModules->eI,FuncData->eJ,NameKind->eL,wpAny_setField->eQ,wpAny_rule->eS,wpAny_Call_Name_kw->e0,scanBound->fh,plainId_quiet->fo,Stmt->ft,wpAny_truthy_bool->fw,assignEach->fx,foldedSetIterable->fA,sliceBounds->fD,fits_of_scanBound->fH,wpAny_pyIter_slot->fI,bootBuiltins->fR,codeAny_mono->gd,builtinLookup_eq_fast->gg,wpAny_attempt->gq,wpAny_execs_nil->gL,letOwnedTupleGo->gN,Builtin->hh,isSubtype_type->hB,wpAny_pyIter_list->hG,Scope->hQ,binaryOp->hR,sizeLine_eq->hU,attributeBase->hV,backTo->ij,typeLookup_type->jf,wpAny_ite_split->js,pyNext->kb,wpAny_runValue->ke,wpAny_setEntries_of->km,wpAny_standAt->ky,relayAll->la,setField->lj,wpAny_newList->ls,wpAny_assign_Name->lZ,slot_list_getitem->l1,callerA->l3,wpAny_storeSet_of->l9,setNext->ma,setsByText->mc,wpAny_pyIter_enum->mu,valueAt->mv,setNextDrawn->mN,wpAny_execs_cons->m9,wpAny_isInstance->ng,GenState->nR,tupleKind->n4,swapsWith->n7,getMethod->oe,BindsTo->og,keywordEach->oi,seqIndex_of->oo,subscripted->ot,codeAny_of_tree->oC,drawOrder->oI,wpAny_specialOf->oL,wpAny_updateSeq->oP,recursionLimit->pk,entryFor_alias->pz,firstArgMember->pE,wpAny_seqItems->pV,builtinsNs->qy,wpAny_Name->qK,assign->q4,wpAny_load->q5,wpAny_call->q7,intKind_is->q8,intBits_le_64->rA,evalPart_none->rB,call_list_seq->rG,raiseNew->r3,cellsFrom->sk,argsOk->sv,bindL->t2,bindC->t4,newList->ui,collect->u4,pyIter->vt,backToKw->vv,compEnvC->vx,compPost->vy,entryFor->vN,cLine->wx,atKey->xc
open PySem.Around renaming under_plainId->oM,under->mB
open PySem.Builtin.Frozenset renaming updateFrom->nT,newClass->ph,addrOf->rf,sizeOf->rh,slot0->r4
open PySem.Builtin.Int renaming intBits->kk
open PySem.Builtin.List renaming listExtendWith->eF,listLengthHint->gT,listSameRef->rk
open PySem.Builtin.Range renaming rangeSize->rr
open PySem.Calls renaming Name_function_global->HU,call_function_entry->Ho,callWith_builtin->iq
open PySem.Code renaming isFrame->mF,frames->tJ
open PySem.Data renaming fields->tI,cell->wq
open PySem.DictEntry renaming refKey->wi
open PySem.F renaming called_set->l7,plainAttrs_list->nL,slot_list_clear->sA,type_list_clear->qI,plain_list_iadd->xF,entry_proto_collect->GK,plain_proto_collect->JA,entry_list_iadd->KD,plain_extend_loop->IM,slot_list_append->KJ,type_list_append->JQ,plain_set_new->oE
open PySem.Heap renaming lt_size->bF,get?_push_of_some->bV,get?_push_size->fO,size_push->kN,get?_update_other->kH,get?_update_self->xQ,SameBut->eC,get?_push_ne->mf,size_update->nr
open PySem.Heap.DictOf renaming new->xf
open PySem.Heap.IsSliceOf renaming new->vw
open PySem.Heap.SameBut renaming update->kl
open PySem.NameKind renaming free->c3,cell->kX
open PySem.Obj renaming mapSeq->ed,mapFields->h6,data_mapFields->lk,putSet->l4
open PySem.PassesOwn renaming never->jy
open PySem.PyData renaming canLayAll0->ba,int->bj,canLay0->br,depthAll->cm,eqv->eh,depth->ej,list->gO,eqvAll->hX,tuple->i0,bool->uk
open PySem.SeqAt renaming canLay_of_shaped->oJ,shaped->c5
open PySem.SeqAt.EqAt renaming int_str->vi,str_int->vk
open PySem.SetTable renaming grown->et,insertAt->hH,Probe->px
open PySem.SetTable.below renaming go->eM
open PySem.SetTable.probe renaming go->hJ
open PySem.Str renaming ofString->g5,empty->wt
open PySem.Value renaming isInt_shape->wH,ref->c4,type->dE,none->fv,int->gz,str->ix,bool->jW,float->n3,isStrOf->rn,isInt->tz,bytes->tG
open PySem.W renaming mg_of->cJ,mg_none_of->ir,kia_one->jD,kia_tup->nE,kitx_dict->vp,plainGet_of->Ck,methodCall_KW->zE,kitx_list->yS,callWith_K->A4,cellsFrom_some->Kr
open PySem.W.WData renaming int->wy
open PySem.W.WShape renaming has->vW
open PySem.Walks renaming list->wa
open PySem.WalksT renaming enumerate->nC
open PySem.pickOrder renaming go->mM
open Sum renaming inl->dh,inr->lS
open Sum.inl renaming inj->zV
open True renaming intro->dq
open PySem PySem.Spec PyProof.Rows
variable{nb ay:aw->Prop}{n i j t' m sa ep:Nat}{pins:List (aw×Obj)}{a b acc a0 it dx:aw}{ds:List PyData}{α κ:Type}{Θ:Bool->List PyData->Prop}{Q E:ag->ar->Prop}{aG:List (List PyData)}{mp:List (Option Nat)}{x qual:Str}{us its:List ag}{ns ms ws:List Int}{s:ar}{mg mA:Str->Option ag}{C:(Str->Option ag)->ek->Prop}{N ps NX:List Str}{p:Int}{w:cx}{A:cC}{pos:Pos}{u oc:ag}{osl:Array (Option ag)}{h base h':ek}{f:ag->ag->Sem ag}{l:List (Nat×Nat×Nat)}{d:PyData}{pr:Int×Int}{o:Obj}{scope:hQ}{B:List eu}{es:Array (Int×ag)}{T:String}{left bt fl:Bool}{key:a4}{pl:Sem Bool}{M:Model}{QQ:Fin->ar->Prop}{ch fp:List aw}{fd:eJ}{tg e:eu}{I:Nat->List PyData->Prop}{use:Option (ag->Sem Unit)}{y:Array a4}{g':Array nR}{outer:List Env}{env:Env}{prs:List (Int×Int)}{cells:List (Str×aw)}{d':Drawn}{Φ:PyData->Prop}{ha:Nat->Int}{items:Array ag}{ks:List Nat}
namespace PySem.W.Fast
def tw16980697294332887006:=Nat
def tw8235441513754863469:=Nat
def tw15054141542417026039:=Nat
def tw978593447753503311:=Nat
def tw7323713928133526768:=Nat
def tw17815708622782898960:=Nat
def tw9431371017319293281:=Nat
def tw15028645932244039644:=Nat
def tw10140276019403557250:=Nat
def tw8337226915381843660:=Nat
def tw14229435266605311648:=Nat
def tw2090131485849229710:=Nat
def tw8538210934642385638:=Nat
def tw12291360310262288128:=Nat
def tw4528461486521585435:=Nat
def tw3576039483239045782:=Nat
def tw17712058619287909526:=Nat
def tw7407216920331531486:=Nat
def tw5105973183241987417:=Nat
def tw4477389114860279010:=Nat
def tw11481949055204452847:=Nat
def tw7010995351981093943:=Nat
def tw8921971821739612763:=Nat
def tw1457011970282706751:=Nat
def tw3749337130150460884:=Nat
def tw12948719898402744448:=Nat
def tw12234274064335613763:=Nat
def tw16939649819330941242:=Nat
def tw17813736200869500734:=Nat
def tw13220209324566779698:=Nat
def tw15012817819472825809:=Nat
def tw4494878270489557014:=Nat
def tw652298713305470187:=Nat
def tw10188080510167597082:=Nat
def tw5736121031357018823:=Nat
def tw12187891744605049921:=Nat
def tw10513499533571920959:=Nat
def tw4406212461638121365:=Nat
def tw12958618529684011007:=Nat
def tw16252930117630557458:=Nat
def tw9804741737042532822:=Nat
def tw15302228493695587077:=Nat
def tw15323918262517055235:=Nat
def tw5839401546063379309:=Nat
def tw15798746667060459886:=Nat
def tw5686072290369155042:=Nat
def tw14197116503295229672:=Nat
def tw3258946829864395408:=Nat
def tw13402126206844996739:=Nat
def tw8057994275839587248:=Nat
def tw7232267567238246808:=Nat
def tw9435983886871467295:=Nat
def tw3716157566642892288:=Nat
def tw1960729812166540709:=Nat
def tw8714214023597991250:=Nat
def tw13089707409593591906:=Nat
def tw15961858741715841745:=Nat
def tw1488166750411317949:=Nat
def tw1205601730917558132:=Nat
def tw6536009465554916267:=Nat
def tw387786510023941308:=Nat
def tw11613605535261162228:=Nat
def tw1479366644796149550:=Nat
def tw17654273936608008525:=Nat
def tw17977227230063144775:=Nat
def tw2988275118247712865:=Nat
def tw413964641621510431:=Nat
def tw13491444045407310548:=Nat
def tw9905290820164898960:=Nat
def tw10631159617476094462:=Nat
def tw17751483180404724634:=Nat
def tw5067951998978789444:=Nat
def tw3021685525450032385:=Nat
def tw3794779954867670268:=Nat
def tw8088031333474495081:=Nat
def tw14833013186780945413:=Nat
def tw1158696466429762204:=Nat
def tw16800861054424816294:=Nat
def tw1542388382974333577:=Nat
def tw16038170690548531564:=Nat
def tw17850984292275658686:=Nat
def tw10292675379979488449:=Nat
def tw16862431484586293662:=Nat
def tw9097452121659075051:=Nat
def tw8070222070745119498:=Nat
def tw1005463367792288838:=Nat
def tw11534593912575938139:=Nat
def tw3846938170879135783:=Nat
def tw12906885970277034956:=Nat
def tw6900008294413598506:=Nat
def tw15902958275538017250:=Nat
def tw2144036062276545177:=Nat
def tw3324087700185352686:=Nat
def tw6975383761846479087:=Nat
def tw6561978727916769886:=Nat
def tw15753345353846620118:=Nat
def tw13894817314387853733:=Nat
def tw17121095500923176808:=Nat
def tw14444186283380633518:=Nat
def tw6712809750434981522:=Nat
def tw7974447524401081153:=Nat
def tw11358403683254388572:=Nat
def tw12753038446238469144:=Nat
def tw9578557755413173159:=Nat
def tw8943646045775541456:=Nat
def tw16490090362102856120:=Nat
def tw17749867900124251826:=Nat
def tw13719183119816627737:=Nat
def tw9618320607346082273:=Nat
def tw10149753239293793062:=Nat
def tw10502606198800284207:=Nat
def tw11792770741056963461:=Nat
def tw2393602987816756298:=Nat
def tw2780130998516877809:=Nat
def tw4808083683774266375:=Nat
def tw16938524715911099185:=Nat
def tw4017067946672572941:=Nat
def tw3560534594787868059:=Nat
def tw14904165188287810261:=Nat
def tw8342306545788930513:=Nat
def tw2304703117612959121:=Nat
def tw13945040389195551917:=Nat
def tw14792770180431313460:=Nat
def tw1151516361211746319:=Nat
def tw267597413950729578:=Nat
def tw86744418067761013:=Nat
def tw6399046334166004647:=Nat
def tw7908292673197148897:=Nat
def tw13676918719329541181:=Nat
def tw18443744805391116113:=Nat
def tw526873632620952354:=Nat
def tw13400107261274636038:=Nat
def tw16724705286660955192:=Nat
def tw3756790083648029499:=Nat
def tw17746073648653426308:=Nat
def tw16968851306761709383:=Nat
def tw16458403555195109660:=Nat
def tw177908014273473902:=Nat
def tw17309810535905155622:=Nat
def tw15738241403478291807:=Nat
def tw32601414916765154:=Nat
def tw2079555360473456258:=Nat
def tw17601464299848845258:=Nat
def tw14394814522725715102:=Nat
def tw1766305129128207233:=Nat
def tw3205228140598053584:=Nat
def tw13969194738795023931:=Nat
def tw9603195444114255691:=Nat
end PySem.W.Fast
namespace L2
noncomputable abbrev Key:=Sum Int Str
noncomputable def qw:Key->ag->Bool
 | .inl k,v=>tz k v
 | .inr x,v=>rn x v
noncomputable def PV(w:cx):Key->Int
 | .inl k=>hashInt k
 | .inr x=>hashStr w x
theorem lJ:∀{k:Key} {v:ag},qw k v=true->(∃i t,k=dh i/\v=gz i t)\/(∃x t,k=lS x/\v=ix x t)
  | .inl i, v, h => by
    obtain⟨t,e⟩:=wH (k:=i) (v:=v) h;exact .inl ⟨i,t,rfl,e⟩
  | .inr x, v, h => by
    obtain⟨t,e⟩:=Value.isStrOf_shape (x:=x) (v:=v) h;exact .inr ⟨x,t,rfl,e⟩
theorem X5(i:Int)(t:Tok):qw (.inl i) (.int i t)=true:=by simp[qw,tz]
theorem Uy(x:Str)(t:Tok):qw (.inr x) (.str x t)=true:=by simp[qw,rn]
theorem Pg(a b:Int):decide ((dh a:Key)=dh b)=(a==b):=by
 by_cases e:a=b;·subst e;simp
 .have h:¬(dh a:Key)=dh b:=λq=>e (zV q);rw[decide_eq_false h];exact(beq_eq_false_iff_ne.mpr e).symm
theorem NL(a b:Str):decide ((lS a:Key)=lS b)=decide (a=b):=by
 by_cases e:a=b;·subst e;simp
 .have h:¬(lS a:Key)=lS b:=λq=>e (Sum.inr.inj q);rw[decide_eq_false h,decide_eq_false e]
theorem Vs(a:Int)(b:Str):decide ((dh a:Key)=lS b)=false:=decide_eq_false (λq=>nomatch q)
theorem WW(a:Str)(b:Int):decide ((lS a:Key)=dh b)=false:=decide_eq_false (λq=>nomatch q)
noncomputable def iH(prog:be)(w:cx):PySem.KeyKind prog w Key where
 is:=qw
 hash:=PV w
 inj:=λv a b ha hb=>by
  rcases lJ ha with ⟨i,t,rfl,rfl⟩|⟨x,t,rfl,rfl⟩
  .rcases lJ hb with ⟨j,u,rfl,e⟩|⟨y,u,rfl,e⟩
   .injection e with e1 _;rw[e1]
   .exact nomatch e
  .rcases lJ hb with ⟨j,u,rfl,e⟩|⟨y,u,rfl,e⟩
   .exact nomatch e
   .injection e with e1 _;rw[e1]
 byValue:=λk v h=>by
  rcases lJ h with ⟨i,t,rfl,rfl⟩|⟨x,t,rfl,rfl⟩<;>rfl
 pyHash:=λhv h=>by
  rcases lJ hv with ⟨i,t,rfl,rfl⟩|⟨x,t,rfl,rfl⟩
  .exact wpAny_pyHash_int h
  .exact wpAny_pyHash_str h
 eqBool:=λhu hv h=>by
  rcases lJ hu with ⟨i,t,rfl,rfl⟩|⟨x,t,rfl,rfl⟩
  .rcases lJ hv with ⟨j,u,rfl,rfl⟩|⟨y,u,rfl,rfl⟩
   .rw[Pg] at h;exact wpAny_eqBool_int h
   .rw[Vs] at h;exact vi i t y u _ _ _ _ h
  .rcases lJ hv with ⟨j,u,rfl,rfl⟩|⟨y,u,rfl,rfl⟩
   .rw[WW] at h;exact vk x t j u _ _ _ _ h
   .rw[NL] at h;exact wpAny_eqBool_str h
 «strs» :=λk x t v h=>by
  rcases lJ h with ⟨i,u,rfl,e⟩|⟨y,u,rfl,e⟩
  .exact nomatch e
  .injection e with e1 _
   subst e1
   cases v<;>rfl
theorem QE(prog:be)(w:cx)(i:Int)(t:Tok):(iH prog w).is (.inl i) (.int i t)=true:=X5 i t
theorem Vn(prog:be)(w:cx)(x:Str)(t:Tok):(iH prog w).is (.inr x) (.str x t)=true:=Uy x t
inductive V where
 |aD|bl (b:Bool)|int (i:Int)|str (x:Str)|iM (b:Array UInt8)|kG (b:UInt64)|ref (a:aw)|ty (n:String)
 deriving DecidableEq
def RelV:V->ag->Prop
 | .aD,u=>u=fv
 | .bl b,u=>u=jW b
 | .int i,u=>∃t,u=gz i t
 | .str x,u=>∃t,u=ix x t
 | .iM b,u=>∃t,u=tG b t
 | .kG b,u=>∃t,u=n3 b t
 | .ref a,u=>u=c4 a
 | .ty n,u=>u=dE n
abbrev Vals:List V->List ag->Prop:=Paired RelV
theorem Vals.length{xs:List V}{us:List ag}(r:Vals xs us):xs.length=us.length:=Paired.length r
theorem Vals.get:∀{xs:List V} {us:List ag} {i:Nat} {x:V},Vals xs us->xs[i]?=some x->∃u,us[i]?=some u/\RelV x u
  |_,_,_,_, .nil,e=>by simp at e
  |_,_,0,_, .cons r _,e=>by simp at e;subst e;exact⟨_,rfl,r⟩
  | _, _, i + 1, x, .cons _ t, e => by
    obtain⟨u,h1,h2⟩:=Vals.get (i:=i) (x:=x) t (by simpa using e);exact⟨u,by simpa using h1,h2⟩
theorem Vals.set{x:V}{u:ag}(r:RelV x u):∀{xs:List V} {us:List ag} (i:Nat),Vals xs us->Vals (xs.set i x) (us.set i u)
 |_,_,_, .nil=> .nil
 |_,_,0, .cons _ t=> .cons r t
 |_,_,i+1, .cons q t=> .cons q (Vals.set r i t)
theorem Vals.append:∀{xs ys:List V} {us ws:List ag},Vals xs us->Vals ys ws->Vals (xs++ys) (us++ws)
 |_,_,_,_, .nil,s=>s
 |_,_,_,_, .cons r t,s=> .cons r (Vals.append t s)
theorem Vals.take:∀{xs:List V} {us:List ag} (n:Nat),Vals xs us->Vals (xs.take n) (us.take n)
 |_,_,0,_=> .nil
 |_,_,_+1, .nil=> .nil
 |_,_,n+1, .cons r t=> .cons r (Vals.take n t)
theorem Vals.drop:∀{xs:List V} {us:List ag} (n:Nat),Vals xs us->Vals (xs.drop n) (us.drop n)
 |_,_,0,r=>r
 |_,_,_+1, .nil=> .nil
 |_,_,n+1, .cons _ t=>Vals.drop n t
def iG:Option V->Option ag->Prop
 |some v,some u=>RelV v u
 |none,none=>True
 |_,_=>False
def KV:List (κ×V)->List (κ×ag)->Prop:=Paired λ(p:κ×V) (q:κ×ag)=>p.1=q.1/\RelV p.2 q.2
noncomputable def kV:Key->V
 | .inl i=> .int i
 | .inr x=> .str x
inductive HO where
  |lst (xs:List V)
  |tup (xs:List V)
  |dK (kvs:List (Key×V))|dT (kvs:List (List Key×V))
  |set (S:Int->Bool) (n:Nat)
  |ins (C dx:aw) (fs:List (Str×V))
  |own (x:aw)
  |xd (fs:List (Str×V))
  |met (f x:aw)
  |mJ (lo hi:Int)
  |gH (o:Obj) (u:HO)
  |nN (ps:Array ag)
  |ext (φ:ek->Prop)
noncomputable abbrev Hp:=aw->Option HO
noncomputable def upd(H:Hp)(a:aw)(o:HO):Hp:=λb=>if b=a then some o else H b
theorem aT{H:Hp}{o:HO}:upd H a o a=some o:=by unfold upd;rw[if_pos rfl]
theorem aM{H:Hp}{o:HO}(h:b≠a):upd H a o b=H b:=by unfold upd;rw[if_neg h]
theorem A0{H:Hp}{o u:HO}:upd (upd H a o) a u=upd H a u:=by
 funext b;unfold upd;split<;>rfl
theorem gZ{H:Hp}{o:HO}(h:H a=some o)(h':H b=none):a≠b:=by
 intro e;subst e;rw[h] at h';cases h'
section
variable(P:be)(w:cx)
def cA(H:Hp)(h:ek)(a:aw):HO->Prop
 | .lst xs=>xs.length<=sizeLine/\∃(its:List ag) (n:Nat),Vals xs its/\h.get? a=some {cls:= .type "list",data:= .seq its.toArray n}
 | .tup xs=>xs.length<=sizeLine/\∃its:List ag,Vals xs its/\IsTup h a its.toArray
 | .dK kvs=>kvs.length<=sizeLine/\(a==eI)=false/\∃vs,KV kvs vs/\h.DictOf (iH P w) a vs
 | .dT kvs => kvs.length <= sizeLine /\ (a == sysModules) = false /\ ∃ xs : List (List Key × Addr × Value),
   Paired (λ(p:List Key×V) (q:List Key×aw×ag)=>p.1=q.1/\H q.2.1=some (.tup (p.1.map kV))/\RelV p.2 q.2.2) kvs xs/\
   ∃o es ep,h.get? a=some o/\o.ExactDict/\o.data= .dict es ep/\es.toList=xs.map (entryOfKey (n4 (iH P w)))/\(xs.map (·.1)).Nodup
 | .set S n=>h.SetOf (intKind P w) a S n
 | .ins C dx fs => H dx = some (.own a) /\ fs.length <= 1000 /\ dx ≠ a /\ h.get? a = some (PySem.W.instObj C dx) /\
   ∃mA,h.Ns1 dx mA/\(∀f,iG (fs.lookup f) (mA f))/\PySem.Within mA (fs.map (·.1))
 | .own _=>∃o,h.get? a=some o
 | .xd fs=>∃mA,h.Ns1 a mA/\∀f,iG (fs.lookup f) (mA f)
 | .mJ lo hi=>∃t u v,h.get? a=some {cls:= .type "range",data:= .fields #[.int lo t, .int hi u, .int 1 v]}
 | .gH o u=>h.get? a=some o/\cA H h a u
 | .nN ps=>h.get? a=some {cls:= .none,data:= .fields ps}
 | .met f x=>h.get? a=some (PySem.W.methodObj (.ref f) (.ref x))
 | .ext φ=>φ h/\(∃o,h.get? a=some o)/\∀h1 h2:ek,φ h1->(∀o,h1.get? a=some o->h2.get? a=some o)->φ h2
def cW(H:Hp)(h:ek):Prop:=∀a o,H a=some o->cA P w H h a o
end
section
variable{P:be}{w:cx}{H H':Hp}{h h':ek}{a:aw}{o:HO}
theorem cA.lt(x:cA P w H h a o):a<h.objs.size:=by
 cases o with
 |lst xs=>obtain⟨_,_,_,_,e⟩:=x;exact bF e
 |tup xs=>obtain⟨_,_,_,p⟩:=x;exact p.lt
 |dK kvs=>obtain⟨_,_,_,_,o,_,_,e,_⟩:=x;exact bF e
 |dT kvs=>obtain⟨_,_,_,_,o,_,_,e,_⟩:=x;exact bF e
 |set S n=>obtain⟨o,_,_,_,e,_⟩:=x;exact bF e
 |ins C dx fs=>obtain⟨_,_,_,e,_⟩:=x;exact bF e
 |own y=>obtain⟨_,e⟩:=x;exact bF e
 |xd fs=>obtain⟨_,⟨_,_,_,e,_⟩,_⟩:=x;exact bF e
 |mJ lo hi=>obtain⟨_,_,_,e⟩:=x;exact bF e
 |gH ob u=>obtain⟨e,_⟩:=x;exact bF e
 |nN ps=>exact bF (show h.get? a=some _ from x)
 |met f y=>exact bF (show h.get? a=some _ from x)
 |ext φ=>obtain⟨_,⟨_,e⟩,_⟩:=x;exact bF e
theorem Paired.Kl{α c:Type}{F G:α->c->Prop}:∀{d:List α} {l₂:List c},Paired F d l₂->(∀a b,F a b->G a b)->Paired G d l₂
 |_,_, .nil,_=> .nil
 |_,_, .cons r t,f=> .cons (f _ _ r) (Paired.Kl t f)
theorem cA.stay(x:cA P w H h a o)(k:∀b u,(b=a\/H b=some (.own a))->h.get? b=some u->h'.get? b=some u)
    (U:∀b,H b=some (.own a)->H' b=some (.own a)) (ht:∀b xs,H b=some (.tup xs)->H' b=some (.tup xs)):cA P w H' h' a o:=by
  induction o with
  |lst xs=>obtain⟨z,its,n,r,e⟩:=x;exact⟨z,its,n,r,k _ _ (.inl rfl) e⟩
  |tup xs=>obtain⟨z,its,r,ob,e,c⟩:=x;exact⟨z,its,r,ob,k _ _ (.inl rfl) e,c⟩
  |dK kvs=>obtain⟨z,y,vs,r,ob,es,ep,e,c⟩:=x;exact⟨z,y,vs,r,ob,es,ep,k _ _ (.inl rfl) e,c⟩
  | dT kvs =>
    obtain⟨z,y,xs,r,ob,es,ep,e,c⟩:=x;exact⟨z,y,xs,Paired.Kl r λp q z=>⟨z.1,ht _ _ z.2.1,z.2.2⟩,ob,es,ep,k _ _ (.inl rfl) e,c⟩
  |set S n=>obtain⟨ob,es,ep,t,e,c⟩:=x;exact⟨ob,es,ep,t,k _ _ (.inl rfl) e,c⟩
  | ins C dx fs =>
    obtain⟨d,z,ne,e,mA,⟨od,es,ep,e2,c⟩,r⟩:=x;exact⟨U _ d,z,ne,k _ _ (.inl rfl) e,mA,⟨od,es,ep,k _ _ (.inr d) e2,c⟩,r⟩
  |own y=>obtain⟨ob,e⟩:=x;exact⟨ob,k _ _ (.inl rfl) e⟩
  |xd fs=>obtain⟨mA,⟨od,es,ep,e,c⟩,r⟩:=x;exact⟨mA,⟨od,es,ep,k _ _ (.inl rfl) e,c⟩,r⟩
  |mJ lo hi=>obtain⟨t,u,v,e⟩:=x;exact⟨t,u,v,k _ _ (.inl rfl) e⟩
  |gH ob u ih=>obtain⟨e,q⟩:=x;exact⟨k _ _ (.inl rfl) e,ih q⟩
  | nN ps =>
    have e:h.get? a=some {cls:= .none,data:= .fields ps}:=x;show h'.get? a=some {cls:= .none,data:= .fields ps};exact k a _ (.inl rfl) e
  | met f y =>
    have e:h.get? a=some (PySem.W.methodObj (.ref f) (.ref y)):=x;show h'.get? a=some (PySem.W.methodObj (.ref f) (.ref y));exact k a _ (.inl rfl) e
  |ext φ=>obtain⟨p,⟨o,e⟩,st⟩:=x;exact⟨st _ _ p λo q=>k _ _ (.inl rfl) q,⟨o,k _ _ (.inl rfl) e⟩,st⟩
theorem cW.lt(x:cW P w H h)(e:H a=some o):a<h.objs.size:=(x a o e).lt
theorem cW.fresh(x:cW P w H h)(e:h.objs.size<=a):H a=none:=by
 cases q:H a with
 |none=>rfl
 |some u=>exact absurd (eG (x.lt q) e) (jk _)
theorem cW.kept(x:cW P w H h)(k:∀b u,h.get? b=some u->h'.get? b=some u):cW P w H h':=λa o e=>
 (x a o e).stay (λb u _ q=>k b u q) (λ_ q=>q) λ_ _ q=>q
theorem cW.laid(x:cW P w H h)(k:∀b u,h.get? b=some u->h'.get? b=some u)(hp:h.objs.size<=a)(new:cA P w (upd H a o) h' a o):cW P w (upd H a o) h':=λb u e=>by
 have hn:=x.fresh hp;by_cases hb:b=a;·subst hb;rw[aT] at e;cases e;exact new
 .rw[aM hb] at e;exact(x b u e).stay (λc v _ q=>k c v q) (λc q=>by rw[aM (gZ q hn)];exact q) λc xs q=>by rw[aM (gZ q hn)];exact q
end
def Rd(H:Hp)(a:aw)(u:HO):Prop:=H a=some u\/∃o,H a=some (.gH o u)
theorem Rd.ok{P:be}{H:Hp}{u:HO}(r:Rd H a u)(x:cW P w H h):cA P w H h a u:=by
 rcases r with r|⟨o,r⟩
 .exact x a u r
 .obtain⟨_,q⟩:=x a _ r;exact q
def qR:Option HO->Prop
 |some (.lst _)=>True
 |some (.dK _)=>True
 |some (.dT _)=>True
 |some (.set _ _)=>True
 |some (.ins _ _ _)=>True
 |some (.ext _)=>True
 |_=>False
section
variable{P:be}{w:cx}{H:Hp}{h h':ek}{x e:aw}{o':HO}
theorem cW.write(ok:cW P w H h)(d:qR (H x))(he:e=x\/H e=some (.own x))(k:∀b u,b≠e->h.get? b=some u->h'.get? b=some u)(f:∃u,h'.get? e=some u)
  (new:cA P w (upd H x o') h' x o'):cW P w (upd H x o') h':=λb u q=>by
 have g:∀c y,H c=some (.own y)->c≠x:=λc y r z=>by subst z;rw[r] at d;exact d
 have i:∀c xs,H c=some (.tup xs)->c≠x:=λc xs r z=>by subst z;rw[r] at d;exact d
 by_cases hb:b=x;·subst hb;rw[aT] at q;cases q;exact new
 .rw[aM hb] at q;by_cases a:b=e
  .have D:H b=some (.own x):=by
    rcases he with z|z
    .exact absurd (a.trans z) hb
    .rw[a];exact z
   rw[q] at D;cases D
   obtain⟨v,hv⟩:=f;exact⟨v,by rw[a];exact hv⟩
  .refine(ok b u q).stay (λc v hc r=>k c v ?_ r) (λc r=>by rw[aM (g c b r)];exact r) λc xs r=>by rw[aM (i c xs r)];exact r
   rcases hc with rfl|hc
   .exact a
   .rintro rfl;rcases he with z|z
    .exact g c b hc z
    .rw[hc] at z;cases z;exact hb rfl
end
structure Un(fs ex:List aw)(H H':Hp)(h h':ek):Prop where
 keep:∀b o,h.get? b=some o->H b=none->b∉fs->b∉ex->h'.get? b=some o
 slot:∀b o,h.get? b=some o->H b=none->b∈fs->b∉ex->∃sl,h'.get? b=some {o with slots:=sl}
 free:∀b o,h.get? b=some o->H b=none->b∉ex->H' b=none
 there:∀b o,h.get? b=some o->b∉ex->∃o',h'.get? b=some o'
 tups:∀b xs,H b=some (.tup xs)->H' b=some (.tup xs)
 lP:∀b o u,H b=some (.gH o u)->H' b=some (.gH o u)
 nv:∀b ps,H b=some (.nN ps)->∃more,H' b=some (.nN (ps++more))
section
variable{fs fs' ex ex':List aw}{H H1 H2:Hp}{h h1 h2 h':ek}{a x e:aw}{o:HO}
theorem Un.any(u:Un fs ex H H1 h h1){b:aw}{ob:Obj}(q:h.get? b=some ob)(n:H b=none)(hx:b∉ex):∃sl,h1.get? b=some {ob with slots:=sl}:=by
 by_cases hb:b∈fs;·exact u.slot b ob q n hb hx
 .exact⟨ob.slots,u.keep b ob q n hb hx⟩
theorem Un.kept(k:∀b u,h.get? b=some u->h'.get? b=some u):Un fs ex H H h h':=
 ⟨λb ob q _ _ _=>k b ob q,λb ob q _ _ _=>⟨ob.slots,k b ob q⟩,λ_ _ _ n _=>n,λb ob q _=>⟨ob,k b ob q⟩,λ_ _ q=>q,λ_ _ _ q=>q,λ_ ps q=>⟨#[],by rw[q];simp⟩⟩
theorem Un.refl:Un fs ex H H h h:=Un.kept λ_ _ q=>q
theorem Un.laid(k:∀b u,h.get? b=some u->h'.get? b=some u)(hp:h.objs.size<=a)(hn:H a=none):Un fs ex H (upd H a o) h h' where
 keep:=λb u q _ _ _=>k b u q
 slot:=λb u q _ _ _=>⟨u.slots,k b u q⟩
 free:=λb u q n _=>by rw[aM (dz (eG (bF q) hp))];exact n
 there:=λb u q _=>⟨u,k b u q⟩
 tups:=λb xs q=>by rw[aM (gZ q hn)];exact q
 lP:=λb u xs q=>by rw[aM (gZ q hn)];exact q
 nv:=λb ps q=>⟨#[],by rw[aM (gZ q hn),q];simp⟩
theorem Un.write(d:qR (H x))(he:e=x\/H e=some (.own x))(k:∀b u,b≠e->h.get? b=some u->h'.get? b=some u)(f:∃u,h'.get? e=some u):Un fs ex H (upd H x o) h h':=by
 have hx:∀b,H b=none->b≠x:=λb n z=>by subst z;rw[n] at d;exact d
 have hb:∀b,H b=none->b≠e:=λb n z=>by
  subst z;rcases he with r|r
  .exact hx b n r
  .rw[n] at r;cases r
 have hm:∀b u,H b=some u->¬qR (some u)->b≠x:=λb u q nm z=>by subst z;rw[q] at d;exact nm d
 refine⟨λb u q n _ _=>k b u (hb b n) q,λb u q n _ _=>⟨u.slots,k b u (hb b n) q⟩,λb u q n _=>by rw[aM (hx b n)];exact n,λb u q _=>?_,
  λb xs q=>by rw[aM (hm b _ q λz=>z)];exact q,λb u xs q=>by rw[aM (hm b _ q λz=>z)];exact q,λb ps q=>⟨#[],by rw[aM (hm b _ q λz=>z),q];simp⟩⟩
 by_cases a:b=e;·subst a;exact f
 .exact⟨u,k b u a q⟩
end
noncomputable def yI(h:ek)(H:Hp):List aw:=(bp h.objs.size).filter λa=>(H a).isSome
noncomputable def lX(h:ek)(H:Hp):ek:=PySem.W.hideAll h (yI h H)
theorem UD(h:ek)(H:Hp):(lX h H).objs.size=h.objs.size:=PySem.W.hideAll_size _ _
theorem LY{H:Hp}(e:h.get? b=some o)(n:H b=none):(lX h H).get? b=some o:=
 PySem.W.hideAll_get _ e λhm=>by
  have q:(H b).isSome=true:=(lM.mp hm).2;rw[n] at q;simp at q
theorem Ye{H:Hp}(e:(lX h H).get? b=some o):h.get? b=some o/\H b=none:=by
  have e':h.get? b=some o:=PySem.W.of_hideAll (yI h H) e;refine⟨e',?_⟩;cases q:H b with
  |none=>rfl
  | some x =>
    have hm:b∈yI h H:=lM.mpr ⟨qX.mpr (bF e'),by simp[q]⟩;have z:(lX h H).get? b=none:=PySem.W.hideAll_none (yI h H) hm;rw[z] at e;cases e
noncomputable def UJ(g h:ek)(L:aw):List (aw×Obj):=(bp h.objs.size).filterMap λa=>if a=L\/(g.get? a).isSome=true then none else(h.get? a).map λo=>(a,o)
noncomputable def rest(g h:ek)(L d:aw):List (aw×Obj):=(UJ g h L).filter λp=>decide (p.1≠d)
structure Mod(K:PySem.W.Frag)(mg:Str->Option ag)(base:ek):Prop where
 tH:K.In base
 glob:base.Ns bg mg
 blt:∃mb,base.Ns qy mb/\∀x:Str,x≠"__name__" ->mb x=fR x
 nolimit:base.NoLimit
structure Cx where
 prog:be
 w:cx
 K:PySem.W.Frag
 mg:Str->Option ag
 base:ek
 A:cC
 N:List Str
 s₀:ar
 H₀:Hp
 env:Env
 outer:List Env
 stack:List Env
 ex:List aw
 fn:Str->Bool
 calm:Bool
 pn:List (aw×Obj)
 xe:ag->ar->Prop
noncomputable def frs(l:List Env):List aw:=l.filterMap (·.frame)
noncomputable abbrev Cx.fs(X:Cx):List aw:=frs X.outer
def zf(sc:hQ)(x:Str):Prop:=sc.names.lookup x=some .local\/sc.names.lookup x=some .cell\/sc.names.lookup x=some .free
def Loc(sc:hQ)(x:Str):Prop:=sc.names.lookup x=some .local\/sc.names.lookup x=some .cell
def Look(env:Env)(h:ek)(m:Str->Option ag)(x:Str)(u:ag):Prop:=
 (env.kindOf x=some .local/\m x=some u)\/((env.kindOf x=some .cell\/env.kindOf x=some .free)/\∃c,env.cells.lookup x=some c/\h.IsCell c (some u))
structure Cx.Ok(X:Cx):Prop where
 mod:Mod X.K X.mg X.base
 kind:X.env.scope.kind= .function
 glob:X.env.globals=bg
 blt:X.env.builtins=qy
 above:X.s₀.heap.objs.size<=X.env.locals
 inj:∀x y c,X.env.cells.lookup x=some c->X.env.cells.lookup y=some c->x=y
 has:∀x,(X.env.kindOf x=some .cell\/X.env.kindOf x=some .free)->∃c,X.env.cells.lookup x=some c
 qB:∀x c,X.fn x=true->X.env.cells.lookup x=some c->X.s₀.heap.objs.size<=c
 hd:X.calm=true->X.A.handled=none
 frames:X.A.frames=some X.stack
 stk:X.stack=X.outer\/(X.stack=X.env::X.outer/\X.env.frame=some X.env.locals)
 yh:∀b∈X.ex,b≠X.env.locals/\∀x c,X.env.cells.lookup x=some c->c≠b
 bs:∀b o,X.base.get? b=some o->X.s₀.heap.get? b=some o/\X.H₀ b=none
 ny:X.base.objs.size<=X.s₀.heap.objs.size
 qP:∀b o,X.base.get? b=some o->b∉X.ex
 qQ:∀b∈X.ex,b∉X.fs
 jm:X.s₀.heap.FunFrames X.base X.outer
 ou:∀b∈X.fs,X.H₀ b=none
structure Inv(X:Cx)(pins:List (aw×Obj))(σ:List (Option V))(H:Hp)(s:ar):Prop where
 ok:X.Ok
 os:s.os=X.s₀.os
 bare:iz s.gens
 base:Un X.fs X.ex X.H₀ H X.s₀.heap s.heap
 loc:∃m,s.heap.Ns X.env.locals m/\∀(i:Nat) (x:Str) (v:V),X.N[i]?=some x->σ[i]?=some (some v)->zf X.env.scope x->∃u,RelV v u/\Look X.env s.heap m x u
 cell:∀x c,X.env.cells.lookup x=some c->∃v,s.heap.IsCell c v
 free:H X.env.locals=none
 jM:∀x c,X.env.cells.lookup x=some c->H c=none
 pin:∀p∈X.pn++pins,s.heap.get? p.1=some p.2/\H p.1=none/\p.1≠X.env.locals/\p.1∉X.fs/\∀v,p.2.data≠ .cell v
 hok:cW X.prog X.w H s.heap
 len:σ.length=X.N.length
section
variable{X:Cx}{pins:List (aw×Obj)}{σ:List (Option V)}{H H':Hp}{s:ar}{h':ek}
theorem Cx.Ok.Rg(ok:X.Ok){b:aw}{o:Obj}(e:X.base.get? b=some o):b∉X.fs:=λhb=>by
 have:=(ok.jm.mem hb).1;rw[e] at this;cases this
theorem Inv.bs(I:Inv X pins σ H s):∀b o,X.base.get? b=some o->s.heap.get? b=some o/\H b=none:=λb o e=>
 ⟨I.base.keep b o (I.ok.bs b o e).1 (I.ok.bs b o e).2 (I.ok.Rg e) (I.ok.qP b o e),I.base.free b o (I.ok.bs b o e).1 (I.ok.bs b o e).2 (I.ok.qP b o e)⟩
theorem Inv.bk(I:Inv X pins σ H s):∀b o,X.base.get? b=some o->s.heap.get? b=some o:=λb o e=>(I.bs b o e).1
theorem Inv.mod(I:Inv X pins σ H s):Mod X.K X.mg X.base:=I.ok.mod
theorem Inv.cE(I:Inv X pins σ H s):X.K.In s.heap:=I.ok.mod.tH.keeps I.bk
theorem Inv.lt(I:Inv X pins σ H s):X.env.locals<s.heap.objs.size:=let ⟨_,hn,_⟩:=I.loc;hn.lt
theorem Inv.sz(I:Inv X pins σ H s):X.s₀.heap.objs.size<=s.heap.objs.size:=fX I.ok.above (j4 I.lt)
theorem Inv.SS(I:Inv X pins σ H s){a:aw}(h:s.heap.objs.size<=a):a∉X.fs:=λhb=>by
 obtain⟨_,o,U,_⟩:=I.ok.jm.mem hb;exact absurd (eG (bF U) (fX I.sz h)) (jk _)
theorem Inv.nQ(I:Inv X pins σ H s):∀x c,X.env.cells.lookup x=some c->c≠X.env.locals:=λx c e z=>by
 obtain⟨v,o,U,hd⟩:=I.cell x c e;obtain⟨m,⟨o',es,ep,d,j,_⟩,_⟩:=I.loc;rw[z,d] at U;cases U;rw[j] at hd;cases hd
theorem Inv.jm(I:Inv X pins σ H s):s.heap.FunFrames X.base X.outer:=by
  have all:∀(l:List Env),(∀b∈frs l,b∈X.fs)->X.s₀.heap.FunFrames X.base l->s.heap.FunFrames X.base l:=by
    intro l;induction l with
    |nil=>intro _ _;trivial
    | cons env r ih =>
      intro hs hl;obtain⟨hk,⟨L,o,hf,hn,U,hd⟩,hr⟩:=hl;have C:L∈X.fs:=hs L (by unfold frs;rw[qd,hf];exact bY);obtain⟨sl,e⟩:=I.base.slot L o U (I.ok.ou L C) C λz=>I.ok.qQ L z C;exact⟨hk,⟨L,_,hf,hn,e,hd⟩,ih (λb hb=>hs b (by unfold frs;rw[qd,hf];exact bA _ hb)) hr⟩
  exact all X.outer (λ_ hb=>hb) I.ok.jm
theorem Inv.stack(I:Inv X pins σ H s):s.heap.FunFrames X.base X.stack:=by
 rcases I.ok.stk with e|⟨e,hf⟩
 .rw[e];exact I.jm
 .rw[e];obtain⟨m,hn,_⟩:=I.loc;refine .cons (by rw[I.ok.kind];decide) hf hn ?_ I.jm;exact Heap.get?_none_of_le (fX I.ok.ny I.ok.above)
theorem Inv.CV(I:Inv X pins σ H s):∀b∈frs X.stack,b∈X.env.locals::X.fs:=λb hb=>by
 rcases I.ok.stk with e|⟨e,hf⟩
 .rw[e] at hb;exact bA _ hb
 .rw[e] at hb;unfold frs at hb;rw[qd,hf] at hb;exact hb
theorem Inv.JJ(I:Inv X pins σ H s):∀b∈frs X.stack,H b=none:=λb hb=>by
 rcases aA.mp (I.CV b hb) with e|hb
 .rw[e];exact I.free
 .obtain⟨_,o,U,_⟩:=I.ok.jm.mem hb;exact I.base.free b o U (I.ok.ou b hb) λz=>I.ok.qQ b z hb
theorem Inv.step(I:Inv X pins σ H s)
  (a:∀b∈ch,(b∈X.ex\/X.s₀.heap.objs.size<=b)/\b≠X.env.locals/\(∀x c,X.env.cells.lookup x=some c->c≠b)/\∀p∈X.pn++pins,p.1≠b)
  (keep:∀b o,b≠X.env.locals->b∉X.fs->b∉ch->s.heap.get? b=some o->H b=none->h'.get? b=some o)
  (slot:∀b o,b≠X.env.locals->b∈X.fs->b∉ch->s.heap.get? b=some o->H b=none->∃sl,h'.get? b=some {o with slots:=sl}) (free:∀b o,b∉ch->s.heap.get? b=some o->H b=none->H' b=none)
  (there:∀b o,b∉ch->s.heap.get? b=some o->∃o',h'.get? b=some o')
  (tups:∀b xs,H b=some (.tup xs)->H' b=some (.tup xs)) (lP:∀b o u,H b=some (.gH o u)->H' b=some (.gH o u)) (nv:∀b ps,H b=some (.nN ps)->∃more,H' b=some (.nN (ps++more)))
  (ns:∀m,s.heap.Ns X.env.locals m->h'.Ns X.env.locals m) (hok:cW X.prog X.w H' h') (hg:iz g'):
  Inv X pins σ H' {s with heap:=h',gens:=g',drawn:=d',toks:=t'}:=by
 have j:∀b o,X.s₀.heap.get? b=some o->b≠X.env.locals:=λb o e=>dz (eG (bF e) I.ok.above);have h:∀b o,X.s₀.heap.get? b=some o->b∉X.ex->b∉ch:=λb o e hx hb=>by
  rcases(a b hb).1 with z|z
  .exact hx z
  .exact absurd (eG (bF e) z) (jk _)
 have f:∀x c,X.env.cells.lookup x=some c->∀v,s.heap.IsCell c v->h'.IsCell c v:=λx c e v ⟨o,U,hd⟩=>by
  have g:c∉ch:=λz=>(a c z).2.2.1 x c e rfl;by_cases hc:c∈X.fs
  .obtain⟨sl,q⟩:=slot c o (I.nQ x c e) hc g U (I.jM x c e);exact⟨_,q,hd⟩
  .exact⟨o,keep c o (I.nQ x c e) hc g U (I.jM x c e),hd⟩
 refine⟨I.ok,I.os,hg,⟨λb o e n hb hx=>?_,λb o e n hb hx=>?_,λb o e n hx=>?_,λb o e hx=>?_,λb xs e=>tups b xs (I.base.tups b xs e),λb o xs e=>lP b o xs (I.base.lP b o xs e),λb ps e=>?_⟩,?_,λx c e=>?_,?_,λx c e=>?_,λp hp=>?_,hok,I.len⟩;·exact keep b o (j b o e) hb (h b o e hx) (I.base.keep b o e n hb hx) (I.base.free b o e n hx)
 .obtain⟨sl,e1⟩:=I.base.slot b o e n hb hx;obtain⟨t,e2⟩:=slot b _ (j b o e) hb (h b o e hx) e1 (I.base.free b o e n hx);exact⟨t,e2⟩
 .obtain⟨o',e1⟩:=I.base.there b o e hx;exact free b o' (h b o e hx) e1 (I.base.free b o e n hx)
 .obtain⟨o',e1⟩:=I.base.there b o e hx;exact there b o' (h b o e hx) e1
 .obtain⟨m1,e1⟩:=I.base.nv b ps e;obtain⟨m2,e2⟩:=nv b _ e1;exact⟨m1++m2,by rw[e2,kv]⟩
 .obtain⟨m,hn,hl⟩:=I.loc;refine⟨m,ns m hn,λi x v e1 e2 e3=>?_⟩;obtain⟨u,r,l⟩:=hl i x v e1 e2 e3;refine⟨u,r,?_⟩;rcases l with l|⟨k,c,e,z⟩
  .exact .inl l
  .exact .inr ⟨k,c,e,f x c e _ z⟩
 .obtain⟨v,z⟩:=I.cell x c e;exact⟨v,f x c e v z⟩
 .obtain⟨m,⟨o,_,_,U,_⟩,_⟩:=I.loc;exact free _ o (λz=>(a _ z).2.1 rfl) U I.free
 .obtain⟨v,o,U,hd⟩:=I.cell x c e;exact free c o (λz=>(a c z).2.2.1 x c e rfl) U (I.jM x c e)
 .obtain⟨e,n,ne,G,d⟩:=I.pin p hp;have g:p.1∉ch:=λz=>(a p.1 z).2.2.2 p hp rfl;exact⟨keep p.1 p.2 ne G g e n,free p.1 p.2 g e n,ne,G,d⟩
theorem Inv.un(I:Inv X pins σ H s)(u:Un X.fs [] H H' s.heap h')(hok:cW X.prog X.w H' h'):Inv X pins σ H' {s with heap:=h',toks:=t'}:=by
 obtain⟨m,⟨o,es,ep,U,r⟩,_⟩:=id I.loc;obtain⟨sl,C⟩:=u.any U I.free (by simp)
 exact I.step (g':=s.gens) (d':=s.drawn) (ch:=[]) (λ_ z=>nomatch z) (λb o _ hb _ e n=>u.keep b o e n hb (by simp)) (λb o _ hb _ e n=>u.slot b o e n hb (by simp)) (λb o _ e n=>u.free b o e n (by simp)) (λb o _ e=>u.there b o e (by simp)) u.tups u.lP u.nv (λm' hm=>by
  obtain⟨o',es',f,d,r'⟩:=hm;rw[U] at d;cases d
  exact⟨_,es',f,C,r'⟩) hok I.bare
theorem Inv.call(I:Inv X pins σ H s)(u:Un (frs X.stack) ch H H' s.heap h')(hok:cW X.prog X.w H' h')(hg:iz g')
  (a:∀b∈ch,(b∈X.ex\/X.s₀.heap.objs.size<=b)/\b≠X.env.locals/\(∀x c,X.env.cells.lookup x=some c->c≠b)/\∀p∈X.pn++pins,p.1≠b):
  Inv X pins σ H' {s with heap:=h',gens:=g',drawn:=d',toks:=t'}:=by
 obtain⟨m,⟨o,es,ep,U,r⟩,_⟩:=id I.loc;obtain⟨sl,C⟩:=u.any U I.free λz=>(a _ z).2.1 rfl
 exact I.step (ch:=ch) a (λb o C hb hc e n=>u.keep b o e n (λz=>(aA.mp (I.CV b z)).elim C hb) hc) (λb o _ _ hc e n=>u.any e n hc) (λb o hc e n=>u.free b o e n hc) (λb o hc e=>u.there b o e hc) u.tups u.lP u.nv (λm' hm=>by
  obtain⟨o',es',f,d,r'⟩:=hm;rw[U] at d;cases d
  exact⟨_,es',f,C,r'⟩) hok hg
theorem Inv.turned(I:Inv X pins σ H s)(k:∀b o,b≠it->s.heap.get? b=some o->h'.get? b=some o)(hn:H it=none)(C:it≠X.env.locals)
  (h1:it∈X.ex\/X.s₀.heap.objs.size<=it) (h2:∀x c,X.env.cells.lookup x=some c->c≠it) (h3:∀p∈X.pn++pins,p.1≠it):Inv X pins σ H {s with heap:=h',toks:=t'}:=by
 have a:∀b u,H b=some u->b≠it:=λb u e z=>by rw[z,hn] at e;cases e
 refine I.step (g':=s.gens) (d':=s.drawn) (ch:=[it]) (λb hb=>?_) (λb o _ _ hc e _=>k b o (λz=>hc (by simp[z])) e) (λb o _ _ hc e _=>⟨o.slots,k b o (λz=>hc (by simp[z])) e⟩) (λ_ _ _ _ n=>n)
  (λb o hc e=>⟨o,k b o (λz=>hc (by simp[z])) e⟩) (λ_ _ e=>e) (λ_ _ _ e=>e) (λb ps e=>⟨#[],by rw[e];simp⟩) (λm hm=>?_) (λb u e=>?_) I.bare
 .have e:b=it:=by simpa using hb
  subst e;exact⟨h1,C,h2,h3⟩
 .obtain⟨o,es,ep,U,r⟩:=hm;exact⟨o,es,ep,k _ o (bJ C) U,r⟩
 .refine(I.hok b u e).stay (λc v hc q=>k c v ?_ q) (λ_ q=>q) λ_ _ q=>q;rcases hc with z|z
  .rw[z];exact a b u e
  .exact a c _ z
theorem Inv.tok(I:Inv X pins σ H s)(t:Nat):Inv X pins σ H {s with toks:=t}:=I.un (h':=s.heap) (t':=t) Un.refl I.hok
theorem Inv.kept{t':Nat}(I:Inv X pins σ H s)(k:∀b u,s.heap.get? b=some u->h'.get? b=some u):Inv X pins σ H {s with heap:=h',toks:=t'}:=I.un (Un.kept k) (I.hok.kept k)
theorem Inv.laid{a:aw}{o:HO}{t':Nat}(I:Inv X pins σ H s)(k:∀b u,s.heap.get? b=some u->h'.get? b=some u)(hp:s.heap.objs.size<=a)(new:cA X.prog X.w (upd H a o) h' a o):
  Inv X pins σ (upd H a o) {s with heap:=h',toks:=t'}:=I.un (Un.laid k hp (I.hok.fresh hp)) (I.hok.laid k hp new)
theorem Inv.write{x e:aw}{o:HO}{t':Nat}(I:Inv X pins σ H s)(d:qR (H x))(he:e=x\/H e=some (.own x))(k:∀b u,b≠e->s.heap.get? b=some u->h'.get? b=some u)(f:∃u,h'.get? e=some u)
  (new:cA X.prog X.w (upd H x o) h' x o):Inv X pins σ (upd H x o) {s with heap:=h',toks:=t'}:=I.un (Un.write d he k f) (I.hok.write d he k f new)
theorem Inv.JO{a:List (aw×Obj)}(I:Inv X pins σ H s)(h:∀p∈a,s.heap.get? p.1=some p.2/\H p.1=none/\p.1≠X.env.locals/\p.1∉X.fs/\∀v,p.2.data≠ .cell v):Inv X a σ H s:=
 ⟨I.ok,I.os,I.bare,I.base,I.loc,I.cell,I.free,I.jM,λp hp=>(fK.mp hp).elim (λz=>I.pin p (qY _ z)) (h p),I.hok,I.len⟩
theorem EX(hN:N.Nodup){i j:Nat}{x:Str}(a:N[i]?=some x)(b:N[j]?=some x):i=j:=by
 obtain⟨h1,e1⟩:=bH.mp a;obtain⟨h2,e2⟩:=bH.mp b;exact(List.getElem_inj hN).mp (e1.trans e2.symm)
theorem Iw{v:V}{Q:Unit->ar->Prop}(I:Inv X pins σ H s)(hN:X.N.Nodup)(hi:X.N[i]?=some x)(hx:Loc X.env.scope x)(r:RelV v u)
  (h:∀s',Inv X pins (σ.set i (some v)) H s'->(∃a,eC a s.heap s'.heap/\(a=X.env.locals\/X.env.cells.lookup x=some a))->Q () s') (hf:X.fn x=true\/X.env.scope.names.lookup x=some .local:=by first|exact .inl rfl|exact .inr rfl|assumption):wpAny M A (storeName X.env x u) Q E s:=by
 obtain⟨m,hn,hl⟩:=id I.loc;have J:(X.env.scope.kind== .class||(X.env.scope.kind== .module && X.env.locals !=X.env.globals))=false:=by rw[I.ok.kind];rfl
 have P:i<σ.length:=by rw[I.len];exact(bH.mp hi).1
 have nQ:=I.nQ;have g:∀{a:aw} {h':ek},(∃o,s.heap.get? a=some o/\H a=none)->eC a s.heap h'->cW X.prog X.w H h':=λ{a h'} ha hs b ob e=>by
  obtain⟨_,_,f⟩:=ha;refine(I.hok b ob e).stay (λc w' hc q=>(hs.2 c ?_).trans q) (λ_ q=>q) λ_ _ q=>q;rintro rfl;rcases hc with rfl|hc
  .rw[f] at e;cases e
  .rw[f] at hc;cases hc
 rcases hx with hk|hk
 .refine wpAny_storeName_local hk hn (λh' O hs=>?_) J;obtain⟨T,_,_,S,_⟩:=id hn;refine h _ ⟨I.ok,I.os,I.bare,⟨λb o e n hb hx=>?_,λb o e n hb hx=>?_,I.base.free,λb o e hx=>?_,I.base.tups,I.base.lP,I.base.nv⟩,⟨_,O,λj y t e1 e2 e3=>?_⟩,λy c e=>?_,I.free,I.jM,λp hp=>?_,g ⟨T,S,I.free⟩ hs,by simpa using I.len⟩ ⟨_,hs, .inl rfl⟩;·exact(hs.2 b (dz (eG (bF e) I.ok.above))).trans (I.base.keep b o e n hb hx)
  .obtain⟨sl,e1⟩:=I.base.slot b o e n hb hx;exact⟨sl,(hs.2 b (dz (eG (bF e) I.ok.above))).trans e1⟩
  .obtain⟨o',e1⟩:=I.base.there b o e hx;exact⟨o',(hs.2 b (dz (eG (bF e) I.ok.above))).trans e1⟩
  .by_cases hj:j=i
   .subst hj;rw[hi] at e1;cases e1
    rw[cD P] at e2;cases e2;exact⟨u,r, .inl ⟨hk,by simp⟩⟩
   .rw[bu (bJ hj)] at e2;obtain⟨L,r',q⟩:=hl j y t e1 e2 e3;refine⟨L,r',?_⟩;rcases q with ⟨k,e⟩|⟨k,c,e,z⟩
    .refine .inl ⟨k,?_⟩;have:y≠x:=λe=>hj (EX hN e1 (e▸hi));simp[this,e]
    .exact .inr ⟨k,c,e,z.sameBut hs (nQ y c e)⟩
  .obtain⟨w',z⟩:=I.cell y c e;exact⟨w',z.sameBut hs (nQ y c e)⟩
  .obtain⟨e,n,ne,G,d⟩:=I.pin p hp;exact⟨(hs.2 p.1 ne).trans e,n,ne,G,d⟩
 .have F:X.fn x=true:=by
   rcases hf with z|z
   .exact z
   .rw[z] at hk;cases hk
  obtain⟨c,hc⟩:=I.ok.has x (.inl hk);obtain⟨w',z⟩:=I.cell x c hc;refine wpAny_storeName_cell I.ok.kind hk hc z (λh' l hs=>?_);obtain⟨oc,C,R⟩:=id z;refine h {s with heap:=h'} ⟨I.ok,I.os,I.bare,⟨λb o e n hb hx=>?_,λb o e n hb hx=>?_,I.base.free,λb o e hx=>?_,I.base.tups,I.base.lP,I.base.nv⟩,⟨m,hn.sameBut hs (bJ (nQ x c hc)),λj y t e1 e2 e3=>?_⟩,λy c' e=>?_,I.free,I.jM,λp hp=>?_,g ⟨oc,C,I.jM x c hc⟩ hs,by simpa using I.len⟩ ⟨c,hs, .inr hc⟩;·exact(hs.2 b (dz (eG (bF e) (I.ok.qB x c F hc)))).trans (I.base.keep b o e n hb hx)
  .obtain⟨sl,e1⟩:=I.base.slot b o e n hb hx;exact⟨sl,(hs.2 b (dz (eG (bF e) (I.ok.qB x c F hc)))).trans e1⟩
  .obtain⟨o',e1⟩:=I.base.there b o e hx;exact⟨o',(hs.2 b (dz (eG (bF e) (I.ok.qB x c F hc)))).trans e1⟩
  .by_cases hj:j=i
   .subst hj;rw[hi] at e1;cases e1
    rw[cD P] at e2;cases e2;exact⟨u,r, .inr ⟨.inl hk,c,hc,l⟩⟩
   .rw[bu (bJ hj)] at e2;obtain⟨L,r',q⟩:=hl j y t e1 e2 e3;refine⟨L,r',?_⟩;rcases q with q|⟨k,c',e,z'⟩
    .exact .inl q
    .refine .inr ⟨k,c',e,z'.sameBut hs ?_⟩;rintro rfl;exact hj (EX hN e1 (I.ok.inj _ _ _ e hc▸hi))
  .by_cases K:c'=c;·subst K;exact⟨_,l⟩
   .obtain⟨B,z2⟩:=I.cell y c' e;exact⟨B,z2.sameBut hs K⟩
  .obtain⟨e,n,ne,G,d⟩:=I.pin p hp;refine⟨(hs.2 p.1 ?_).trans e,n,ne,G,d⟩;intro q;rw[q,C] at e;have D:oc=p.2:=ie e;exact d w' (by rw[<-D];exact R)
theorem GG{v:V}{Q:Unit->ar->Prop}(I:Inv X pins σ H s)(hN:X.N.Nodup)(hi:X.N[i]?=some x)(hx:Loc X.env.scope x)(r:RelV v u)
  (h:∀s',Inv X pins (σ.set i (some v)) H s'->Q () s') (hf:X.fn x=true\/X.env.scope.names.lookup x=some .local:=by first|exact .inl rfl|exact .inr rfl|assumption):wpAny M A (storeName X.env x u) Q E s:=
 Iw I hN hi hx r (λs' b _=>h s' b) hf
theorem Inv.Um{s':ar}(I:Inv X pins σ H s)(U:s'.os=s.os)(u:Un (frs X.stack) ch H H' s.heap s'.heap)(hok:cW X.prog X.w H' s'.heap)(hg:iz s'.gens)
  (a:∀b∈ch,(b∈X.ex\/X.s₀.heap.objs.size<=b)/\b≠X.env.locals/\(∀x c,X.env.cells.lookup x=some c->c≠b)/\∀p∈X.pn++pins,p.1≠b):Inv X pins σ H' s':=by
 obtain⟨h',g',d',t',o'⟩:=s';have e:o'=s.os:=U;subst e;exact I.call (g':=g') (t':=t') (d':=d') u hok hg a
end
abbrev XK:=ag->Option aw->Hp->Prop
noncomputable abbrev qb:=List (Option V)
abbrev VK:=V->Hp->Prop
abbrev TE:=qb->Hp->VK->Prop
abbrev TT:=qb->Hp->(Bool->Hp->Prop)->Prop
abbrev TA:=qb->Hp->(List V->Hp->Prop)->Prop
structure Ends where
 nx:qb->Hp->Prop
 rt:VK
 bk:qb->Hp->Prop:=λ_ _=>False
 ct:qb->Hp->Prop:=λ_ _=>False
abbrev TS:=Ends->qb->Hp->Prop
def EP(X:Cx)(pins:List (aw×Obj))(σ:qb)(Q:VK)(u:ag)(s':ar):Prop:=∃v H',Inv X pins σ H' s'/\RelV v u/\Q v H'
def TP(X:Cx)(pins:List (aw×Obj))(σ:qb)(Q:Bool->Hp->Prop)(b:Bool)(s':ar):Prop:=∃H',Inv X pins σ H' s'/\Q b H'
def AP(X:Cx)(pins:List (aw×Obj))(σ:qb)(Q:List V->Hp->Prop)(us:List ag)(s':ar):Prop:=∃vs H',Inv X pins σ H' s'/\Vals vs us/\Q vs H'
def SP(X:Cx)(pins:List (aw×Obj))(D:Ends)(f:Flow)(s':ar):Prop:=
 match f with
 | .next=>∃L H',Inv X pins L H' s'/\D.nx L H'
 | .brk=>∃L H',Inv X pins L H' s'/\D.bk L H'
 | .cont=>∃L H',Inv X pins L H' s'/\D.ct L H'
 | .ret u=>∃v L H',Inv X pins L H' s'/\RelV v u/\D.rt v H'
def PE(X:Cx)(e:eu)(t:TE):Prop:=
 ∀(pins:List (aw×Obj)) (s:ar) (σ:qb) (H:Hp) (Q:VK),Inv X pins σ H s->t σ H Q->wpAny (a6 X.prog X.w) X.A (eval e X.env) (EP X pins σ Q) X.xe s
def PT(X:Cx)(e:eu)(t:TT):Prop:=
 ∀(pins:List (aw×Obj)) (s:ar) (σ:qb) (H:Hp) (Q:Bool->Hp->Prop),Inv X pins σ H s->t σ H Q->wpAny (a6 X.prog X.w) X.A (isTrue e X.env (eval e X.env)) (TP X pins σ Q) X.xe s
def PW(X:Cx)(e:eu)(t:TT):Prop:=
 ∀(whole:Sem ag) (pins:List (aw×Obj)) (s:ar) (σ:qb) (H:Hp) (Q:Bool->Hp->Prop),Inv X pins σ H s->t σ H Q->wpAny (a6 X.prog X.w) X.A (isTrue e X.env whole) (TP X pins σ Q) X.xe s
theorem PW.pt{X:Cx}{t:TT}(h:PW X e t):PT X e t:=h _
def PA(X:Cx)(es:List eu)(t:TA):Prop:=
 ∀(pos:Pos) (pins:List (aw×Obj)) (s:ar) (σ:qb) (H:Hp) (Q:List V->Hp->Prop),Inv X pins σ H s->t σ H Q->wpAny (a6 X.prog X.w) X.A (spliced (ij pos (cn es X.env))) (AP X pins σ Q) X.xe s
def PS(X:Cx)(st:ft)(t:TS):Prop:=
 ∀(pins:List (aw×Obj)) (s:ar) (σ:qb) (H:Hp) (D:Ends),Inv X pins σ H s->t D σ H->wpAny (a6 X.prog X.w) X.A (exec st X.env) (SP X pins D) X.xe s
def iX(X:Cx)(st:List ft)(t:TS):Prop:=
 ∀(pins:List (aw×Obj)) (s:ar) (σ:qb) (H:Hp) (D:Ends),Inv X pins σ H s->t D σ H->wpAny (a6 X.prog X.w) X.A (execs st X.env) (SP X pins D) X.xe s
theorem aJ{α:Type}{t:Sem α}{Q g:α->ar->Prop}(h:wpAny M A t Q E s)(C:∀a s,Q a s->g a s):wpAny M A t g E s:=er h C λ_ _ x=>x
section
variable{X:Cx}
def bz(i:Nat):TE:=λσ H Q=>∃v,σ[i]?=some (some v)/\Q v H
def tC(v:V):TE:=λ_ H Q=>Q v H
theorem WX(hN:X.N[i]?=some x)(hv:zf X.env.scope x)(hd:(x==("__debug__":Str))=false:=by decide)(j:(x==("__classdict__":Str))=false:=by decide):PE X (.Name x pos) (bz i):=by
 intro pins s σ H Q I h;obtain⟨v,e,h⟩:=h;obtain⟨m,hn,hl⟩:=I.loc;obtain⟨u,r,l⟩:=hl i x v hN e hv;have fin:EP X pins σ Q u s:=⟨v,H,I,r,h⟩;rcases l with ⟨hk,hm⟩|⟨hk,c,hc,hcell⟩
 .exact qK (wpAny_loadName_local I.ok.kind hk hn hm fin) hd
 .rcases hk with hk|hk
  .exact qK (wpAny_loadName_cell I.ok.kind hk hc hcell fin) hd
  .exact qK (wpAny_loadName_free I.ok.kind hk hc hcell fin j) hd
theorem ai{i j pos}:PE X (.Constant (.int i) j pos) (tC (.int i)):=λ_ _ _ H _ I h=>wpAny_Constant_int ⟨.int i,H,I.tok _,⟨_,rfl⟩,h⟩
theorem oF{b j pos}:PE X (.Constant (.bool b) j pos) (tC (.bl b)):=λ_ _ _ H _ I h=>Constant_bool ⟨.bl b,H,I,rfl,h⟩
theorem j6{j pos}:PE X (.Constant .none j pos) (tC .aD):=λ_ _ _ H _ I h=>Constant_none ⟨.aD,H,I,rfl,h⟩
def Gl(X:Cx)(x:Str):Prop:=X.env.kindOf x=some .globalImplicit
theorem Fi{σ:qb}{H:Hp}(I:Inv X pins σ H s)(hg:Gl X x)(hm:X.mg x=some u)(h:Q u s)
  (hd:(x==("__debug__":Str))=false:=by decide):wpAny (a6 X.prog X.w) X.A (eval (.Name x pos) X.env) Q E s:=
 HU I.ok.kind hg (Calls.loadGlobal_global (by rw[I.ok.glob];exact I.mod.glob.keeps I.bk) hm h) hd
theorem pC{σ:qb}{H:Hp}(I:Inv X pins σ H s)(hg:Gl X x)(hm:X.mg x=none)(hv:fR x=some u)(h:Q u s)
  (hn:x≠"__name__":=by decide) (hd:(x==("__debug__":Str))=false:=by decide):wpAny (a6 X.prog X.w) X.A (eval (.Name x pos) X.env) Q E s:=by
 obtain⟨mb,h1,h2⟩:=I.mod.blt;exact HU I.ok.kind hg (Calls.loadGlobal_builtin (by rw[I.ok.glob];exact I.mod.glob.keeps I.bk) hm (by rw[I.ok.blt];exact h1.keeps I.bk) ((h2 x hn).trans hv) h) hd
theorem jl{v:V}(hg:Gl X x)(hm:X.mg x=none)(hv:fR x=some u)(r:RelV v u)(hn:x≠"__name__":=by decide)(hd:(x==("__debug__":Str))=false:=by decide):PE X (.Name x pos) (tC v):=
 λ_ _ _ H _ I h=>pC I hg hm hv ⟨v,H,I,r,h⟩ hn hd
variable{a b:eu}{ta tb:TE}{pos:Pos}
def PC(X:Cx)(op:CmpOp)(a b:eu)(t:TE):Prop:=
 ∀(pins:List (aw×Obj)) (s:ar) (σ:qb) (H:Hp) (Q:VK),Inv X pins σ H s->t σ H Q->
  wpAny (a6 X.prog X.w) X.A (eval a X.env) (λv s₁=>wpAny (a6 X.prog X.w) X.A (eval b X.env) (λu d=>wpAny (a6 X.prog X.w) X.A (dy op v u) (EP X pins σ Q) X.xe d) X.xe s₁) X.xe s
variable{tA vC:TT}{rest:List eu}
def zL(t u:TT):TT:=λσ H Q=>t σ H λc H1=>if c=true then u σ H1 Q else Q false H1
def CI(t u:TT):TT:=λσ H Q=>t σ H λc H1=>if c=true then Q true H1 else u σ H1 Q
def z9(t:TT):TT:=λσ H Q=>t σ H λc H1=>Q (!c) H1
theorem lG(ha:PT X a tA):PW X (.BoolOp .And [a] pos) tA:=by
 intro wh pins s σ H Q I h;refine isTrue_and (aJ (ha pins s σ H Q I h) λc s1 e=>?_);cases c with
 |true=>exact isTrue_and_nil e
 |false=>exact e
theorem vP(ha:PT X a tA):PW X (.BoolOp .Or [a] pos) tA:=by
 intro wh pins s σ H Q I h;refine isTrue_or (aJ (ha pins s σ H Q I h) λc s1 e=>?_);cases c with
 |false=>exact isTrue_or_nil e
 |true=>exact e
theorem lB(ha:PT X a tA)(hb:PW X (.BoolOp .And (b::rest) pos) vC):PW X (.BoolOp .And (a::b::rest) pos) (zL tA vC):=by
 intro wh pins s σ H Q I h;refine isTrue_and (aJ (ha pins s σ H _ I h) λc s1 ⟨H1,I1,J⟩=>?_);cases c with
 |true=>exact hb wh pins s1 σ H1 Q I1 J
 |false=>exact⟨H1,I1,J⟩
theorem ve(ha:PT X a tA)(hb:PW X (.BoolOp .Or (b::rest) pos) vC):PW X (.BoolOp .Or (a::b::rest) pos) (CI tA vC):=by
 intro wh pins s σ H Q I h;refine isTrue_or (aJ (ha pins s σ H _ I h) λc s1 ⟨H1,I1,J⟩=>?_);cases c with
 |true=>exact⟨H1,I1,J⟩
 |false=>exact hb wh pins s1 σ H1 Q I1 J
theorem xu(ha:PT X a tA):PT X (.UnaryOp .Not a pos) (z9 tA):=by
 intro pins s σ H Q I h;exact isTrue_not (ha pins s σ H (λc H1=>Q (!c) H1) I h)
def G9(ta tb:TE):TE:=λσ H Q=>ta σ H λx H1=>∃c,x= .bl c/\if c=true then tb σ H1 Q else Q (.bl false) H1
theorem MV{op}{t:TE}(h:PE X a t):PE X (.BoolOp op [a] pos) t:=λpins s σ H Q I hw=>BoolOp_one (h pins s σ H Q I hw)
theorem Xp(ha:PE X a ta)(hb:PE X (.BoolOp .And (b::rest) pos) tb):PE X (.BoolOp .And (a::b::rest) pos) (G9 ta tb):=by
 intro pins s σ H Q I h;refine BoolOp_and (aJ (ha pins s σ H _ I h) λv s1 ⟨x,H1,I1,O,J⟩=>?_);obtain⟨c,rfl,J⟩:=J;cases O;refine fw ?_;cases c with
 |true=>exact hb pins s1 σ H1 Q I1 J
 |false=>exact⟨.bl false,H1,I1,rfl,J⟩
def HL(t:TT)(ta tb:TE):TE:=λσ H Q=>t σ H λc H1=>if c=true then ta σ H1 Q else tb σ H1 Q
theorem zX{c:eu}(hc:PT X c tA)(ha:PE X a ta)(hb:PE X b tb):PE X (.IfExp c a b pos) (HL tA ta tb):=by
 intro pins s σ H Q I h;refine wpAny_IfExp (aJ (hc pins s σ H _ I h) λd s1 ⟨H1,I1,J⟩=>?_);cases d with
 |true=>exact ha pins s1 σ H1 Q I1 J
 |false=>exact hb pins s1 σ H1 Q I1 J
end
def aO(K:PySem.W.Frag)(H:Hp)(a:aw)(xs:List V):Prop:=
 Rd H a (.lst xs)\/
  ∃(o:Obj) (its:Array ag) (n:Nat),K.lookup a=some o/\o.cls= .type "list" /\o.dict=none/\o.data= .seq its n/\its.size<=sizeLine/\Vals xs its.toList
def fY(K:PySem.W.Frag)(H:Hp)(a:aw)(xs:List V):Prop:=
 Rd H a (.tup xs)\/
  ∃(o:Obj) (its:Array ag) (n:Nat),K.lookup a=some o/\o.cls= .type "tuple" /\o.data= .seq its n/\its.size<=sizeLine/\Vals xs its.toList
noncomputable def WY:ag->Option V
 | .none=>some .aD
 | .bool b=>some (.bl b)
 | .int i _=>some (.int i)
 | .str x _=>some (.str x)
 | .bytes b _=>some (.iM b)
 | .float b _=>some (.kG b)
 | .ref a=>some (.ref a)
 | .type n=>some (.ty n)
 |_=>none
theorem RelV.abs{x:V}(r:RelV x u):WY u=some x:=by
 cases x with
 |aD=>cases r;rfl
 |bl _=>cases r;rfl
 |int _=>obtain⟨t,rfl⟩:=r;rfl
 |str _=>obtain⟨t,rfl⟩:=r;rfl
 |iM _=>obtain⟨t,rfl⟩:=r;rfl
 |kG _=>obtain⟨t,rfl⟩:=r;rfl
 |ref _=>cases r;rfl
 |ty _=>cases r;rfl
theorem RelV.inj{x y:V}(r:RelV x u)(q:RelV y u):x=y:=ie (r.abs.symm.trans q.abs)
theorem Vals.inj{xs ys:List V}{us:List ag}(h:Vals xs us)(k:Vals ys us):xs=ys:=by
 induction h generalizing ys with
 |nil=>cases k;rfl
 |cons r t ih=>cases k with|cons r' t'=>rw[r.inj r',ih t']
section
variable{X:Cx}{pins:List (aw×Obj)}{σ:qb}{H:Hp}{s:ar}{a:aw}{xs ys:List V}
theorem aO.of{K:PySem.W.Frag}(h:H a=some (.lst xs)):aO K H a xs:= .inl (.inl h)
theorem fY.of{K:PySem.W.Frag}(h:H a=some (.tup xs)):fY K H a xs:= .inl (.inl h)
theorem Inv.list(I:Inv X pins σ H s)(h:aO X.K H a xs):∃its:List ag,Vals xs its/\PlainL s.heap a its.toArray/\xs.length<=sizeLine:=by
 rcases h with h|⟨o,its,n,hk,hc,hd,hs,hz,r⟩
 .obtain⟨z,its,n,r,e⟩:=h.ok I.hok;exact⟨its,r,⟨_,n,e,rfl,rfl,rfl⟩,z⟩
 .refine⟨its.toList,r,⟨o,n,I.cE a o hk,hc,hd,by simpa using hs⟩,?_⟩;have e:=r.length;simp only[cX] at e;omega
theorem Inv.tuple(I:Inv X pins σ H s)(h:fY X.K H a xs):∃its:List ag,Vals xs its/\IsTup s.heap a its.toArray/\xs.length<=sizeLine:=by
 rcases h with h|⟨o,its,n,hk,hc,hs,hz,r⟩
 .obtain⟨z,its,r,p⟩:=h.ok I.hok;exact⟨its,r,p,z⟩
 .refine⟨its.toList,r,⟨o,I.cE a o hk,hc,n,by simpa using hs⟩,?_⟩;have e:=r.length;simp only[cX] at e;omega
theorem Inv.IW(I:Inv X pins σ H s)(h:aO X.K H a xs)(h':aO X.K H a ys):xs=ys:=by
 obtain⟨its,r,⟨o,n,e,_,_,d⟩,_⟩:=I.list h;obtain⟨its',r',⟨o',c,e',_,_,d'⟩,_⟩:=I.list h';rw[e] at e';cases e'
 rw[d] at d';injection d' with d1 _
 have:its=its':=by simpa using congrArg Array.toList d1
 subst this;exact r.inj r'
end
noncomputable abbrev Cx.kK(X:Cx)(E:ag->ar->Prop):Cx:={X with xe:=E}
noncomputable abbrev Cx.u7(X:Cx):Cx:=X.kK λ_ _=>False
theorem Cx.Ok.kK{X:Cx}(ok:X.Ok)(E:ag->ar->Prop):(X.kK E).Ok:=
 ⟨ok.mod,ok.kind,ok.glob,ok.blt,ok.above,ok.inj,ok.has,ok.qB,ok.hd,ok.frames,ok.stk,ok.yh,ok.bs,ok.ny,ok.qP,ok.qQ,ok.jm,ok.ou⟩
theorem Cx.Ok.mX{X:Cx}(ok:(X.kK E).Ok):X.Ok:=
 ⟨ok.mod,ok.kind,ok.glob,ok.blt,ok.above,ok.inj,ok.has,ok.qB,ok.hd,ok.frames,ok.stk,ok.yh,ok.bs,ok.ny,ok.qP,ok.qQ,ok.jm,ok.ou⟩
section
variable{X:Cx}{pins:List (aw×Obj)}{σ:qb}{H:Hp}{s:ar}{E:ag->ar->Prop}
theorem Inv.kK(I:Inv X pins σ H s)(E:ag->ar->Prop):Inv (X.kK E) pins σ H s:=⟨I.ok.kK E,I.os,I.bare,I.base,I.loc,I.cell,I.free,I.jM,I.pin,I.hok,I.len⟩
theorem Inv.mX(I:Inv (X.kK E) pins σ H s):Inv X pins σ H s:=⟨I.ok.mX,I.os,I.bare,I.base,I.loc,I.cell,I.free,I.jM,I.pin,I.hok,I.len⟩
theorem SP.mX{D:Ends}{f:Flow}{s':ar}(h:SP (X.kK E) pins D f s'):SP X pins D f s':=by
 cases f with
 |next=>obtain⟨L,H',I,q⟩:=h;exact⟨L,H',I.mX,q⟩
 |brk=>obtain⟨L,H',I,q⟩:=h;exact⟨L,H',I.mX,q⟩
 |cont=>obtain⟨L,H',I,q⟩:=h;exact⟨L,H',I.mX,q⟩
 |ret u=>obtain⟨v,L,H',I,r,q⟩:=h;exact⟨v,L,H',I.mX,r,q⟩
theorem iX.u7{st:List ft}{t:TS}(h:iX X.u7 st t):iX X st t:=λpins s σ H D I hw=>
 er (h pins s σ H D (I.kK _) hw) (λ_ _ q=>q.mX) λ_ _ z=>dC z
end
section
variable{X:Cx}{st:ft}{rest:List ft}{t u:TS}{e:eu}{te:TE}{pos:Pos}
def Cz:TS:=λD σ H=>D.nx σ H
def rN(t u:TS):TS:=λD σ H=>t {D with nx:=u D} σ H
theorem fy:iX X [] Cz:=λ_ _ σ H _ I h=>gL ⟨σ,H,I,h⟩
theorem aB(h1:PS X st t)(h2:iX X rest u):iX X (st::rest) (rN t u):=by
  intro pins s σ H D I h;refine m9 (aJ (h1 pins s σ H {D with nx:=u D} I h) λf s1 q=>?_);cases f with
  | next =>
    obtain⟨L,H',b,q⟩:=q;exact h2 pins s1 L H' D b q
  |ret v=>exact q
  |brk=>exact q
  |cont=>exact q
theorem aL(h1:PS X st t):iX X [st] t:=by
 intro pins s σ H D I h;refine m9 (aJ (h1 pins s σ H D I h) λf s1 q=>?_);cases f with
 |next=>exact gL q
 |ret v=>exact q
 |brk=>exact q
 |cont=>exact q
def Xk:TS:=λD σ H=>D.bk σ H
def SW:TS:=λD σ H=>D.ct σ H
theorem Inv.quiet{σ:qb}{H:Hp}(I:Inv X pins σ H s):interactive X.env=false:=by simp[interactive,I.ok.kind]
def o8(te:TE):TS:=λD σ H=>te σ H λ_ H1=>D.nx σ H1
theorem oA(he:PE X e te)(hs:n7 e none pos.line X.env=pure false:=by rfl):PS X (.Expr e pos) (o8 te):=by
 intro pins s σ H D I h;exact wpAny_Expr_any (aJ (he pins s σ H _ I h) λv s1 ⟨x,H1,I1,O,J⟩=>⟨σ,H1,I1,J⟩) I.quiet hs
def oU(te:TE):TS:=λD σ H=>te σ H D.rt
theorem bh(he:PE X e te):PS X (.Return (some e) pos) (oU te):=by
 intro pins s σ H D I h;exact wpAny_Return_some (aJ (he pins s σ H _ I h) λv s1 ⟨x,H1,I1,O,J⟩=>⟨x,σ,H1,I1,O,J⟩)
def ue(c:TT)(t u:TS):TS:=λD σ H=>c σ H λb H1=>if b=true then t D σ H1 else u D σ H1
theorem fj{c:eu}{a b:List ft}{tc:TT}(hc:PT X c tc)(ha:iX X a t)(hb:iX X b u):PS X (.If c a b pos) (ue tc t u):=by
 intro pins s σ H D I h;refine wpAny_If (aJ (hc pins s σ H _ I h) λd s1 ⟨H1,I1,J⟩=>?_);cases d with
 |true=>exact ha pins s1 σ H1 D I1 J
 |false=>exact hb pins s1 σ H1 D I1 J
end
abbrev TG:=V->qb->Hp->(qb->Hp->Prop)->Prop
abbrev iB:=List V->qb->Hp->(qb->Hp->Prop)->Prop
def PG(X:Cx)(a:eu)(t:TG):Prop:=
 ∀(pins:List (aw×Obj)) (s:ar) (σ:qb) (H:Hp) (v:V) (u:ag) (Q:qb->Hp->Prop),Inv X pins σ H s->RelV v u->t v σ H Q->
  wpAny (a6 X.prog X.w) X.A (q4 a X.env u) (λ_ s'=>∃L H',Inv X pins L H' s'/\Q L H') X.xe s
def rE(X:Cx)(ts:List eu)(t:iB):Prop:=
 ∀(pins:List (aw×Obj)) (s:ar) (σ:qb) (H:Hp) (vs:List V) (us:List ag) (Q:qb->Hp->Prop),Inv X pins σ H s->Vals vs us->t vs σ H Q->
  wpAny (a6 X.prog X.w) X.A (assignInOrder ((fx ts X.env).map (·.2)) us) (λ_ s'=>∃L H',Inv X pins L H' s'/\Q L H') X.xe s
abbrev uS:=V->V->V->Hp->(Hp->Prop)->Prop
def Bx(X:Cx)(t:uS):Prop:=
 ∀(pins:List (aw×Obj)) (s:ar) (σ:qb) (H:Hp) (o i v:V) (b a u:ag) (Q:Hp->Prop),Inv X pins σ H s->RelV o b->RelV i a->RelV v u->t o i v H Q->
  wpAny (a6 X.prog X.w) X.A (setItem b a u) (λ_ s'=>∃H',Inv X pins σ H' s'/\Q H') X.xe s
section
variable{X:Cx}{pos:Pos}
def gc(i:Nat):TG:=λv σ H Q=>Q (σ.set i (some v)) H
theorem aY(hN:X.N.Nodup)(hi:X.N[i]?=some x)(hx:Loc X.env.scope x)(hf:X.fn x=true\/X.env.scope.names.lookup x=some .local:=by first|exact .inl rfl|exact .inr rfl|assumption):PG X (.Name x pos) (gc i):=by
 intro pins s σ H v u Q I r h;exact lZ (GG I hN hi hx r (λs' b=>⟨_,H,b,h⟩) hf)
def zW:iB:=λvs σ H Q=>vs=[]/\Q σ H
def zG(t:TG)(u:iB):iB:=λvs σ H Q=>∃v r,vs=v::r/\t v σ H λL H'=>u r L H' Q
theorem j7:rE X [] zW:=by
 intro pins s σ H vs us Q I r h;obtain⟨e,h⟩:=h;subst e;cases r;exact assignInOrder_nil ⟨σ,H,I,h⟩
theorem dg{e:eu}{es:List eu}{t:TG}{u:iB}(h1:PG X e t)(h2:rE X es u)
    (hs:(fx (e::es) X.env).map (·.2)=q4 e X.env::(fx es X.env).map (·.2):=by rfl):rE X (e::es) (zG t u):=by
  intro pins s σ H vs us Q I r h;obtain⟨v,vr,e1,h⟩:=h;subst e1;cases r with
  | cons r f =>
    rw[hs];refine assignInOrder_cons (aJ (h1 pins s σ H _ _ _ I r h) λ_ s1 ⟨a,H1,I1,J⟩=>?_);exact h2 pins s1 a H1 _ _ Q I1 f J
def wj(K:PySem.W.Frag)(n:Nat)(t:iB):TG:=λv σ H Q=>∃a xs,v= .ref a/\fY K H a xs/\xs.length=n/\t xs σ H Q
theorem Lx{es:List eu}{k:Nat}{t:iB}(hc:X.calm=true)(h:rE X es t)
  (hn:(fx es X.env).length=n:=by rfl) (d:(fx es X.env).findIdx? (·.1)=none:=by rfl):PG X (.Tuple es k pos) (wj X.K n t):=by
 intro pins s σ H v u Q I r hw;obtain⟨a,xs,e1,hq,hl,hw⟩:=hw;subst e1;cases r;obtain⟨its,rv,ht,hz⟩:=I.tuple hq;refine assign_Tuple_tuple (I.ok.hd hc) ht (by simp[hn,<-hl,rv.length]) d λh' hx=>?_;have I1:Inv X pins σ H {s with heap:=h'}:=I.kept (t':=s.toks) λb o e=>hx b o (dz (bF e)) e;exact h pins _ σ H xs _ Q I1 (by simpa using rv) hw
def nU(to c:TE)(t:uS):TG:=λv σ H Q=>to σ H λo H1=>c σ H1 λi H2=>t o i v H2 λH3=>Q σ H3
theorem ly{o i:eu}{to c:TE}{t:uS}(U:PE X o to)(hi:PE X i c)(hs:Bx X t)
  (ha : ∀ v, assign (.Subscript o i pos) X.env v = (do
   let b<-holding [v] (eval o X.env)
   let a<-holding [v,b] (eval i X.env)
   standAt pos
   holding [v,b,a] (setItem b a v)
   release [v,b,a] []):=by intro _;rfl):PG X (.Subscript o i pos) (nU to c t):=by
 intro pins s σ H v u Q I r h;rw[ha];refine ae (dk (aJ (U pins s σ H _ I h) λb s1 ⟨x,H1,I1,O,J⟩=>?_));refine ae (dk (aJ (hi pins s1 σ H1 _ I1 J) λa s2 ⟨y,H2,I2,N,M⟩=>?_));refine ae (ky (ae (dk (aJ (hs pins s2 σ H2 x y v b a u _ I2 O N r M) λ_ s3 ⟨H3,I3,q3⟩=>?_))));exact wpAny_release ⟨σ,H3,I3,q3⟩
def fP(te:TE)(g:TG):TS:=λD σ H=>te σ H λx H1=>g x σ H1 D.nx
theorem jr{te:TE}{g:TG}(he:PE X e te)(hg:PG X tg g)(hs:swapsWithSole [tg] e pos.line X.env=pure false:=by rfl)(hw:swappedStores [tg] e X.env=pure none:=by rfl)
  (h1:(fx [tg] X.env).map (·.2)=[q4 tg X.env]:=by rfl):PS X (.Assign [tg] e pos) (fP te g):=by
 intro pins s σ H D I h;refine wpAny_Assign_stores (aJ (he pins s σ H _ I h) λv s1 ⟨x,H1,I1,O,J⟩=>?_) hs hw;rw[h1];exact aJ (hg pins s1 σ H1 x v _ I1 O J) λ_ s2 q=>q
theorem bq{i:Nat}{x:Str}{e:eu}{te:TE}{pos':Pos}(hN:X.N.Nodup)(hi:X.N[i]?=some x)(hx:Loc X.env.scope x)(he:PE X e te)(hs:n7 e (some (.Name x pos')) pos.line X.env=pure false:=by rfl)(hf:X.fn x=true\/X.env.scope.names.lookup x=some .local:=by first|exact .inl rfl|exact .inr rfl|assumption):
  PS X (.Assign [.Name x pos'] e pos) (fP te (gc i)):=by
 intro pins s σ H D I h;refine wpAny_Assign_Name (aJ (he pins s σ H _ I h) λv s1 ⟨y,H1,I1,O,J⟩=>?_) hs;exact GG I1 hN hi hx O (λs2 I2=>⟨_,H1,I2,J⟩) hf
end
section
variable{X:Cx}{pos:Pos}
def Ad(c:TT)(tb:TS):TS:=λD σ H=>∃W:Nat->qb->Hp->Prop,(∃m,W m σ H)/\∀m σ H,W m σ H->
 c σ H λb H1=>if b=true then∃N:qb->Hp->Prop,(∀L H',N L H'->∃m',m'<m/\W m' L H')/\tb {D with nx:=N,ct:=N,bk:=D.nx} σ H1 else D.nx σ H1
theorem Ey{c:eu}{a:List ft}{tc:TT}{tb:TS}(hp:PassesOwn (a6 X.prog X.w) X.A X.env X.xe)(hc:PT X c tc)(hb:iX X a tb):PS X (.While c a [] pos) (Ad tc tb):=by
  intro pins s σ H D I h;obtain⟨W,⟨V,w0⟩,E⟩:=h;refine wpAny_While (codeAny_whileLoop (λn s'=>∃σ' H',Inv X pins σ' H' s'/\W n σ' H') ?_ V ⟨σ,H,I,w0⟩);rintro n s1 ⟨σ1,H1,I1,w1⟩;refine ec hp (aJ (hc pins s1 σ1 H1 _ I1 (E n σ1 H1 w1)) λb s2 ⟨H2,I2,M⟩=>?_);cases b with
  | true =>
    obtain⟨N,hN,M⟩:=M;rw[if_pos rfl];refine ec hp (aJ (hb pins s2 σ1 H2 _ I2 M) λf s3 q3=>?_);cases f with
    | next =>
      obtain⟨d,H3,I3,B⟩:=q3;obtain⟨m',hm,e⟩:=hN d H3 B;exact⟨m',hm,d,H3,I3,e⟩
    | cont =>
      obtain⟨d,H3,I3,B⟩:=q3;obtain⟨m',hm,e⟩:=hN d H3 B;exact⟨m',hm,d,H3,I3,e⟩
    |brk=>exact q3
    |ret v=>exact q3
  | false =>
    rw[if_neg bT];exact gL ⟨σ1,H2,I2,M⟩
end
structure It where
 go:Nat->Hp->Prop
 oh:Nat->Hp->V->Hp->Prop
 stop:Nat->Hp->Prop
def iJ(X:Cx)(pins:List (aw×Obj))(H:Hp)(b:aw):Prop:=
 H b=none/\b≠X.env.locals/\b∉X.fs/\(b∈X.ex\/X.s₀.heap.objs.size<=b)/\(∀x c,X.env.cells.lookup x=some c->c≠b)/\∀p∈X.pn++pins,p.1≠b
theorem Inv.tQ{X:Cx}{σ:qb}{H H':Hp}(I:Inv X pins σ H s)(hb:s.heap.objs.size<=b)(hn:H' b=none):iJ X pins H' b:=by
 refine⟨hn,pe (eG I.lt hb),I.SS hb, .inr (fX I.sz hb),λx c e z=>?_,λp hp z=>?_⟩
 .obtain⟨v,q⟩:=I.cell x c e;exact absurd (eG q.lt (by rw[z];exact hb)) (jk _)
 .exact absurd (eG (bF (I.pin p hp).1) (by rw[z];exact hb)) (jk _)
structure Turn(P:be)(w:cx)(K:PySem.W.Frag)(tg:eu)(J:It)(fp:List aw)(it:aw)(tn:Nat->ek->Prop):Prop where
 mem:it∈fp
 obj:∀i h,tn i h->∀b∈fp,∃o,h.get? b=some o/\∀v,o.data≠ .cell v
 keep:∀i h h',tn i h->(∀b∈fp,∀o,h.get? b=some o->h'.get? b=some o)->tn i h'
 item:∀(X:Cx),X.prog=P->X.w=w->X.K=K->X.calm=true->∀(i:Nat) (pins:List (aw×Obj)) (s:ar) (σ:qb) (H:Hp) (E:ag->ar->Prop),Inv X pins σ H s->(∀b∈fp,iJ X pins H b)->tn i s.heap->J.go i H->
  wpAny (a6 P w) X.A (kb (.ref it)) (λr s1=>∃u,r=some u/\
   wpAny (a6 P w) X.A (gN tg (.ref it) u) (λ_ s2=>∃x H',Inv X pins σ H' s2/\RelV x u/\J.oh i H x H'/\tn (i+1) s2.heap/\∀b∈fp,H' b=none) E s1) E s
 done:∀(X:Cx),X.prog=P->X.w=w->X.K=K->X.calm=true->∀(i:Nat) (pins:List (aw×Obj)) (s:ar) (σ:qb) (H:Hp) (E:ag->ar->Prop),Inv X pins σ H s->(∀b∈fp,iJ X pins H b)->tn i s.heap->J.stop i H->
  wpAny (a6 P w) X.A (kb (.ref it)) (λr s1=>r=none/\Inv X pins σ H s1) E s
 self:∀(A:cC) (i:Nat) (s:ar) (Q:ag->ar->Prop) (E:ag->ar->Prop),tn i s.heap->Q (.ref it) s->wpAny (a6 P w) A (vt (.ref it)) Q E s
abbrev TI:=qb->Hp->(It->Hp->Prop)->Prop
def Ij(X:Cx)(pins:List (aw×Obj))(σ:qb)(tg:eu)(R:It->Hp->Prop)(itv:ag)(s2:ar):Prop:=
 ∃(it:aw) (fp:List aw) (tn:Nat->ek->Prop) (J:It) (H':Hp),itv= .ref it/\Inv X pins σ H' s2/\Turn X.prog X.w X.K tg J fp it tn/\tn 0 s2.heap/\(∀b∈fp,iJ X pins H' b)/\R J H'
def PI(X:Cx)(tg l:eu)(P:TI):Prop:=
 ∀(pins:List (aw×Obj)) (s:ar) (σ:qb) (H:Hp) (R:It->Hp->Prop),Inv X pins σ H s->P σ H R->
  wpAny (a6 X.prog X.w) X.A (eval l X.env) (λv s1=>wpAny (a6 X.prog X.w) X.A (vt v) (Ij X pins σ tg R) X.xe s1) X.xe s
theorem IB{n:String}{vs:Array ag}{Q:Unit->ar->Prop}(U:s.heap.get? it=some o)(hc:o.cls= .type n)(hd:o.data= .fields vs)
    (hn:["enumerate","zip","dict_itemiterator","dict_reverseitemiterator","odict_iterator","itertools.zip_longest","itertools.pairwise"].contains n=false) (C:Q () s):wpAny M A (gN tg (.ref it) u) Q E s:=by
  unfold gN
  cases tg<;>first
    |exact ax C
    |(cases u<;>first
        |exact ax C
        | (refine wpAny_bind (wpAny_load U ?_)
           rw[hc,hd];show wpAny M A (if(["enumerate","zip","dict_itemiterator","dict_reverseitemiterator","odict_iterator","itertools.zip_longest","itertools.pairwise"].contains n && vs[0]?==some (cq _))=true then _ else _) Q E s;rw[if_neg (by intro h;rw[hn,Bool.false_and] at h;cases h)];exact ax C))
noncomputable def om(K:PySem.W.Frag)(a:aw):It:=
 ⟨λi H=>∃xs x,aO K H a xs/\xs[i]?=some x,λi H x H'=>H'=H/\∀xs,aO K H a xs->xs[i]?=some x,λi H=>∃xs,aO K H a xs/\xs.length<=i⟩
noncomputable def i8(lo:Int)(n:Nat):It:=⟨λi _=>i<n,λi H x H'=>H'=H/\x= .int (lo+i),λi _=>n<=i⟩
theorem VO{P:be}{K:PySem.W.Frag}(a it:aw):Turn P w K tg (om K a) [it] it (λi h=>h.IsListIter it a i) where
 mem:=by simp
 obj:=λi h st b hb=>by
  have e:b=it:=by simpa using hb
  subst e;obtain⟨o,e,c,d⟩:=st;exact⟨o,e,λv z=>by rw[d] at z;cases z⟩
 keep:=λi h h' st k=>st.at λo e=>k it (by simp) o e
 item:=by
  intro X hP hw hK hc i pins s σ H E I hf st hg;subst hP hw hK;obtain⟨xs,x,hq,hx⟩:=hg;obtain⟨its,rv,p,hz⟩:=I.list hq;obtain⟨u,hu,ru⟩:=rv.get hx;obtain⟨f,B,Z,g,j,l⟩:=hf it (by simp);refine wpAny_pyNext_list_item st p.isList (x:=u) (by simpa using hu) λh' st' sb=>?_;have I1:Inv X pins σ H {s with heap:=h'}:=I.turned (t':=s.toks) (λb o hb e=>(sb.2 b hb).trans e) f B g j l;obtain⟨o,e,c,d⟩:=id st';exact⟨u,rfl,IB (s:={s with heap:=h'}) e c d ⋯ ⟨x,H,I1,ru,⟨rfl,λys hy=>by rw[I.IW hy hq];exact hx⟩,st',λb hb=>(hf b hb).1⟩⟩
 done:=by
  intro X hP hw hK hc i pins s σ H E I hf st hg;subst hP hw hK;obtain⟨xs,hq,hx⟩:=hg;obtain⟨its,rv,p,hz⟩:=I.list hq;obtain⟨f,B,Z,g,j,l⟩:=hf it (by simp);have hl:=rv.length;exact wpAny_pyNext_list_end (I.ok.hd hc) st p.isList (by simp;omega) λh' eb=>⟨rfl,I.turned (t':=s.toks) (λb o hb e=>eb b o hb e) f B g j l⟩
 self:=λ_ _ _ _ _ st h=>wpAny_pyIter_listiter st h
theorem Od{P:be}{K:PySem.W.Frag}(it:aw)(lo:Int)(n:Nat):Turn P w K tg (i8 lo n) [it] it (λi h=>IsRangeIter h it (lo+(i:Nat)*1) ((n:Int)-(i:Nat)) 1) where
 mem:=by simp
 obj:=λi h st b hb=>by
  have e:b=it:=by simpa using hb
  subst e
  exact⟨_,st,λv z=>by
   have z':tI _=wq v:=z;cases z'⟩
 keep:=λi h h' st k=>k it (by simp) _ st
 item:=by
  intro X hP hw hK hc i pins s σ H E I hf st hg;subst hP hw hK;obtain⟨f,B,Z,g,j,l⟩:=hf it (by simp);have W:=Walks.range (prog:=X.prog) (w:=X.w) (I.ok.hd hc) it lo 1 n;refine W.item i s _ _ hg st λv h' tk hv st' a=>?_;obtain⟨t,rfl⟩:=hv;have I1:Inv X pins σ H {s with heap:=h',toks:=tk}:=I.turned (λb o hb e=>a b o (by simpa using hb) e) f B g j l;refine⟨_,rfl,IB (s:={s with heap:=h',toks:=tk}) (n:="range_iterator") st' rfl rfl ⋯ ⟨.int (lo+i),H,I1,⟨t,?_⟩,⟨rfl,rfl⟩,st',λb hb=>(hf b hb).1⟩⟩;rw[B7]
 done:=by
  intro X hP hw hK hc i pins s σ H E I hf st hg;subst hP hw hK;obtain⟨f,B,Z,g,j,l⟩:=hf it (by simp);exact wpAny_pyNext_range_end (I.ok.hd hc) st (by have:n<=i:=hg;omega) λh' eb=>⟨rfl,I.turned (t':=s.toks) (λb o hb e=>eb b o hb e) f B g j l⟩
 self:=λ_ _ _ _ _ st h=>wpAny_pyIter_rangeiter st h
section
variable{X:Cx}{tg:eu}
def mL(K:PySem.W.Frag)(tl:TE):TI:=λσ H R=>tl σ H λx H1=>∃a,x= .ref a/\(∃xs,aO K H1 a xs)/\R (om K a) H1
theorem Su{l:eu}{tl:TE}(hl:PE X l tl):PI X tg l (mL X.K tl):=by
 intro pins s σ H R I h;refine aJ (hl pins s σ H _ I h) λv s1 ⟨x,H1,I1,O,J⟩=>?_;obtain⟨a,e,⟨xs,hq⟩,q⟩:=J;subst e;cases O;obtain⟨its,rv,p,hz⟩:=I1.list hq;refine hG p.isList ?_;refine⟨s1.heap.objs.size,[s1.heap.objs.size],_,_,H1,rfl,I1.kept (t':=s1.toks) λb o e=>bV _ e,VO a _,⟨_,fO _ rfl,rfl,rfl⟩,λb hb=>?_,q⟩;have e:b=s1.heap.objs.size:=by simpa using hb
 subst e;exact I1.tQ (aF _) (I1.hok.fresh (aF _))
theorem K9{σ:qb}{H:Hp}{R:It->Hp->Prop}{lo hi:Int}{t u v:Tok}{tk:Nat}(I:Inv X pins σ H s)(h1: -(2^62)<=lo)(h2:lo<2^62)(h3: -(2^62)<=hi)(h4:hi<2^62)
  (q:R (i8 lo (hi-lo).toNat) H):wpAny (a6 X.prog X.w) X.A (vt (.ref s.heap.objs.size)) (Ij X pins σ tg R) E {s with heap:=s.heap.push {cls:= .type "range",data:= .fields #[.int lo t, .int hi u, .int 1 v]},toks:=tk}:=by
 refine wpAny_pyIter_range (IsRange.new ..) (small_one h1 h2 h3 h4) ?_;have I1:Inv X pins σ H {s with heap:=s.heap.push {cls:= .type "range",data:= .fields #[.int lo t, .int hi u, .int 1 v]},toks:=tk}:=I.kept λb o e=>bV _ e
 refine⟨(s.heap.push {cls:= .type "range",data:= .fields #[.int lo t, .int hi u, .int 1 v]}).objs.size,[(s.heap.push {cls:= .type "range",data:= .fields #[.int lo t, .int hi u, .int 1 v]}).objs.size],_,_,H,rfl,
  I1.kept (t':=tk) λb o e=>bV _ e,Od _ lo (hi-lo).toNat,?_,λb hb=>?_,q⟩
 .have e1:lo+((0:Nat):Int)*1=lo:=by simp
  have e2:(((hi-lo).toNat:Nat):Int)-((0:Nat):Int)=rr lo hi 1:=by rw[rangeSize_one];split<;>omega
  show IsRangeIter _ _ (lo+((0:Nat):Int)*1) ((((hi-lo).toNat:Nat):Int)-((0:Nat):Int)) 1;rw[e1,e2];exact fO _ rfl
 .have e:b=(s.heap.push {cls:= .type "range",data:= .fields #[.int lo t, .int hi u, .int 1 v]}).objs.size:=by simpa using hb
  subst e;exact I1.tQ (aF _) (I1.hok.fresh (aF _))
def uD(ta:TA):TI:=λσ H R=>ta σ H λvs H1=>∃j:Int,vs=[.int j]/\ -(2^62)<=j/\j<2^62/\R (i8 0 j.toNat) H1
def Es(ta:TA):TI:=λσ H R=>ta σ H λvs H1=>∃i j:Int,vs=[.int i, .int j]/\(-(2^62)<=i/\i<2^62/\ -(2^62)<=j/\j<2^62)/\R (i8 i (j-i).toNat) H1
theorem jZ{a:eu}{ta:TA}{p:Pos}(hg:Gl X "range")(hm:X.mg "range"=none)(ha:PA X [a] ta)(hs:cn [a] X.env=[(false,eval a X.env)]:=by rfl):PI X tg (.Call (.Name "range" p) [a] [] pos) (uD ta):=by
  intro pins s σ H R I h;refine Call_ (pC I hg hm j2 (vL (aJ (ha pos pins s σ H _ I h) λus s1 ⟨vs,H1,I1,O,J⟩=>?_) hs rfl));obtain⟨j,e,J,M,q⟩:=J;subst e;cases O with
  | cons r f =>
    cases f;obtain⟨t,rfl⟩:=r;exact call_range_1 (K9 I1 ∅ ∅ J M (by simpa using q))
theorem GJ{a b:eu}{ta:TA}{p:Pos}(hg:Gl X "range")(hm:X.mg "range"=none)(ha:PA X [a,b] ta)(hs:cn [a,b] X.env=[(false,eval a X.env),(false,eval b X.env)]:=by rfl)(d:cn [b] X.env=[(false,eval b X.env)]:=by rfl):
    PI X tg (.Call (.Name "range" p) [a,b] [] pos) (Es ta):=by
  intro pins s σ H R I h;refine Call_ (pC I hg hm j2 (vL (aJ (ha pos pins s σ H _ I h) λus s1 ⟨vs,H1,I1,O,J⟩=>?_) (by rw[hs,d]) (by rw[d];rfl)));obtain⟨i,j,e,⟨J,M,q3,K⟩,q⟩:=J;subst e;cases O with
  | cons r f =>
    cases f with
    | cons r' f =>
      cases f;obtain⟨t,rfl⟩:=r;obtain⟨t',rfl⟩:=r';exact call_range_2 (K9 I1 J M q3 K q)
def pJ(P:TI)(g:TG)(tb:TS):TS:=λD σ H=>P σ H λJ H1=>∃W:Nat->Nat->qb->Hp->Prop,(∃m,W 0 m σ H1)/\∀i m σ H,W i m σ H->
 (J.stop i H/\D.nx σ H)\/(J.go i H/\∃N:qb->Hp->Prop,(∀L H',N L H'->∃m',m'<m/\W (i+1) m' L H')/\∀x H',J.oh i H x H'->g x σ H' λk H2=>tb {D with nx:=N,ct:=N,bk:=D.nx} k H2)
def tw(fp:List aw)(h:ek):List (aw×Obj):=fp.filterMap λb=>(h.get? b).map λo=>(b,o)
theorem vg(hb:b∈fp)(e:h.get? b=some o):(b,o)∈tw fp h:=AR.mpr ⟨b,hb,by rw[e];rfl⟩
theorem UP{p:aw×Obj}(hp:p∈tw fp h):p.1∈fp/\h.get? p.1=some p.2:=by
  obtain⟨b,hb,e⟩:=AR.mp hp;cases q:h.get? b with
  |none=>rw[q] at e;cases e
  | some o =>
    rw[q] at e;have e':(b,o)=p:=ie e;subst e';exact⟨hb,q⟩
theorem Inv.pinned{σ:qb}{H:Hp}(I:Inv X pins σ H s)(hf:∀b∈fp,iJ X pins H b)(U:∀b∈fp,∃o,s.heap.get? b=some o/\∀v,o.data≠ .cell v):Inv X (pins++tw fp s.heap) σ H s:=
 I.JO λp hp=>(fK.mp hp).elim (λz=>I.pin p (je _ z)) λz=>by
  obtain⟨hb,e⟩:=UP z;obtain⟨f,B,Z,_⟩:=hf p.1 hb;obtain⟨o,e',d⟩:=U p.1 hb;rw[e] at e';cases e'
  exact⟨e,f,B,Z,d⟩
theorem Inv.vR{pl:List (aw×Obj)}{σ:qb}{H:Hp}(I:Inv X (pins++pl) σ H s):Inv X pins σ H s:=I.JO λp hp=>I.pin p (je _ (qY _ hp))
theorem k7{l:eu}{a:List ft}{P:TI}{g:TG}{tb:TS}(hp:PassesOwn (a6 X.prog X.w) X.A X.env X.xe)(hc:X.calm=true)(hi:PI X tg l P)(hg:PG X tg g)(hb:iX X a tb)
  (hs:∀x,fA l X.env x=pure x:=by intro _;rfl):PS X (.For tg l a [] pos) (pJ P g tb):=by
 intro pins s σ H D I h;refine wpAny_For (aJ (hi pins s σ H _ I h) λv s1 h1=>aJ h1 λitv s2 h2=>?_) hs;obtain⟨it,fp,tn,J,H2,e,I2,T,st2,Z,W,⟨V,w0⟩,E⟩:=h2;subst e;have mq:∀{H':Hp},(∀b∈fp,H' b=none)->∀b∈fp,iJ X pins H' b:=λhn b hb=>⟨hn b hb,(Z b hb).2⟩;refine codeAny_forLoop_any (λn s'=>∃i σ' H',Inv X pins σ' H' s'/\tn i s'.heap/\(∀b∈fp,H' b=none)/\W i n σ' H') ?_ V ⟨0,σ,H2,I2,st2,λb hb=>(Z b hb).1,w0⟩;rintro n s3 ⟨i,σ3,H3,I3,st3,fr3,w3⟩;rcases E i n σ3 H3 w3 with ⟨stop,qn⟩|⟨go,N,hN,step⟩
 .refine ec hp (aJ (T.done X rfl rfl rfl hc i pins s3 σ3 H3 X.xe I3 (mq fr3) st3 stop) λr s4 ⟨hr,I4⟩=>?_);subst hr;exact gL ⟨σ3,H3,I4,qn⟩
 .refine ec hp (aJ (T.item X rfl rfl rfl hc i pins s3 σ3 H3 X.xe I3 (mq fr3) st3 go) λr s4 ⟨u,hr,h4⟩=>?_);subst hr;refine ec hp (aJ h4 λ_ s5 ⟨x,H5,I5,r5,y5,oK,zP⟩=>?_);have Ah:=I5.pinned (mq zP) (T.obj _ _ oK);refine ec hp (aJ (hg _ s5 σ3 H5 x u _ Ah r5 (step x H5 y5)) λ_ s6 ⟨sr,H6,I6,q6⟩=>?_);refine ec hp (aJ (hb _ s6 sr H6 _ I6 q6) λf s7 O=>?_);have again:∀{c:qb} {H7:Hp},Inv X (pins++tw fp s5.heap) c H7 s7->N c H7->∃m,m<n/\∃i σ' H',Inv X pins σ' H' s7/\tn i s7.heap/\(∀b∈fp,H' b=none)/\W i m σ' H':=λ{c H7} L j=>by
   obtain⟨m',hm,k⟩:=hN c H7 j;refine⟨m',hm,i+1,c,H7,L.vR,T.keep _ _ _ oK λb hb o e=>(L.pin (b,o) (je _ (je _ (vg hb e)))).1,λb hb=>?_,k⟩;obtain⟨o,e,d⟩:=T.obj _ _ oK b hb;exact(L.pin (b,o) (je _ (je _ (vg hb e)))).2.1
  cases f with
  |next=>obtain⟨c,H7,L,j⟩:=O;exact again L j
  |cont=>obtain⟨c,H7,L,j⟩:=O;exact again L j
  |brk=>obtain⟨c,H7,L,O⟩:=O;exact⟨c,H7,L.vR,O⟩
  |ret v=>obtain⟨S,c,H7,L,p,O⟩:=O;exact⟨S,c,H7,L.vR,p,O⟩
end
theorem DM{K:PySem.W.Frag}{xs:List V}{g:TG}{tb:TS}{D:Ends}{σ:qb}{H:Hp}(Pv:Nat->qb->Hp->Prop)(h0:Pv 0 σ H)(hl:∀i σ H,i<=xs.length->Pv i σ H->aO K H a xs)
  (hs:∀i x σ H,xs[i]?=some x->Pv i σ H->g x σ H λk H2=>tb {D with nx:=Pv (i+1),ct:=Pv (i+1),bk:=D.nx} k H2) (hd:∀σ H,Pv xs.length σ H->D.nx σ H):
  ∃W:Nat->Nat->qb->Hp->Prop,(∃m,W 0 m σ H)/\∀i m σ H,W i m σ H->
   ((om K a).stop i H/\D.nx σ H)\/((om K a).go i H/\∃N:qb->Hp->Prop,(∀L H',N L H'->∃m',m'<m/\W (i+1) m' L H')/\∀x H',(om K a).oh i H x H'->g x σ H' λk H2=>tb {D with nx:=N,ct:=N,bk:=D.nx} k H2):=by
 refine⟨λi m σ H=>m=xs.length-i/\i<=xs.length/\Pv i σ H,⟨xs.length,by simp,eW _,h0⟩,?_⟩;rintro i m σ H ⟨rfl,hi,p⟩;have q:=hl i σ H hi p;by_cases hlt:i<xs.length
 .refine .inr ⟨⟨xs,xs[i],q,by simp[hlt]⟩,Pv (i+1),λL H' j=>⟨xs.length-(i+1),∅,rfl,hlt,j⟩,λx H' y=>?_⟩;obtain⟨e,y⟩:=y;subst e;exact hs i x σ _ (y xs q) p
 .have e:i=xs.length:=∅
  subst e;exact .inl ⟨⟨xs,q,aF _⟩,hd σ H p⟩
theorem En{lo:Int}{g:TG}{tb:TS}{D:Ends}{σ:qb}{H:Hp}(Pv:Nat->qb->Hp->Prop)(h0:Pv 0 σ H)
  (hs:∀i σ H,i<n->Pv i σ H->g (.int (lo+i)) σ H λk H2=>tb {D with nx:=Pv (i+1),ct:=Pv (i+1),bk:=D.nx} k H2) (hd:∀σ H,Pv n σ H->D.nx σ H):
  ∃W:Nat->Nat->qb->Hp->Prop,(∃m,W 0 m σ H)/\∀i m σ H,W i m σ H->
   ((i8 lo n).stop i H/\D.nx σ H)\/((i8 lo n).go i H/\∃N:qb->Hp->Prop,(∀L H',N L H'->∃m',m'<m/\W (i+1) m' L H')/\∀x H',(i8 lo n).oh i H x H'->g x σ H' λk H2=>tb {D with nx:=N,ct:=N,bk:=D.nx} k H2):=by
 refine⟨λi m σ H=>m=n-i/\i<=n/\Pv i σ H,⟨n,by simp,eW _,h0⟩,?_⟩;rintro i m σ H ⟨rfl,hi,p⟩;by_cases hlt:i<n
 .refine .inr ⟨hlt,Pv (i+1),λL H' j=>⟨n-(i+1),∅,rfl,hlt,j⟩,λx H' y=>?_⟩;obtain⟨e,y⟩:=y;subst e y;exact hs i σ _ hlt p
 .have e:i=n:=∅
  subst e;exact .inl ⟨aF _,hd σ H p⟩
theorem OI{c:TT}{tb:TS}{D:Ends}{σ:qb}{H:Hp}(Pv:qb->Hp->Prop)(a:qb->Hp->Nat)(h0:Pv σ H)
  (hs:∀σ H,Pv σ H->c σ H λb H1=>if b=true then tb {D with nx:=λL H'=>Pv L H'/\a L H'<a σ H,ct:=λL H'=>Pv L H'/\a L H'<a σ H,bk:=D.nx} σ H1 else D.nx σ H1)
  (mono:∀σ H Q g,(∀b H1,Q b H1->g b H1)->c σ H Q->c σ H g):Ad c tb D σ H:=by
 refine⟨λm σ H=>m=a σ H/\Pv σ H,⟨_,rfl,h0⟩,?_⟩;rintro m σ H ⟨rfl,p⟩;refine mono σ H _ _ (λb H1 q=>?_) (hs σ H p);cases b with
 |true=>exact⟨_,λL H' ⟨j,l⟩=>⟨_,l,rfl,j⟩,q⟩
 |false=>exact q
abbrev R2:=V->V->Hp->VK->Prop
def dR(X:Cx)(f:ag->ag->Sem ag)(r:R2):Prop:=
 ∀(pins:List (aw×Obj)) (s:ar) (σ:qb) (H:Hp) (x y:V) (v u:ag) (Q:VK),Inv X pins σ H s->RelV x v->RelV y u->r x y H Q->
  wpAny (a6 X.prog X.w) X.A (f v u) (EP X pins σ Q) X.xe s
def Cb(X:Cx)(f:ag->Sem ag)(r:V->Hp->VK->Prop):Prop:=
 ∀(pins:List (aw×Obj)) (s:ar) (σ:qb) (H:Hp) (x:V) (v:ag) (Q:VK),Inv X pins σ H s->RelV x v->r x H Q->
  wpAny (a6 X.prog X.w) X.A (f v) (EP X pins σ Q) X.xe s
def fV(X:Cx)(f:ag)(r:List V->Hp->VK->Prop):Prop:=
 ∀(pins:List (aw×Obj)) (s:ar) (σ:qb) (H:Hp) (xs:List V) (us:List ag) (Q:VK),Inv X pins σ H s->Vals xs us->r xs H Q->
  wpAny (a6 X.prog X.w) X.A (call f us) (EP X pins σ Q) X.xe s
def Sb(X:Cx)(r:V->Hp->(Bool->Hp->Prop)->Prop):Prop:=
 ∀(pins:List (aw×Obj)) (s:ar) (σ:qb) (H:Hp) (x:V) (v:ag) (Q:Bool->Hp->Prop),Inv X pins σ H s->RelV x v->r x H Q->
  wpAny (a6 X.prog X.w) X.A (truthy v) (TP X pins σ Q) X.xe s
def dG(r:R2)(ta tb:TE):TE:=λσ H Q=>ta σ H λx H1=>tb σ H1 λy H2=>r x y H2 Q
def zj(r:V->Hp->VK->Prop)(ta:TE):TE:=λσ H Q=>ta σ H λx H1=>r x H1 Q
def rI(C:Int->Int->Prop)(g:Int->Int->V):R2:=λx y H Q=>∃i j,x= .int i/\y= .int j/\C i j/\Q (g i j) H
def iy(g:Int->Int->V):R2:=λx y H Q=>∃i j,x= .int i/\y= .int j/\Q (g i j) H
def rU(g:Int->V):V->Hp->VK->Prop:=λx H Q=>∃i,x= .int i/\Q (g i) H
section
variable{X:Cx}{a b c:eu}{ta tb tc:TE}{pos:Pos}
theorem AN(ha:PE X a ta)(hb:PE X b tb){pins:List (aw×Obj)}{s:ar}{σ:qb}{H:Hp}{R:V->V->Hp->Prop}(I:Inv X pins σ H s)
  (h:ta σ H λx H1=>tb σ H1 λy H2=>R x y H2) {Q:ag->ar->Prop} {f:ag->ag->Sem ag}
  (hf:∀v u s2 x y H2,Inv X pins σ H2 s2->RelV x v->RelV y u->R x y H2->wpAny (a6 X.prog X.w) X.A (f v u) Q X.xe s2):
  wpAny (a6 X.prog X.w) X.A (eval a X.env) (λv s₁=>wpAny (a6 X.prog X.w) X.A (eval b X.env) (λu d=>wpAny (a6 X.prog X.w) X.A (f v u) Q X.xe d) X.xe s₁) X.xe s:=by
 refine aJ (ha pins s σ H _ I h) λv s1 ⟨x,H1,I1,O,J⟩=>?_;refine aJ (hb pins s1 σ H1 _ I1 J) λu s2 ⟨y,H2,I2,N,M⟩=>?_;exact hf v u s2 x y H2 I2 O N M
theorem aI{op:Operator}{r:R2}(U:dR X (hR op) r)(ha:PE X a ta)(hb:PE X b tb):PE X (.BinOp a op b pos) (dG r ta tb):=by
 intro pins s σ H Q I h;exact wpAny_BinOp (AN ha hb I h λv u s2 x y H2 I2 g d q=>U pins s2 σ H2 x y v u Q I2 g d q)
theorem tZ{op:UnaryOp}{r:V->Hp->VK->Prop}(U:Cb X (unaryOp op) r)(ha:PE X a ta):PE X (.UnaryOp op a pos) (zj r ta):=by
 intro pins s σ H Q I h;exact UnaryOp_ (aJ (ha pins s σ H _ I h) λv s1 ⟨x,H1,I1,O,J⟩=>U pins s1 σ H1 x v Q I1 O J)
theorem wc{C:Int->Int->Prop}{g:Int->Int->Int}
  (rule:∀(i j:Int) (t u:Tok) (s:ar) (Q:ag->ar->Prop) (E:ag->ar->Prop),C i j->Q (.int (g i j) s.toks) {s with toks:=s.toks+1}->wpAny (a6 X.prog X.w) X.A (f (.int i t) (.int j u)) Q E s):
  dR X f (rI C λi j=> .int (g i j)):=by
 intro pins s σ H x y v u Q I rx ry h;obtain⟨i,j,rfl,rfl,hc,q⟩:=h;obtain⟨t,rfl⟩:=rx;obtain⟨t',rfl⟩:=ry;exact rule i j t t' s _ _ hc ⟨.int (g i j),H,I.tok _,⟨_,rfl⟩,q⟩
theorem FD{g:Int->Int->Int}
  (rule:∀(i j:Int) (t u:Tok) (s:ar) (Q:ag->ar->Prop) (E:ag->ar->Prop),Q (.int (g i j) s.toks) {s with toks:=s.toks+1}->wpAny (a6 X.prog X.w) X.A (f (.int i t) (.int j u)) Q E s):
  dR X f (iy λi j=> .int (g i j)):=by
 intro pins s σ H x y v u Q I rx ry h;obtain⟨i,j,rfl,rfl,q⟩:=h;obtain⟨t,rfl⟩:=rx;obtain⟨t',rfl⟩:=ry;exact rule i j t t' s _ _ ⟨.int (g i j),H,I.tok _,⟨_,rfl⟩,q⟩
theorem DC{g:Int->Int->Bool}
  (rule:∀(i j:Int) (t u:Tok) (s:ar) (Q:ag->ar->Prop) (E:ag->ar->Prop),Q (.bool (g i j)) s->wpAny (a6 X.prog X.w) X.A (f (.int i t) (.int j u)) Q E s):
  dR X f (iy λi j=> .bl (g i j)):=by
 intro pins s σ H x y v u Q I rx ry h;obtain⟨i,j,rfl,rfl,q⟩:=h;obtain⟨t,rfl⟩:=rx;obtain⟨t',rfl⟩:=ry;exact rule i j t t' s _ _ ⟨.bl (g i j),H,I,rfl,q⟩
def Co(i j:Int):Prop:=0<=j/\j<=1000000/\i.natAbs<2^64
def vZ(i j:Int):Prop:=(-(2^64)<i/\i<2^64)\/(-(2^64)<j/\j<2^64)
theorem vZ.ok{i j:Int}(h:vZ i j):IntMulOk i j:=by
 rcases h with ⟨h1,h2⟩|⟨h1,h2⟩
 .exact .of_left (rA h1 h2)
 .exact .of_right (rA h1 h2)
theorem gk:dR X (hR .Add) (iy λi j=> .int (i+j)):=FD λ_ _ _ _ _ _ _ q=>add_int q
theorem lQ:dR X (hR .Sub) (iy λi j=> .int (i-j)):=FD λ_ _ _ _ _ _ _ q=>sub_int q
theorem gX:dR X (hR .Mod) (rI (λ_ j=>0<j) λi j=> .int (i%j)):=wc λi j _ _ _ _ _ hc q=>by
 have h1:(0:Int)<j:=hc;exact mod_int' ∅ (by rw[Int.fmod_eq_emod_of_nonneg i ∅];exact q)
theorem uF:dR X (hR .Pow) (rI Co λi j=> .int (i^j.toNat)):=wc λ_ _ _ _ _ _ _ hc q=>pow_int_small hc.1 hc.2.1 hc.2.2 q
theorem Yc{f:ag->Sem ag}{g:Int->Int}
  (rule:∀(i:Int) (t:Tok) (s:ar) (Q:ag->ar->Prop) (E:ag->ar->Prop),Q (.int (g i) s.toks) {s with toks:=s.toks+1}->wpAny (a6 X.prog X.w) X.A (f (.int i t)) Q E s):
  Cb X f (rU λi=> .int (g i)):=by
 intro pins s σ H x v Q I rx h;obtain⟨i,rfl,q⟩:=h;obtain⟨t,rfl⟩:=rx;exact rule i t s _ _ ⟨.int (g i),H,I.tok _,⟨_,rfl⟩,q⟩
theorem wO:Cb X (unaryOp .USub) (rU λi=> .int (-i)):=Yc λ_ _ _ _ _ q=>neg_int q
end
noncomputable def DP:V->V->Bool
 | .aD, .aD=>true| .aD, .int _=>true| .int _, .aD=>true| .aD, .bl _=>true| .bl _, .aD=>true| .aD, .str _=>true| .str _, .aD=>true
 | .int _, .int _=>true| .bl _, .bl _=>true| .str _, .str _=>true| .iM _, .iM _=>true
 | .int _, .str _=>true| .str _, .int _=>true| .bl _, .str _=>true| .str _, .bl _=>true
 |_,_=>false
def Ay:R2:=λx y H Q=>DP x y=true/\Q (.bl (decide (x=y))) H
def Cg:R2:=λx y H Q=>DP x y=true/\Q (.bl (!decide (x=y))) H
theorem E9{i j:Int}:decide (V.int i=V.int j)=(i==j):=by
 rw[pO];simp
theorem Ln{i j:Bool}:decide (V.bl i=V.bl j)=(i==j):=by
 rw[pO];simp
theorem LA{i j:Str}:decide (V.str i=V.str j)=(i==j):=by
 rw[pO];simp
theorem Lm{i j:Array UInt8}:decide (V.iM i=V.iM j)=(i.toList==j.toList):=by
 rw[pO];cases i;cases j;simp
section
variable{X:Cx}{a b c:eu}{ta tb tc:TE}{pos:Pos}
theorem cL{σ:qb}{H:Hp}{Q:VK}{k k':Bool}(I:Inv X pins σ H s)(q:Q (.bl k) H)(e:k=k'):EP X pins σ Q (.bool k') s:=by
 subst e;exact⟨.bl k,H,I,rfl,q⟩
theorem gD:dR X (dy .Eq) Ay:=by
  intro pins s σ H x y v u Q I rx d h;obtain⟨hs,q⟩:=h;cases x with
  | aD =>
    cases rx;cases y with
    |aD=>cases d;exact PySem.EqNone.eq_none_none (cL I q (by simp))
    |bl j=>cases d;exact PySem.EqNone.eq_none_bool (cL I q (by simp))
    |int j=>obtain⟨t',rfl⟩:=d;exact PySem.EqNone.eq_none_int (cL I q (by simp))
    |str j=>obtain⟨t',rfl⟩:=d;exact PySem.EqNone.eq_none_str (cL I q (by simp))
    |_=>exact absurd (show false=true from hs) bT
  | bl i =>
    cases rx;cases y with
    |aD=>cases d;exact PySem.EqNone.eq_bool_none (cL I q (by simp))
    |bl j=>cases d;exact eq_bool (cL I q Ln)
    |str j=>obtain⟨t',rfl⟩:=d;exact PySem.EqMixed.eq_bool_str (cL I q (by simp))
    |_=>exact absurd (show false=true from hs) bT
  | int i =>
    obtain⟨t,rfl⟩:=rx;cases y with
    |aD=>cases d;exact PySem.EqNone.eq_int_none (cL I q (by simp))
    |int j=>obtain⟨t',rfl⟩:=d;exact eq_int (cL I q E9)
    |str j=>obtain⟨t',rfl⟩:=d;exact PySem.EqMixed.eq_int_str (cL I q (by simp))
    |_=>exact absurd (show false=true from hs) bT
  | str i =>
    obtain⟨t,rfl⟩:=rx;cases y with
    |aD=>cases d;exact PySem.EqNone.eq_str_none (cL I q (by simp))
    |bl j=>cases d;exact PySem.EqMixed.eq_str_bool (cL I q (by simp))
    |int j=>obtain⟨t',rfl⟩:=d;exact PySem.EqMixed.eq_str_int (cL I q (by simp))
    |str j=>obtain⟨t',rfl⟩:=d;exact eq_str (cL I q LA)
    |_=>exact absurd (show false=true from hs) bT
  | iM i =>
    obtain⟨t,rfl⟩:=rx;cases y with
    |iM j=>obtain⟨t',rfl⟩:=d;exact PySem.W.eq_bytes (cL I q Lm)
    |_=>exact absurd (show false=true from hs) bT
  |_=>cases y<;>exact absurd (show false=true from hs) bT
theorem lH:dR X (dy .NotEq) Cg:=by
  intro pins s σ H x y v u Q I rx d h;obtain⟨hs,q⟩:=h;cases x with
  | aD =>
    cases rx;cases y with
    |aD=>cases d;exact PySem.EqNone.ne_none_none (cL I q (by simp))
    |bl j=>cases d;exact PySem.EqNone.ne_none_bool (cL I q (by simp))
    |int j=>obtain⟨t',rfl⟩:=d;exact PySem.EqNone.ne_none_int (cL I q (by simp))
    |str j=>obtain⟨t',rfl⟩:=d;exact PySem.EqNone.ne_none_str (cL I q (by simp))
    |_=>exact absurd (show false=true from hs) bT
  | bl i =>
    cases rx;cases y with
    |aD=>cases d;exact PySem.EqNone.ne_bool_none (cL I q (by simp))
    |bl j=>cases d;exact ne_bool (cL I q (congrArg not Ln))
    |str j=>obtain⟨t',rfl⟩:=d;exact PySem.EqMixed.ne_bool_str (cL I q (by simp))
    |_=>exact absurd (show false=true from hs) bT
  | int i =>
    obtain⟨t,rfl⟩:=rx;cases y with
    |aD=>cases d;exact PySem.EqNone.ne_int_none (cL I q (by simp))
    |int j=>obtain⟨t',rfl⟩:=d;exact ne_int (cL I q (congrArg not E9))
    |str j=>obtain⟨t',rfl⟩:=d;exact PySem.EqMixed.ne_int_str (cL I q (by simp))
    |_=>exact absurd (show false=true from hs) bT
  | str i =>
    obtain⟨t,rfl⟩:=rx;cases y with
    |aD=>cases d;exact PySem.EqNone.ne_str_none (cL I q (by simp))
    |bl j=>cases d;exact PySem.EqMixed.ne_str_bool (cL I q (by simp))
    |int j=>obtain⟨t',rfl⟩:=d;exact PySem.EqMixed.ne_str_int (cL I q (by simp))
    |str j=>obtain⟨t',rfl⟩:=d;exact ne_str (cL I q (congrArg not LA))
    |_=>exact absurd (show false=true from hs) bT
  | iM i =>
    obtain⟨t,rfl⟩:=rx;cases y with
    |iM j=>obtain⟨t',rfl⟩:=d;exact PySem.W.ne_bytes (cL I q (congrArg not Lm))
    |_=>exact absurd (show false=true from hs) bT
  |_=>cases y<;>exact absurd (show false=true from hs) bT
theorem GD:dR X (dy .Lt) (iy λi j=> .bl (decide (i<j))):=DC λ_ _ _ _ _ _ _ q=>lt_int q
theorem J3:dR X (dy .LtE) (iy λi j=> .bl (decide (i<=j))):=DC λ_ _ _ _ _ _ _ q=>le_int q
theorem Ow:dR X (dy .Gt) (iy λi j=> .bl (decide (j<i))):=DC λ_ _ _ _ _ _ _ q=>gt_int q
theorem PK:dR X (dy .Is) (λx y H Q=>y= .aD/\Q (.bl (decide (x= .aD))) H):=by
 intro pins s σ H x y v u Q I g ry h;obtain⟨rfl,q⟩:=h;cases ry;refine is_none_gen (cL I q ?_)
 cases x<;>first
  |(cases g;rfl)
  |(obtain⟨t,rfl⟩:=g;rfl)
theorem O1:dR X (dy .IsNot) (λx y H Q=>y= .aD/\Q (.bl (!decide (x= .aD))) H):=by
 intro pins s σ H x y v u Q I g ry h;obtain⟨rfl,q⟩:=h;cases ry;refine isnot_none_gen (cL I q ?_)
 cases x<;>first
  |(cases g;rfl)
  |(obtain⟨t,rfl⟩:=g;rfl)
theorem bC(b:eu){op:CmpOp}(h:op≠ .In:=by decide)(h2:op≠ .NotIn:=by decide):behindInMarks op b=false:=by
 have e1:(op==CmpOp.In)=false:=by cases op<;>first|rfl|exact absurd rfl h
 have e2:(op==CmpOp.NotIn)=false:=by cases op<;>first|rfl|exact absurd rfl h2
 cases b<;>simp[behindInMarks,e1,e2]
theorem Az{op:CmpOp}{r:R2}(U:dR X (dy op) r)(ha:PE X a ta)(hb:PE X b tb)(hm:behindInMarks op b=false):PE X (.Compare a [op] [b] pos) (dG r ta tb):=by
 intro pins s σ H Q I h;exact wpAny_Compare1 (AN ha hb I h λv u s2 x y H2 I2 g d q=>U pins s2 σ H2 x y v u Q I2 g d q) hm
def BA(t:TE):TT:=λσ H Q=>t σ H λx H'=>∃k,x= .bl k/\Q k H'
theorem bI{op:CmpOp}{r:R2}(U:dR X (dy op) r)(ha:PE X a ta)(hb:PE X b tb)(hm:behindInMarks op b=false):PT X (.Compare a [op] [b] pos) (BA (dG r ta tb)):=by
 intro pins s σ H Q I h
 refine wpAny_isTrue_Compare1 (aJ (ha pins s σ H _ I h) λv s1 ⟨x,H1,I1,O,J⟩=>aJ (hb pins s1 σ H1 _ I1 J) λu s2 ⟨y,H2,I2,N,M⟩=>
  aJ (U pins s2 σ H2 x y v u _ I2 O N M) λc s3 ⟨z,H3,I3,B,k,e,q3⟩=>?_) hm
 subst e;cases B;exact fw ⟨H3,I3,q3⟩
def CT(K:PySem.W.Frag)(x:V)(H:Hp)(k:Bool):Prop:=
 match x with
 | .aD=>k=false
 | .bl b=>k=b
 | .int i=>k=(i !=0)
 | .str y=>y.length<=sizeLine/\k=((y.length:Int) !=0)
 | .iM y=>y.size<=sizeLine/\k=((y.size:Int) !=0)
 | .ref p=>(∃xs,aO K H p xs/\k=!xs.isEmpty)\/(∃xs,fY K H p xs/\k=!xs.isEmpty)\/∃kvs,H p=some (.dK kvs)/\k=!kvs.isEmpty
 |_=>False
theorem Ph{κ:Type}{kvs:List (κ×V)}{vs:List (κ×ag)}(r:KV kvs vs):(!vs.isEmpty)=!kvs.isEmpty:=by
 cases r<;>rfl
theorem EM{xs:List V}(r:Vals xs its):(!its.toArray.isEmpty)=!xs.isEmpty:=by
 cases r<;>simp
theorem oZ:(sizeLine:Nat)<2^63:=by rw[hU];decide
theorem SA:Sb X (λx H Q=>∃k,CT X.K x H k/\Q k H):=by
  intro pins s σ H x v Q I rx h;obtain⟨k,e,q⟩:=h;have hl:=oZ;have hs:sizeLine=16777216:=hU;cases x with
  | aD =>
    cases rx;have e':k=false:=e;subst e';exact truthy_none ⟨H,I,q⟩
  | bl b =>
    cases rx;have e':k=b:=e;subst e';exact fw ⟨H,I,q⟩
  | int i =>
    obtain⟨t,rfl⟩:=rx;have e':k=(i !=0):=e;subst e';exact PySem.P.truthy_int ⟨H,I,q⟩
  | str y =>
    obtain⟨t,rfl⟩:=rx;obtain⟨hy,e'⟩:y.length<=sizeLine/\k=((y.length:Int) !=0):=e;subst e';exact PySem.P.truthy_str ∅ ⟨H,I.tok _,q⟩
  | iM y =>
    obtain⟨t,rfl⟩:=rx;obtain⟨hy,e'⟩:y.size<=sizeLine/\k=((y.size:Int) !=0):=e;subst e';exact PySem.W.truthy_bytes ∅ ⟨H,I.tok _,q⟩
  | ref p =>
    cases rx;have e':(∃xs,aO X.K H p xs/\k=!xs.isEmpty)\/(∃xs,fY X.K H p xs/\k=!xs.isEmpty)\/∃kvs,H p=some (.dK kvs)/\k=!kvs.isEmpty:=e;rcases e' with ⟨xs,hx,e'⟩|⟨xs,hx,e'⟩|⟨kvs,hx,e'⟩
    · subst e'
      obtain⟨its,r,pl,hz⟩:=I.list hx;have hlen:=r.length;exact wpAny_truthy_list pl.isList (by simp only[cT];omega) ⟨H,I.tok _,by rw[EM r];exact q⟩
    · subst e'
      obtain⟨its,r,pl,hz⟩:=I.tuple hx;have hlen:=r.length;exact truthy_tuple pl (by simp only[cT];omega) ⟨H,I.tok _,by rw[EM r];exact q⟩
    · subst e'
      obtain⟨hz,N,vs,r,m⟩:kvs.length<=sizeLine/\(p==eI)=false/\∃vs,KV kvs vs/\s.heap.DictOf (iH X.prog X.w) p vs:=I.hok p _ hx;have hlen:kvs.length=vs.length:=Paired.length r;exact wpAny_truthy_dict N m ∅ ⟨H,I.tok _,by rw[Ph r];exact q⟩
  |_=>exact(show False from e).elim
theorem O8(ha:PE X a ta)(he:∀whole,isTrue a X.env whole=(do let v<-whole;standAt a.pos;holding [v] (truthy v))):
  PT X a (λσ H Q=>ta σ H λx H'=>∃k,CT X.K x H' k/\Q k H'):=by
 intro pins s σ H Q I h;exact isTrue_plain (aJ (ha pins s σ H _ I h) λv s1 ⟨x,H1,I1,O,J⟩=>SA pins s1 σ H1 x v Q I1 O J) (he _)
theorem vals1{x:V}(r:Vals [x] us):∃u,us=[u]/\RelV x u:=by
 cases r with
 |cons O N=>cases N;exact⟨_,rfl,O⟩
theorem vals2{x y:V}(r:Vals [x,y] us):∃u w',us=[u,w']/\RelV x u/\RelV y w':=by
  cases r with
  | cons O N =>
    cases N with
    |cons B a=>cases a;exact⟨_,_,rfl,O,B⟩
theorem UL:fV X (.builtin "abs") (λxs H Q=>∃i,xs=[.int i]/\Q (.int (if i<0 then-i else i)) H):=by
 intro pins s σ H xs us Q I r h;obtain⟨i,rfl,q⟩:=h;obtain⟨u,rfl,t,rfl⟩:=vals1 r;exact call_abs_int λu tk=>⟨.int (if i<0 then-i else i),H,I.tok _,⟨_,rfl⟩,q⟩
theorem Xy(hc:X.calm=true):fV X (.builtin "min") (λxs H Q=>∃i j,xs=[.int i, .int j]/\Q (.int (if j<i then j else i)) H):=by
 intro pins s σ H xs us Q I r h;obtain⟨i,j,rfl,q⟩:=h;obtain⟨u,w',rfl,⟨t,rfl⟩,⟨t',rfl⟩⟩:=vals2 r;refine min_two_ints (I.ok.hd hc) λh' tk k=>⟨_,H,I.kept k,?_,q⟩;by_cases hj:j<i;·rw[if_pos hj,if_pos hj];exact⟨_,rfl⟩
 .rw[if_neg hj,if_neg hj];exact⟨_,rfl⟩
theorem WT:fV X (.type "int") (λxs H Q=>(∃i,xs=[.int i]/\Q (.int i) H)\/∃k,xs=[.bl k]/\Q (.int (if k then 1 else 0)) H):=by
 intro pins s σ H xs us Q I r h;rcases h with ⟨i,rfl,q⟩|⟨k,rfl,q⟩
 .obtain⟨u,rfl,t,rfl⟩:=vals1 r;exact call_int_int ⟨.int i,H,I,⟨_,rfl⟩,q⟩
 .obtain⟨u,rfl,O⟩:=vals1 r;cases O;exact call_int_bool ⟨.int (if k then 1 else 0),H,I.tok _,⟨_,rfl⟩,q⟩
end
structure nF(h:ek)(x dx C:aw)(mA:Str->Option ag):Prop where
 obj:h.get? x=some (PySem.W.instObj C dx)
 ns:h.Ns1 dx mA
 ne:dx≠x
theorem N4(n:h.Ns1 dx mA):∃od,h.get? dx=some od/\∀name,PySem.W.lookIn name od=some (mA name):=by
 obtain⟨o,es,ep,U,hd,hk,_,hm⟩:=n;refine⟨o,U,λname=>?_⟩;have e:=hm name;unfold nsFind findBy at e;rw[<-Array.find?_toList] at e;unfold PySem.W.lookIn;rw[hd];dsimp only;split
 .rename_i y q
  rw[q] at e;exact congrArg some e
 .rename_i q
  rw[q] at e;have a:es.toList.any (·.refKey)=false:=by
   rw[List.any_eq_false];intro y hy;obtain⟨z,t,b⟩:=hk y (tX.mp hy);simp[wi,b]
  have u:¬es.toList.any (·.refKey)=true:=by rw[a];exact bT
  rw[if_neg u];exact congrArg some e
theorem nF.look{x C:aw}(I:nF h x dx C mA):∃od,PySem.W.InstAt h x (PySem.W.instObj C dx) C (some od)/\∀name,PySem.W.lookIn name od=some (mA name):=
 let ⟨od,U,hl⟩:=N4 I.ns
 ⟨od,⟨I.obj,rfl,rfl,U⟩,hl⟩
section
variable{prog:be}{w:cx}{A:cC}{E:ag->ar->Prop}{s:ar}{K:PySem.W.Frag}{x dx C f:aw}{mA:Str->Option ag}{name:Str}{v:ag}
theorem get_map{a:Bool}(X:K.In s.heap)(I:nF s.heap x dx C mA)(hg:PySem.W.plainGet K C name=true)(O:PySem.W.hasDictIn K C=true)
  (ha:PySem.W.findIn K (.ref C) name=some none) (hv:mA name=some v) (b:PySem.W.handedIn v=true) (h:Q v {s with toks:=s.toks+1}):
  wpAny (a6 prog w) A (getAttr (.ref x) name a) Q E s:=by
 obtain⟨od,J,hl⟩:=I.look;exact PySem.W.get_value X J (Ck hg).1 (PySem.W.findObj_own O ha rfl (by rw[hl,hv])) b h
theorem PU{Q:ag×List ag->ar->Prop}(X:K.In s.heap)(I:nF s.heap x dx C mA)(hg:PySem.W.plainGet K C name=true)
  (hf:PySem.W.findIn K (.ref C) name=some (some (.ref f))) (ht:PySem.W.isFn K (.ref f)=true) (hv:mA name=none) (h:Q (.ref f,[.ref x]) s):
  wpAny (a6 prog w) A (oe (.ref x) name pl) Q E s:=by
 obtain⟨od,J,hl⟩:=I.look;exact PySem.W.method_fn X J (Ck hg).1 (Ck hg).2 hf (beq_iff_eq.mp ht) (by show(PySem.W.lookIn name od).map (·.isSome)=some false;rw[hl,hv];rfl) h
theorem TM{ns:List Str}{Q:Unit->ar->Prop}(X:K.In s.heap)(I:nF s.heap x dx C mA)
  (hs:PySem.W.findIn K (.ref C) "__setattr__"=some (some (.builtin "object.__setattr__"))) (hp:PySem.W.plainOver K C=true) (ht:PySem.W.takerIn K C name=some none) (O:PySem.W.hasDictIn K C=true)
  (hw:PySem.Within mA ns) (hsz:ns.length<=sizeLine)
  (h:∀h',nF h' x dx C (λy=>if y=name then some v else mA y)->eC dx s.heap h'->Q () {s with heap:=h',toks:=s.toks+2}):
  wpAny (a6 prog w) A (setAttr (.ref x) name v) Q E s:=by
 obtain⟨od,J,hl⟩:=I.look;refine PySem.W.set_plain X J hs (PySem.W.osa_open (s:={s with toks:=s.toks+1}) (r:=none) X J hp ht λb=>?_);obtain⟨m,hc,j⟩:=PySem.W.any_some O;have hx:s.heap.get? x=some ⟨.ref C,some dx, .plain,#[]⟩:=I.obj;refine ae (ax (ae (ae (wpAny_loadPart hx (ae (PySem.W.Looks.here (s:={s with toks:=s.toks+1}) (PySem.W.looks_clsIn X hc) ?_))))));rw[j];refine ax (a:=some dx) (ae (ax (ae ?_)));refine wpAny_nsSet1 (s:={s with toks:=s.toks+1}) I.ns λh' t d=>?_;obtain⟨oD,f,YM,e,g,c⟩:=t.count (PySem.Within.cons name v hw);refine ae (wpAny_lookBehind e (by rw[g];exact pastItsLine_dict (fX c (by rw[eY];omega))) ?_);exact ax (h _ ⟨(d.2 _ (bJ I.ne)).trans I.obj,t,I.ne⟩ d)
theorem Vr{R:Result->ar->Prop}{vs:List ag}{a:List (Str×ag)}(X:K.In s.heap)(hm:PySem.W.makesIn K C=true)
  (hi:PySem.W.findIn K (.ref C) "__init__"=some (some (.ref f))) (hf:PySem.W.typeIn K (.ref f)=some (.type "function"))
  (h : codeAny (model prog w) (A.under (.builtin "type.__call__" ⟨.ref C :: vs, a⟩)) (.call (.ref f) ⟨.ref (s.heap.objs.size + 1) :: vs, a⟩) (PySem.W.InitBack (s.heap.objs.size + 1) R)
   {s with heap:=(s.heap.push PySem.W.emptyDict).push (PySem.W.instObj C s.heap.objs.size)}):
  codeAny (a6 prog w) A (.call (.ref C) ⟨vs,a⟩) R s:=by
 obtain⟨O,g,d,t,os⟩:=s;exact PySem.W.make_core (PySem.W.makes_of X hm) (PySem.W.looks_findIn X hi) (λself=>PySem.W.bind_fn X self hf) (.inl rfl) h
end
noncomputable def eU(f:Str)(v:V):List (Str×V)->List (Str×V)
 |[]=>[(f,v)]
 |(g,x)::r=>if g=f then(g,v)::r else(g,x)::eU f v r
theorem Jh(f g:Str)(v:V):∀fs:List (Str×V),(eU f v fs).lookup g=if g=f then some v else fs.lookup g
  | [] => by
    show da g [(f,v)]=_;by_cases h:g=f
    · have hb:(g==f)=true:=beq_iff_eq.mpr h
      simp only[da,hb,if_pos h]
    · have hb:(g==f)=false:=beq_eq_false_iff_ne.mpr h
      simp only[da,hb,if_neg h]
  | (k, x) :: r => by
    have ih:=Jh f g v r;rw[show eU f v ((k,x)::r)=(if k=f then(k,v)::r else(k,x)::eU f v r) from rfl];by_cases hk:k=f
    · rw[if_pos hk]
      by_cases h:g=k
      · have hb:(g==k)=true:=beq_iff_eq.mpr h
        simp only[da,hb,if_pos (h.trans hk)]
      · have hb:(g==k)=false:=beq_eq_false_iff_ne.mpr h
        simp only[da,hb,if_neg (λe:g=f=>h (e.trans hk.symm))]
    · rw[if_neg hk]
      by_cases h:g=k
      · have hb:(g==k)=true:=beq_iff_eq.mpr h
        simp only[da,hb,if_neg (λe:g=f=>hk (h.symm.trans e))]
      · have hb:(g==k)=false:=beq_eq_false_iff_ne.mpr h
        simp only[da,hb];exact ih
theorem An(f:Str)(v:V):∀fs:List (Str×V),f∈(eU f v fs).map (·.1)/\∀g,g∈fs.map (·.1)->g∈(eU f v fs).map (·.1)
  |[]=>⟨by simp[eU],λg h=>by simp at h⟩
  | (k, x) :: r => by
    obtain⟨B,C⟩:=An f v r;rw[show eU f v ((k,x)::r)=(if k=f then(k,v)::r else(k,x)::eU f v r) from rfl];by_cases hk:k=f
    · rw[if_pos hk]
      subst hk;exact⟨by simp,λg h=>by simpa using h⟩
    · rw[if_neg hk]
      refine⟨?_,λg h=>?_⟩
      · rw[bw]
        exact bA _ B
      · rw[bw] at h⊢
        rcases aA.mp h with e|e
        · exact aA.mpr (.inl e)
        · exact bA _ (C g e)
theorem JM(f:Str)(v:V):∀fs:List (Str×V),(eU f v fs).length<=fs.length+1
  |[]=>by simp[eU]
  | (k, x) :: r => by
    have ih:=JM f v r;rw[show eU f v ((k,x)::r)=(if k=f then(k,v)::r else(k,x)::eU f v r) from rfl];by_cases hk:k=f;· rw[if_pos hk,eY,eY];omega
    · rw[if_neg hk,eY,eY];omega
theorem iG.some_of{v:V}{o:Option ag}(r:iG (some v) o):∃u,o=some u/\RelV v u:=by
 cases o with
 |none=>exact(show False from r).elim
 |some u=>exact⟨u,rfl,r⟩
theorem iG.none_of{o:Option ag}(r:iG none o):o=none:=by
 cases o with
 |none=>rfl
 |some u=>exact(show False from r).elim
theorem U1{v:V}(r:RelV v u):PySem.W.handedIn u=true:=by
 cases v with
 |aD=>cases (show u=fv from r);rfl
 |bl b=>cases (show u=jW b from r);rfl
 |int i=>obtain⟨t,e⟩:=(show∃t,u=gz i t from r);cases e;rfl
 |str x=>obtain⟨t,e⟩:=(show∃t,u=ix x t from r);cases e;rfl
 |iM b=>obtain⟨t,e⟩:=(show∃t,u=tG b t from r);cases e;rfl
 |kG b=>obtain⟨t,e⟩:=(show∃t,u=n3 b t from r);cases e;rfl
 |ref a=>cases (show u=c4 a from r);rfl
 |ty n=>cases (show u=dE n from r);rfl
section
variable{P:be}{w:cx}{H H':Hp}{h h':ek}{a C dx:aw}{fs fs':List (Str×V)}
theorem vA(hok:cW P w H h)(e:H a=some (.ins C dx fs)):∃mA,nF h a dx C mA/\(∀f,iG (fs.lookup f) (mA f))/\PySem.Within mA (fs.map (·.1))/\fs.length<=1000/\H dx=some (.own a):=by
 obtain⟨d,z,ne,ob,mA,n,r,q⟩:=(show cA P w H h a (.ins C dx fs) from hok a _ e);exact⟨mA,⟨ob,n,ne⟩,r,q,z,d⟩
end
structure dX(K:PySem.W.Frag)(C:aw):Prop where
 pg:PySem.W.plainGet K C wt=true
 hd:PySem.W.hasDictIn K C=true
 po:PySem.W.plainOver K C=true
 sa:PySem.W.findIn K (.ref C) "__setattr__"=some (some (.builtin "object.__setattr__"))
theorem dX.get{K:PySem.W.Frag}{C:aw}(c:dX K C)(f:Str):PySem.W.plainGet K C f=true:=c.pg
def fS(K:PySem.W.Frag)(C:aw)(f:Str):Prop:=PySem.W.findIn K (.ref C) f=some none
theorem fS.Pb{K:PySem.W.Frag}{C:aw}{f:Str}(n:fS K C f):PySem.W.takerIn K C f=some none:=by
 unfold PySem.W.takerIn;rw[show PySem.W.findIn K (.ref C) f=some none from n]
 rfl
structure Meth(K:PySem.W.Frag)(C:aw)(m:Str)(f:aw):Prop where
 at_:PySem.W.findIn K (.ref C) m=some (some (.ref f))
 fn:PySem.W.isFn K (.ref f)=true
 kp:PySem.W.keepIn K (.ref f)=true
section
variable{X:Cx}{pins:List (aw×Obj)}{σ:qb}{H:Hp}{s:ar}{a C dx:aw}{fs:List (Str×V)}{f:Str}{v:V}{A:cC}{E:ag->ar->Prop}
theorem R5{b:Bool}(I:Inv X pins σ H s)(e:H a=some (.ins C dx fs))(c:dX X.K C)(n:fS X.K C f)(l:fs.lookup f=some v)
  (h:∀u s',Inv X pins σ H s'->RelV v u->Q u s'):wpAny (a6 X.prog X.w) A (getAttr (.ref a) f b) Q E s:=by
 obtain⟨mA,O,r,_,_,_⟩:=vA I.hok e;obtain⟨u,hu,ru⟩:=iG.some_of (v:=v) (o:=mA f) (by rw[<-l];exact r f);exact get_map I.cE O (c.get f) c.hd n hu (U1 ru) (h u _ (I.tok _) ru)
theorem BF{m:Str}{g:aw}{Q:ag×List ag->ar->Prop}(I:Inv X pins σ H s)(e:H a=some (.ins C dx fs))(c:dX X.K C)(k:Meth X.K C m g)(l:fs.lookup m=none)
  (h:Q (.ref g,[.ref a]) s):wpAny (a6 X.prog X.w) A (oe (.ref a) m pl) Q E s:=by
 obtain⟨mA,O,r,_,_,_⟩:=vA I.hok e;have hn:mA m=none:=iG.none_of (by rw[<-l];exact r m);exact PU I.cE O (c.get m) k.at_ k.fn hn h
theorem QT{y:V}{Q:Unit->ar->Prop}(I:Inv X pins σ H s)(e:H a=some (.ins C dx fs))(c:dX X.K C)(n:fS X.K C f)(hl:fs.length<1000)(d:RelV y u)
  (h:∀s',Inv X pins σ (upd H a (.ins C dx (eU f y fs))) s'->Q () s'):wpAny (a6 X.prog X.w) A (setAttr (.ref a) f u) Q E s:=by
 obtain⟨mA,O,r,P,_,U⟩:=vA I.hok e;have hz:(fs.map (·.1)).length<=sizeLine:=by rw[ak,hU];omega
 refine TM I.cE O c.sa c.po n.Pb c.hd P hz λh' i sb=>h _ ?_;have hd:∃o,h'.get? dx=some o:=let ⟨o,_,_,e',_⟩:=i.ns;⟨o,e'⟩;refine I.write (x:=a) (e:=dx) (by rw[e];exact dq) (.inr U) (λb q hb z=>(sb.2 b hb).trans z) hd ?_;refine⟨by rw[aM O.ne];exact U,?_,O.ne,i.obj,_,i.ns,λg=>?_,λg hg=>?_⟩;·have:=JM f y fs;omega
 .show iG ((eU f y fs).lookup g) (if g=f then some u else mA g);rw[Jh];by_cases q:g=f;·rw[if_pos q,if_pos q];exact d
  .rw[if_neg q,if_neg q];exact r g
 .by_cases q:g=f;·rw[q];exact(An f y fs).1
  .refine(An f y fs).2 g (P g λz=>hg ?_);show(if g=f then some u else mA g)=none;rw[if_neg q];exact z
theorem Inv.made(I:Inv X pins σ H s):Inv X pins σ (upd (upd H s.heap.objs.size (.own (s.heap.objs.size+1))) (s.heap.objs.size+1) (.ins C s.heap.objs.size []))
  {s with heap:=(s.heap.push PySem.W.emptyDict).push (PySem.W.instObj C s.heap.objs.size)}:=by
 have e1:(s.heap.push PySem.W.emptyDict).get? s.heap.objs.size=some PySem.W.emptyDict:=fO s.heap rfl;have e2:((s.heap.push PySem.W.emptyDict).push (PySem.W.instObj C s.heap.objs.size)).get? (s.heap.objs.size+1)=some (PySem.W.instObj C s.heap.objs.size):=by
  have:=fO (s.heap.push PySem.W.emptyDict) (o:=PySem.W.instObj C s.heap.objs.size) rfl;rwa[kN] at this
 have e3:(s.heap.push PySem.W.emptyDict).Ns s.heap.objs.size (λ_=>none):=⟨PySem.W.emptyDict,#[],_,e1,rfl,(λe he=>absurd he (by simp)),λ_=>rfl⟩;have I1:=I.laid (a:=s.heap.objs.size) (o:= .own (s.heap.objs.size+1)) (h':=s.heap.push PySem.W.emptyDict) (t':=s.toks) (λb u q=>bV _ q) (aF _) ⟨_,e1⟩;refine I1.laid (a:=s.heap.objs.size+1) (o:= .ins C s.heap.objs.size []) (t':=s.toks) (λb u q=>bV _ q) (mj (kN _ _)) ?_;have ne:s.heap.objs.size≠s.heap.objs.size+1:=dz (oH _);refine⟨by rw[aM ne,aT],eW _,ne,e2,λ_=>none,(Heap.Ns1.of_empty e3).at λo q=>bV _ q,λ_=>dq,λy hy=>absurd rfl hy⟩
theorem Nf{prog:be}{f:Str}{s:ar}(hb:hV e f env (eval e env)=eval e env)
  (h:wpAny (a6 prog w) A (eval e env) (λo s₁=>wpAny (a6 prog w) A (getAttr o f true) Q E s₁) E s):wpAny (a6 prog w) A (eval (.Attribute e f pos) env) Q E s:=
 Attribute_any_ h (by rw[arm_eval_Attribute,hb])
end
def mY(K:PySem.W.Frag)(ta:TE)(f:Str):TE:=λσ H Q=>ta σ H λx H1=>∃a C dx fs v,x= .ref a/\H1 a=some (.ins C dx fs)/\dX K C/\fS K C f/\fs.lookup f=some v/\Q v H1
def uN(K:PySem.W.Frag)(ta tv:TE)(f:Str):TS:=λD σ H=>tv σ H λy H1=>ta σ H1 λx H2=>∃a C dx fs,x= .ref a/\H2 a=some (.ins C dx fs)/\dX K C/\fS K C f/\fs.length<1000/\
 D.nx σ (upd H2 a (.ins C dx (eU f y fs)))
section
variable{X:Cx}{o e value:eu}{f:Str}{pos pos' tpos:Pos}{ta tv:TE}
theorem sY(he:PE X e ta)(hb:hV e f X.env (eval e X.env)=eval e X.env):PE X (.Attribute e f pos) (mY X.K ta f):=by
 intro pins s σ H Q I h;refine Nf hb (aJ (he pins s σ H _ I h) λu s1 ⟨x,H1,I1,g,a,C,dx,fs,v,ex,ea,c,n,l,q⟩=>?_);subst ex;obtain rfl:u=c4 a:=g;exact R5 I1 ea c n l λL s2 I2 ru=>⟨v,H1,I2,ru,q⟩
theorem IZ(ha:PE X o ta)(hv:PE X value tv)(hs:n7 value (some (.Attribute o f pos')) pos.line X.env=pure false):PS X (.Assign [.Attribute o f pos'] value pos) (uN X.K ta tv f):=by
 intro pins s σ H D I h;refine plainObj_wpAny_Assign_Attribute (aJ (hv pins s σ H _ I h) λu s1 ⟨y,H1,I1,d,q⟩=>aJ (ha pins s1 σ H1 _ I1 q) λb s2 ⟨x,H2,I2,g,a,C,dx,fs,ex,ea,c,n,l,M⟩=>?_) hs;subst ex;obtain rfl:b=c4 a:=g;exact QT I2 ea c n l d λs3 I3=>⟨σ,_,I3,M⟩
end
section
variable{X:Cx}{pins:List (aw×Obj)}{σ:qb}{H:Hp}{s:ar}{A:cC}{E:ag->ar->Prop}{Q:ag->ar->Prop}{c:ag}{b:Bool}
inductive iF(K:PySem.W.Frag)(H:Hp):V->ag->Prop where
 |aD:iF K H .aD (.type "NoneType")
 |bl (x:Bool):iF K H (.bl x) (.type "bool")
 |int (i:Int):iF K H (.int i) (.type "int")
 |str (x:Str):iF K H (.str x) (.type "str")
 |kG (x:UInt64):iF K H (.kG x) (.type "float")
 |lst {a:aw} {xs:List V} (e:H a=some (.lst xs)):iF K H (.ref a) (.type "list")
 |gH {a:aw} {o:Obj} {xs:List V} (e:H a=some (.gH o (.lst xs))):iF K H (.ref a) (.type "list")
 |tup {a:aw} {xs:List V} (e:H a=some (.tup xs)):iF K H (.ref a) (.type "tuple")
 |dK {a:aw} {kvs:List (Key×V)} (e:H a=some (.dK kvs)):iF K H (.ref a) (.type "dict")
 |dT {a:aw} {kvs:List (List Key×V)} (e:H a=some (.dT kvs)):iF K H (.ref a) (.type "dict")
 |J0 {a:aw} {o:Obj} {kvs:List (Key×V)} (e:H a=some (.gH o (.dK kvs))):iF K H (.ref a) (.type "dict")
 | ins {a C dx : Addr} {fs : List (Str × V)} (e : H a = some (.ins C dx fs)) (cl : dX K C) (ha : PySem.W.findIn K (.ref C) "__class__" = some (some (.builtin "object.__class__")))
   (hn:PySem.W.specialIn K (.builtin "object.__class__") "__get__"=some (some (.builtin "getset_descriptor.__get__"))) (htk:PySem.W.takesIn K (.builtin "object.__class__")=some true)
   (hm:PySem.W.mroIn K C (.type "object")=some true):iF K H (.ref a) (.ref C)
theorem Xa{x:V}{t:ag}(I:Inv X pins σ H s)(g:RelV x u)(ty:iF X.K H x t)(e:PySem.W.kitOne X.K t c=some b)(h:∀tk,Q (.bool b) {s with toks:=tk}):
    wpAny (a6 X.prog X.w) A (call (.builtin "isinstance") [u,c]) Q E s:=by
  cases ty with
  |aD=>cases (show u=fv from g);exact jD PySem.W.kitx_none I.cE dq e (λz=>nomatch z) h
  |bl y=>cases (show u=jW y from g);exact jD PySem.W.kitx_bool I.cE dq e (λz=>nomatch z) h
  |int i=>obtain⟨t,q⟩:=(show∃t,u=gz i t from g);cases q;exact jD PySem.W.kitx_int I.cE dq e (λz=>nomatch z) h
  |str y=>obtain⟨t,q⟩:=(show∃t,u=ix y t from g);cases q;exact jD PySem.W.kitx_str I.cE dq e (λz=>nomatch z) h
  |kG y=>obtain⟨t,q⟩:=(show∃t,u=n3 y t from g);cases q;exact jD PySem.W.kitx_float I.cE dq e (λz=>nomatch z) h
  | @lst a xs ea =>
    cases (show u=c4 a from g);obtain⟨_,_,n,_,h1⟩:=(show cA X.prog X.w H s.heap a (.lst xs) from I.hok a _ ea);exact jD yS I.cE ⟨_,h1,rfl⟩ e (λz=>nomatch z) h
  | @gH a ob xs ea =>
    cases (show u=c4 a from g);obtain⟨_,_,_,n,_,h1⟩:=(show cA X.prog X.w H s.heap a (.gH ob (.lst xs)) from I.hok a _ ea);exact jD yS I.cE ⟨_,h1,rfl⟩ e (λz=>nomatch z) h
  | @tup a xs ea =>
    cases (show u=c4 a from g);obtain⟨_,_,_,p⟩:=(show cA X.prog X.w H s.heap a (.tup xs) from I.hok a _ ea);obtain⟨o,h1,h2,_⟩:=p;exact jD PySem.W.kitx_tuple I.cE ⟨o,h1,h2⟩ e (λz=>nomatch z) h
  | @dK a kvs ea =>
    cases (show u=c4 a from g);obtain⟨_,_,vs,_,p⟩:=(show cA X.prog X.w H s.heap a (.dK kvs) from I.hok a _ ea);obtain⟨o,es,ep,h1,h2,_⟩:=p;exact jD vp I.cE ⟨o,h1,h2.1⟩ e (λz=>nomatch z) h
  | @dT a kvs ea =>
    cases (show u=c4 a from g);obtain⟨_,_,xs,_,o,es,ep,h1,h2,_⟩:=(show cA X.prog X.w H s.heap a (.dT kvs) from I.hok a _ ea);exact jD vp I.cE ⟨o,h1,h2.1⟩ e (λz=>nomatch z) h
  | @J0 a ob kvs ea =>
    cases (show u=c4 a from g);obtain⟨_,_,_,vs,_,o,es,ep,h1,h2,_⟩:=I.hok a _ ea;exact jD vp I.cE ⟨o,h1,h2.1⟩ e (λz=>nomatch z) h
  | @ins a C dx fs ea cl ha hn htk hm =>
    cases (show u=c4 a from g);obtain⟨mA,O,_⟩:=vA I.hok ea;obtain⟨od,J,_⟩:=O.look;exact jD (PySem.W.kitx_own (cl.get _) cl.hd ha hn htk hm) I.cE J e (λz=>nomatch z) h
end
structure dD(k:Nat)(A:cC):Prop where
 hd:A.handled=none
 dp:A.depth+3*k+5<pk
 un:A.units+16*k+200<wx
theorem dD.mono{k:Nat}(r:dD k A)(h:j<=k):dD j A:=⟨r.hd,by have:=r.dp;omega,by have:=r.un;omega⟩
theorem dD.deeper{k:Nat}{A:cC}(r:dD (k+1) A)(env:Env):dD k (A.deeper env):=
 ⟨r.hd,by have:=r.dp;show A.depth+1+3*k+5<_;omega,by have:=r.un;show A.units+3+16*k+200<_;omega⟩
theorem M6{C:aw}{a:List (Str×ag)}:(A.under (.builtin "type.__call__" ⟨.ref C::us,a⟩)).depth=A.depth+1:=by
 first|rfl|simp[mB,Code.weight,Code.isCreation,Code.isGuard,Code.isCaller,tJ,mF,guardIds]
theorem UA{C:aw}{a:List (Str×ag)}:(A.under (.builtin "type.__call__" ⟨.ref C::us,a⟩)).units=A.units+1:=by
 first|rfl|simp[mB,Code.cUnits,tJ,mF]
theorem dD.make{k:Nat}(r:dD (k+1) A)(C:aw)(us:List ag)(a:List (Str×ag)):dD k (A.under (.builtin "type.__call__" ⟨.ref C::us,a⟩)):=
 ⟨r.hd,by have:=r.dp;rw[M6];omega,by have:=r.un;rw[UA];omega⟩
theorem dD.depth{k:Nat}{A:cC}(r:dD k A):A.depth<pk:=by have:=r.dp;omega
theorem dD.units{k:Nat}{A:cC}(r:dD k A):A.units+64<wx:=by have:=r.un;omega
def bK:TA:=λ_ H Q=>Q [] H
def aX(ta:TE)(tr:TA):TA:=λσ H Q=>ta σ H λx H1=>tr σ H1 λxs H2=>Q (x::xs) H2
section
variable{X:Cx}{e:eu}{es:List eu}{te:TE}{t:TA}{pos:Pos}
theorem aj:PA X [] bK:=λ_ _ _ _ H Q I h=>Calls.spliced_nil ⟨[],H,I, .nil,h⟩
theorem aa(ha:PE X e te)(hr:PA X es t)(hs:cn (e::es) X.env=(false,eval e X.env)::cn es X.env:=by rfl):PA X (e::es) (aX te t):=by
 intro pos pins s σ H Q I h;rw[hs];show wpAny _ _ (spliced ((false,eval e X.env)::ij pos (cn es X.env))) _ _ s;refine Calls.spliced_cons (aJ (ha pins s σ H _ I h) λu s1 ⟨x,H1,I1,O,J⟩=>?_);exact aJ (hr pos pins s1 σ H1 _ I1 J) λus s2 ⟨xs,H2,I2,N,M⟩=>⟨x::xs,H2,I2, .cons O N,M⟩
def pH(t:TA):TE:=λσ H Q=>t σ H λxs H1=>xs.length<=sizeLine/\∀p,H1 p=none->Q (.ref p) (upd H1 p (.tup xs))
def pS(t:TA):TE:=λσ H Q=>t σ H λxs H1=>xs.length<=sizeLine/\∀p,H1 p=none->Q (.ref p) (upd H1 p (.lst xs))
theorem gJ{x1}(h:PA X es t):PE X (.Tuple es x1 pos) (pH t):=by
 intro pins s σ H Q I hq;refine wpAny_Tuple_spliced (aJ (h pos pins s σ H _ I hq) λus s1 ⟨xs,H1,I1,r,z,q⟩=>⟨by rw[<-r.length];exact z,?_⟩);have hf:H1 s1.heap.objs.size=none:=I1.hok.fresh (aF _);refine⟨.ref s1.heap.objs.size,upd H1 s1.heap.objs.size (.tup xs),I1.laid (t':=s1.toks) (λb u e=>bV _ e) (aF _) ?_,rfl,q _ hf⟩;exact⟨z,us,r,⟨_,fO _ rfl,rfl,_,rfl⟩⟩
theorem jw(h:PA X es t):PE X (.List es pos) (pS t):=by
 intro pins s σ H Q I hq;refine wpAny_List_spliced (aJ (h pos pins s σ H _ I hq) λus s1 ⟨xs,H1,I1,r,z,q⟩=>⟨by rw[<-r.length];exact z,?_⟩);have hf:H1 s1.heap.objs.size=none:=I1.hok.fresh (aF _);refine⟨.ref s1.heap.objs.size,upd H1 s1.heap.objs.size (.lst xs),I1.laid (t':=s1.toks) (λb u e=>bV _ e) (aF _) ?_,rfl,q _ hf⟩;exact⟨z,us,0,r,fO _ rfl⟩
end
abbrev Sp:=List V->Hp->VK->XK->Prop
abbrev kr:=List Env->Hp->ar->XK->ag->ar->Prop
structure nZ(P:be)(w:cx)(K:PySem.W.Frag)(mg:Str->Option ag)(base:ek)(A:cC)(outer:List Env)(s:ar)(H:Hp):Prop where
 frames:A.frames=some outer
 mod:Mod K mg base
 bs:∀b o,base.get? b=some o->s.heap.get? b=some o/\H b=none
 ny:base.objs.size<=s.heap.objs.size
 jm:s.heap.FunFrames base outer
 ou:∀b∈frs outer,H b=none
 hok:cW P w H s.heap
 bare:iz s.gens
def CE(outer:List Env)(P:be)(w:cx)(H:Hp)(s:ar)(Q:VK)(u:ag)(s':ar):Prop:=
 ∃v H',s'.os=s.os/\iz s'.gens/\Un (frs outer) [] H H' s.heap s'.heap/\cW P w H' s'.heap/\RelV v u/\Q v H'
def CR(CX:kr)(outer:List Env)(P:be)(w:cx)(H:Hp)(s:ar)(Q:VK)(E:XK)(r:Result)(s':ar):Prop:=
 match r with
 | .ok (.ret u)=>CE outer P w H s Q u s'
 | .ok _=>False
 | .error e=>CX outer H s E e s'
structure bf(P:be)(w:cx)(K:PySem.W.Frag)(mg:Str->Option ag)(base:ek)(CX:kr)(k:Nat)(f:aw)(fd:eJ)(ps:List Str)(sp:Sp):Prop where
 len:∀vs H Q E,sp vs H Q E->vs.length=ps.length
 run:∀(A:cC) (outer:List Env) (s:ar) (H:Hp) (args:Args) (us:List ag) (vs:List V) (Q:VK) (E:XK),dD k A->nZ P w K mg base A outer s H->og s fd args (ps.zip us)->Vals vs us->sp vs H Q E->
  codeAny (a6 P w) A (.call (.ref f) args) (CR CX outer P w H s Q E) s
theorem nZ.make{P:be}{K:PySem.W.Frag}{H:Hp}(e:nZ P w K mg base A outer s H)(C:aw)(us:List ag)(a:List (Str×ag)):
  nZ P w K mg base (A.under (.builtin "type.__call__" ⟨.ref C::us,a⟩)) outer s H:=⟨by first|exact e.frames|(simpa[mB,Code.envs,mF,pushEnvs] using e.frames),e.mod,e.bs,e.ny,e.jm,e.ou,e.hok,e.bare⟩
section
variable{X:Cx}{pins:List (aw×Obj)}{σ:qb}{H:Hp}{s s':ar}
theorem Inv.FT(I:Inv X pins σ H s):nZ X.prog X.w X.K X.mg X.base X.A X.stack s H:=
 ⟨I.ok.frames,I.ok.mod,I.bs,fX I.ok.ny I.sz,I.stack,I.JJ,I.hok,I.bare⟩
theorem Inv.after{Q:VK}(I:Inv X pins σ H s)(h:CE X.stack X.prog X.w H s Q u s'):EP X pins σ Q u s':=by
 obtain⟨v,H',os,bare,un,hok,r,q⟩:=h;obtain⟨O,g,d,t,a⟩:=s';obtain rfl:a=s.os:=os;exact⟨v,H',I.call (h':=O) (g':=g) (d':=d) (t':=t) (ch:=[]) un hok bare (λb z=>absurd z (by simp)),r,q⟩
end
def fN(sp:Sp)(fq:List V)(E:XK)(t:TA):TE:=λσ H Q=>t σ H λvs H1=>sp (vs++fq) H1 Q E
def pM(C:aw)(m:Str)(sp:Sp)(fq:List V)(E:XK)(ta:TE)(t:TA):TE:=λσ H Q=>ta σ H λx H1=>∃a dx fs,x= .ref a/\H1 a=some (.ins C dx fs)/\fs.lookup m=none/\
 t σ H1 λvs H2=>sp (x::(vs++fq)) H2 Q E
def CU(C:aw)(sp:Sp)(fq:List V)(E:XK)(t:TA):TE:=λσ H Q=>t σ H λvs H1=>∀x dx,H1 x=none->H1 dx=none->dx≠x->
 sp (.ref x::(vs++fq)) (upd (upd H1 dx (.own x)) x (.ins C dx [])) (λv H2=>v= .aD/\Q (.ref x) H2) E
def Binds(K:PySem.W.Frag)(fd:eJ)(ps:List Str)(ds:List ag):Prop:=
 ∀(s:ar) (us:List ag),K.In s.heap->(us++ds).length=ps.length->og s fd ⟨us,[]⟩ (ps.zip (us++ds))
theorem Binds.all{K:PySem.W.Frag}(h:∀us:List ag,us.length=ps.length->bindArgs fd ⟨us,[]⟩=pure (ps.zip us)):Binds K fd ps []:=λs us _ hl=>by
 rw[ic] at hl⊢;exact .of_eq (h us hl)
def Passes(CX:kr)(X:Cx)(E:XK):Prop:=∀(pins:List (aw×Obj)) (σ:qb) (H:Hp) (s:ar) (e:ag) (s':ar),Inv X pins σ H s->CX X.stack H s E e s'->X.xe e s'
section
variable{X:Cx}{CX:kr}{k:Nat}{f C:aw}{fd:eJ}{ps:List Str}{sp:Sp}{fq:List V}{ds:List ag}{E:XK}{x m:Str}{p pos apos:Pos}{e o:eu}{es:List eu}{ta:TE}{t:TA}
theorem AY{σ:qb}{H:Hp}{Q:VK}{vs:List V}(F:bf X.prog X.w X.K X.mg X.base CX k f fd ps sp)(hr:dD k X.A)(hb:Binds X.K fd ps ds)(hd:Vals fq ds)(hx:Passes CX X E)
    (I:Inv X pins σ H s) (r:Vals vs us) (h:sp (vs++fq) H Q E):wpAny (a6 X.prog X.w) X.A (call (.ref f) us) (EP X pins σ Q) X.xe s:=by
  have N:Vals (vs++fq) (us++ds):=r.append hd;have hl:(us++ds).length=ps.length:=by rw[<-N.length];exact F.len _ _ _ _ h
  refine q7 (gd (F.run X.A X.stack s H ⟨us,[]⟩ (us++ds) (vs++fq) Q E hr I.FT (hb s us I.cE hl) N h) λr s' hq=>?_);cases r with
  |error e=>exact hx pins σ H s e s' I hq
  | ok fl =>
    cases fl with
    |ret u=>exact I.after hq
    |next=>exact dC hq
    |brk=>exact dC hq
    |cont=>exact dC hq
theorem WG(F:bf X.prog X.w X.K X.mg X.base CX k f fd ps sp)(hr:dD k X.A)(hg:Gl X x)(hm:X.mg x=some (.ref f))(hk:PySem.W.keepIn X.K (.ref f)=true)(hb:Binds X.K fd ps ds)(hd:Vals fq ds)(hx:Passes CX X E)
  (ha:PA X (e::es) t) (a:(x==("__debug__":Str))=false:=by decide) (he:cn (e::es) X.env=(false,eval e X.env)::cn es X.env:=by rfl) (o:(ij pos (cn es X.env)).any (·.1)=false:=by rfl):
  PE X (.Call (.Name x p) (e::es) [] pos) (fN sp fq E t):=by
 intro pins s σ H Q I h;refine e0 (Fi I hg hm ?_ a);refine A4 (h₀:=X.base) I.ok.mod.tH hk (aJ (ha pos pins s σ H _ I h) λus s1 ⟨vs,H1,I1,r,q⟩=>⟨I1.cE,?_⟩) he o;exact AY F hr hb hd hx I1 r q
theorem Oa(he:PE X o ta)(c:dX X.K C)(hm:Meth X.K C m f)(F:bf X.prog X.w X.K X.mg X.base CX k f fd ps sp)(hr:dD k X.A)(hb:Binds X.K fd ps ds)(hd:Vals fq ds)(hx:Passes CX X E)
  (ht : eval (.Call (.Attribute o m apos) [] [] pos) X.env = (do
   let ov<-eval o X.env
   standAt apos.atName
   let (f,first)<-holding [ov] (oe ov m pl)
   callWith pos f first (ij pos (cn [] X.env)) (vv pos (oi [] X.env))):=by rfl):
  PE X (.Call (.Attribute o m apos) [] [] pos) (pM C m sp fq E ta bK):=by
 intro pins s σ H Q I h;refine zE (pl:=pl) (aJ (he pins s σ H _ I h) λu s1 ⟨x,H1,I1,g,a,dx,fs,ex,ea,l,q⟩=>?_) ht;subst ex;obtain rfl:u=c4 a:=g;refine BF I1 ea c hm l ?_;exact PySem.W.callWith_K0 (first:=[.ref a]) I1.cE hm.kp (AY (us:=[.ref a]) (vs:=[.ref a]) F hr hb hd hx I1 (.cons rfl .nil) q)
structure Mk(K:PySem.W.Frag)(C f:aw):Prop where
 makes:PySem.W.makesIn K C=true
 init:PySem.W.findIn K (.ref C) "__init__"=some (some (.ref f))
 fn:PySem.W.isFn K (.ref f)=true
 kp:PySem.W.keepIn K (.ref C)=true
theorem Xx{σ:qb}{H:Hp}{Q:VK}{vs:List V}(M:Mk X.K C f)(F:bf X.prog X.w X.K X.mg X.base CX k f fd ps sp)(hr:dD (k+1) X.A)(hb:Binds X.K fd ps ds)(hd:Vals fq ds)
    (hx:Passes CX X E) (I:Inv X pins σ H s) (r:Vals vs us)
    (h:∀x dx,H x=none->H dx=none->dx≠x->sp (.ref x::(vs++fq)) (upd (upd H dx (.own x)) x (.ins C dx [])) (λv H2=>v= .aD/\Q (.ref x) H2) E):
    wpAny (a6 X.prog X.w) X.A (call (.ref C) us) (EP X pins σ Q) X.xe s:=by
  have hq:=h (s.heap.objs.size+1) s.heap.objs.size (I.hok.fresh (pK _)) (I.hok.fresh (aF _)) (dz (oH _));have I2:=Inv.made (C:=C) I;have N:Vals (V.ref (s.heap.objs.size+1)::(vs++fq)) (c4 (s.heap.objs.size+1)::(us++ds)):= .cons rfl (r.append hd);have hl:(c4 (s.heap.objs.size+1)::us++ds).length=ps.length:=by
    have e:=N.length;rw[F.len _ _ _ _ hq] at e;exact e.symm
  refine q7 (Vr (f:=f) I.cE M.makes M.init (beq_iff_eq.mp M.fn) (gd (F.run _ X.stack _ _ ⟨c4 (s.heap.objs.size+1)::us,[]⟩ (c4 (s.heap.objs.size+1)::(us++ds)) _ _ E (hr.make C us [])
    (I2.FT.make C us []) (hb _ (c4 (s.heap.objs.size+1)::us) I2.cE hl) N hq) λr s' a=>?_))
  cases r with
  |error e=>exact hx pins σ _ _ e s' I2 a
  | ok fl =>
    cases fl with
    | ret u =>
      obtain⟨v,H',I3,rv,ev,q3⟩:=I2.after a;subst ev;exact⟨rv,⟨V.ref (s.heap.objs.size+1),H',I3,rfl,q3⟩⟩
    |next=>exact dC a
    |brk=>exact dC a
    |cont=>exact dC a
theorem WE(M:Mk X.K C f)(F:bf X.prog X.w X.K X.mg X.base CX k f fd ps sp)(hr:dD (k+1) X.A)(hg:Gl X x)(hm:X.mg x=some (.ref C))(hb:Binds X.K fd ps ds)(hd:Vals fq ds)(hx:Passes CX X E)
  (ha:PA X (e::es) t) (a:(x==("__debug__":Str))=false:=by decide) (he:cn (e::es) X.env=(false,eval e X.env)::cn es X.env:=by rfl) (o:(ij pos (cn es X.env)).any (·.1)=false:=by rfl):
  PE X (.Call (.Name x p) (e::es) [] pos) (CU C sp fq E t):=by
 intro pins s σ H Q I h;refine e0 (Fi I hg hm ?_ a);refine A4 (h₀:=X.base) I.ok.mod.tH M.kp (aJ (ha pos pins s σ H _ I h) λus s1 ⟨vs,H1,I1,r,q⟩=>⟨I1.cE,?_⟩) he o;exact Xx M F hr hb hd hx I1 r q
end
structure cg(N P:List Str)(sc:hQ):Prop where
 kind:sc.kind= .function
 co:sc.isCoroutine=false
 gen:sc.isGenerator=false
 nd:N.Nodup
 pre:N.take P.length=P
 par:∀x∈P,sc.names.lookup x=some .local\/sc.names.lookup x=some .cell
 SG:∀y∈sc.names,y.2≠ .free
theorem HM{kindOf:Str->Option eL}{x:Str}:∀{binds:List (Str×ag)} {m:Str->Option ag},(∀v,(x,v)∉binds)->t2 kindOf binds m x=m x
  |[],_,_=>rfl
  | (n, v) :: r, m, h => by
    unfold t2;rw[HM λw hw=>h w (bA _ hw)];split
    · have:x≠n:=by rintro rfl;exact h v bY
      simp[this]
    · rfl
theorem J4{kindOf:Str->Option eL}{x:Str}:∀{binds:List (Str×ag)} {m:Str->Option ag},(∀v,(x,v)∉binds)->t4 kindOf binds m x=m x
  |[],_,_=>rfl
  | (n, v) :: r, m, h => by
    unfold t4;rw[J4 λw hw=>h w (bA _ hw)];split;· rfl
    · have:x≠n:=by rintro rfl;exact h v bY
      simp[this]
theorem G5{kindOf:Str->Option eL}{x:Str}{v:ag}:∀{P:List Str} {vs:List ag} {i:Nat} {m:Str->Option ag},P.Nodup->P[i]?=some x->vs[i]?=some v->kindOf x=some .local->
    t2 kindOf (P.zip vs) m x=some v
  |[],_,_,_,_,h,_,_=>by simp at h
  |_::_,[],_,_,_,_,h,_=>by simp at h
  | p :: P, w :: vs, 0, m, nd, h1, h2, hk => by
    simp at h1 h2;subst h1;subst h2;show t2 kindOf ((p,w)::P.zip vs) m p=_;unfold t2;rw[HM λv hv=>(dU.mp nd).1 (Dq hv).1,if_pos hk];simp
  | p :: P, w :: vs, i + 1, m, nd, h1, h2, hk => by
    show t2 kindOf ((p,w)::P.zip vs) m x=_;unfold t2;exact G5 (i:=i) (dU.mp nd).2 (by simpa using h1) (by simpa using h2) hk
theorem ED{kindOf:Str->Option eL}{x:Str}{v:ag}:∀{P:List Str} {vs:List ag} {i:Nat} {m:Str->Option ag},P.Nodup->P[i]?=some x->vs[i]?=some v->kindOf x≠some .local->
    t4 kindOf (P.zip vs) m x=some v
  |[],_,_,_,_,h,_,_=>by simp at h
  |_::_,[],_,_,_,_,h,_=>by simp at h
  | p :: P, w :: vs, 0, m, nd, h1, h2, hk => by
    simp at h1 h2;subst h1;subst h2;show t4 kindOf ((p,w)::P.zip vs) m p=_;unfold t4;rw[J4 λv hv=>(dU.mp nd).1 (Dq hv).1,if_neg hk];simp
  | p :: P, w :: vs, i + 1, m, nd, h1, h2, hk => by
    show t4 kindOf ((p,w)::P.zip vs) m x=_;unfold t4;exact ED (i:=i) (dU.mp nd).2 (by simpa using h1) (by simpa using h2) hk
noncomputable def start(N:List Str)(vs:List V):qb:=vs.map some++cj (N.length-vs.length) none
noncomputable def o9(CX:kr)(P:be)(w:cx)(K:PySem.W.Frag)(mg:Str->Option ag)(base:ek)(N:List Str)(qual:Str)(scope:hQ)(f:aw)(m:ag)(A:cC)(outer:List Env)(s:ar)(H:Hp)(E:XK):Cx where
 prog:=P
 w:=w
 K:=K
 mg:=mg
 base:=base
 A:=A.deeper (mI qual scope s.heap.objs.size f m)
 N:=N
 s₀:=s
 H₀:=H
 env:=mI qual scope s.heap.objs.size f m
 outer:=outer
 stack:=mI qual scope s.heap.objs.size f m::outer
 ex:=[]
 calm:=true
 fn:=λ_=>true
 pn:=[]
 xe:=λe s'=>wpAny (a6 P w) (A.deeper (mI qual scope s.heap.objs.size f m)) (leaving (mI qual scope s.heap.objs.size f m) e) (λ_ a=>CX outer H s E e a) (λe' a=>CX outer H s E e' a) s'
theorem J8{sc:hQ}(h:sc.names.lookup x=some .cell):∃c,(sk n sc.names []).lookup x=some c:=by
 have q:=Kr sc.names n [] (.inl h);exact Gr.mp q
theorem Pr{CX:kr}{P:be}{K:PySem.W.Frag}{f:aw}{m:ag}{s1:ar}{H:Hp}{E:XK}{vs:List V}
  (S:cg N ps scope) (hd:A.handled=none) (O:nZ P w K mg base A outer s H) (hl:vs.length=ps.length) (r:Vals vs us)
  (x:InCallC s s.heap.objs.size (t2 (mI qual scope s.heap.objs.size f m).kindOf (ps.zip us) λ_=>none) (sk (s.heap.objs.size+1) scope.names []) (t4 (mI qual scope s.heap.objs.size f m).kindOf (ps.zip us) λ_=>none) s1):
  Inv (o9 CX P w K mg base N qual scope f m A outer s H E) [] (start N vs) H s1:=by
 have o:ps.length<=N.length:=by have:=congrArg oj S.pre;rw[kh] at this;omega
 obtain⟨h1,tk,rfl,hk⟩:=x.done;have g:∀b:aw,b∉(o9 CX P w K mg base N qual scope f m A outer s H E).ex:=λb z=>absurd (show b∈([]:List aw) from z) (by simp)
 refine⟨⟨O.mod,S.kind,rfl,rfl,aF _,λy z c h1 h2=>?_,λy hy=>?_,λy c _ h=>?_,λ_=>hd,Around.frames_deeper O.frames, .inr ⟨rfl,rfl⟩,λb z=>absurd z (g b),O.bs,O.ny,λb _ _=>g b,λb z=>absurd z (g b),O.jm,O.ou⟩,
  rfl,O.bare,Un.kept hk,⟨_,x.toInCall.ns,λi y v h1 h2 h3=>?_⟩,λy c h=>⟨_,x.cell y c h⟩,O.hok.fresh (aF _),λy c h=>?_,λp hp=>absurd (show p∈([]:List (aw×Obj)) from hp) (by simp),O.hok.kept hk,?_⟩
 .exact name_of_addr x.apart (nI h1) (nI h2)
 .have hy:scope.names.lookup y=some .cell\/scope.names.lookup y=some .free:=hy;rcases hy with hy|hy
  .exact J8 hy
  .exact absurd rfl (S.SG _ (nI hy))
 .exact j4 (x.above y c (nI h))
 .have hi:i<vs.length:=by
   unfold start at h2;by_cases hi:i<vs.length;·exact hi
   .rw[gb (by simpa using hi)] at h2;rw[fZ] at h2;split at h2<;>cases h2
  have ha:vs[i]?=some v:=by
   unfold start at h2;rw[fG (by simpa using hi),cB] at h2;cases e:vs[i]? with
   |none=>rw[e] at h2;cases h2
   |some a=>rw[e] at h2;cases h2;rfl
  obtain⟨u,hu,rv⟩:=r.get ha;have hp:ps[i]?=some y:=by
   rw[<-S.pre,EW ∅];exact h1
  have d:ps.Nodup:=by rw[<-S.pre];exact S.nd.sublist (List.take_sublist _ _)
  refine⟨u,rv,?_⟩;rcases S.par y (c8 hp) with k|k
  .exact .inl ⟨k,G5 d hp hu k⟩
  .obtain⟨c,e⟩:=J8 (n:=s.heap.objs.size+1) k;refine .inr ⟨.inl k,c,e,?_⟩;have q:=x.cell y c e;rw[ED d hp hu (by show scope.names.lookup y≠_;rw[k];decide)] at q;exact q
 .exact O.hok.fresh (j4 (x.above y c (nI h)))
 .unfold start;show _=N.length;rw[gx,ak,List.length_replicate];omega
theorem T7{CX:kr}{P:be}{K:PySem.W.Frag}{k:Nat}{f:aw}{name:Str}{d:Arguments}{a:List ft}{i kV doc pm cdv ct:ag}{an od:Option aw} {sp:Sp} (R:K.lookup f=some ⟨oc,od, .func (PySem.W.fnOf name qual d a scope i kV doc pm an cdv ct),osl⟩) (j:PySem.W.codeIn K cdv qual=true) (S:cg N ps scope)
    (len:∀vs H Q E,sp vs H Q E->vs.length=ps.length)
    (c:∀(A:cC) (outer:List Env) (s:ar) (H:Hp) (vs:List V) (Q:VK) (E:XK),dD k (A.deeper (mI qual scope s.heap.objs.size f cdv))->sp vs H Q E->
      ∃t,iX (o9 CX P w K mg base N qual scope f cdv A outer s H E) a t/\t {nx:=λ_ H'=>Q .aD H',rt:=Q} (start N vs) H):
    bf P w K mg base CX (k+1) f (PySem.W.fnOf name qual d a scope i kV doc pm an cdv ct) ps sp:=by
  refine⟨len,λA outer s H args us vs Q E hr O hb r B=>?_⟩;have hl:=len _ _ _ _ B;have KX:K.In s.heap:=O.mod.tH.keeps λb o e=>(O.bs b o e).1;have h:s.heap.NoLimit:=O.mod.nolimit.keeps λb o e=>(O.bs b o e).1;have g:∀y∈ps.zip us,scope.names.lookup y.1=some .local\/(scope.names.lookup y.1=some .cell/\((sk (s.heap.objs.size+1) scope.names []).lookup y.1).isSome=true):=λ⟨n,v⟩ hy=>by
    rcases S.par n (Dq hy).1 with q|q
    · exact .inl q
    · exact .inr ⟨q,Kr _ _ _ (.inl q)⟩
  refine codeAny_call_function hr.depth (KX _ _ R) rfl S.co S.gen rfl (PySem.W.codeRec_of KX j) (hb _ _ _ _ ?_);refine wpAny_newFunctionEnv_cells S.kind g λenv he s1 x=>?_;subst he;refine⟨h.keeps x.toInCall.keep,codeAny_func ?_⟩;obtain⟨t,ht,hq⟩:=c A outer s H vs Q E (hr.deeper _) B;have I:Inv (o9 CX P w K mg base N qual scope f cdv A outer s H E) [] (start N vs) H s1:=Pr S hr.hd O hl r x;refine er (ht [] s1 (start N vs) H _ I hq) (λfl s' hs=>?_) λe s' hs=>hs
  have fin:∀{L:qb} {H':Hp} {v:V} {u:ag},Inv (o9 CX P w K mg base N qual scope f cdv A outer s H E) [] L H' s'->RelV v u->Q v H'->CE outer P w H s Q u s':=
    λ{L H' v u} J rv q=>⟨v,H',J.os,J.bare,J.base,J.hok,rv,q⟩
  cases fl with
  | ret u =>
    obtain⟨v,L,H',J,rv,q⟩:=hs;exact fin J rv q
  | next =>
    obtain⟨L,H',J,q⟩:=hs;exact fin (v:=V.aD) (u:=fv) J rfl q
  | brk =>
    obtain⟨_,_,_,q⟩:=hs;exact dC q
  | cont =>
    obtain⟨_,_,_,q⟩:=hs;exact dC q
section
variable{X:Cx}{x:Str}{p pos:Pos}{e:eu}{es:List eu}{t:TA}{id T:String}{r:List V->Hp->VK->Prop}
def eX(r:List V->Hp->VK->Prop)(t:TA):TE:=λσ H Q=>t σ H λvs H1=>r vs H1 Q
theorem cS(hc:fV X (.builtin id) r)(hg:Gl X x)(hm:X.mg x=none)(hv:fR x=some (.builtin id))(ha:PA X (e::es) t)(hn:x≠"__name__":=by decide)(a:(x==("__debug__":Str))=false:=by decide)
  (he:cn (e::es) X.env=(false,eval e X.env)::cn es X.env:=by rfl) (o:(ij pos (cn es X.env)).any (·.1)=false:=by rfl):PE X (.Call (.Name x p) (e::es) [] pos) (eX r t):=by
 intro pins s σ H Q I h;refine e0 (pC I hg hm hv ?_ hn a);exact mK (aJ (ha pos pins s σ H _ I h) λus s1 ⟨vs,H1,I1,O,J⟩=>hc pins s1 σ H1 vs us Q I1 O J) he o
theorem kZ(hc:fV X (.type T) r)(hg:Gl X x)(hm:X.mg x=none)(hv:fR x=some (.type T))(ha:PA X (e::es) t)(hn:x≠"__name__":=by decide)(a:(x==("__debug__":Str))=false:=by decide)
  (he:cn (e::es) X.env=(false,eval e X.env)::cn es X.env:=by rfl) (o:(ij pos (cn es X.env)).any (·.1)=false:=by rfl):PE X (.Call (.Name x p) (e::es) [] pos) (eX r t):=by
 intro pins s σ H Q I h;refine e0 (pC I hg hm hv ?_ hn a);exact vL (aJ (ha pos pins s σ H _ I h) λus s1 ⟨vs,H1,I1,O,J⟩=>hc pins s1 σ H1 vs us Q I1 O J) he o
end
end L2
variable{H H1 H':L2.Hp}{xs vs:List L2.V}{σ:L2.qb}{X:L2.Cx}{q:L2.qb->L2.Hp->Prop}{kvs:List (L2.Key×L2.V)}{g:L2.TG}{r:L2.V->Option Int->Option Int->L2.Hp->L2.VK->Prop}{tc:L2.TT}{te t0:L2.TE}{sp:L2.Sp}{t:L2.TA}{D:L2.Ends}
namespace HT
open PySem PyProof.Rows
section
open PySem.SeqAt
open PySem.AutoSeq1 (wpAny_loadPart')
open PySem.MeetsSeq PySem.MeetsSeq2 PySem.MeetsSeq3
end
section
variable{prog:be}{w:cx}{A:cC}{E:ag->ar->Prop}{s:ar}
noncomputable def eN(n d:Nat):Option Int->Nat
 |none=>d
 |some v=>if v<0 then(v+(n:Int)).toNat else min v.toNat n
end
end HT
namespace L2
abbrev TO:=qb->Hp->(Option Int->Hp->Prop)->Prop
def PO(X:Cx)(e:Option eu)(t:TO):Prop:=
 ∀(pins:List (aw×Obj)) (s:ar) (σ:qb) (H:Hp) (Q:Option Int->Hp->Prop),Inv X pins σ H s->t σ H Q->
  wpAny (a6 X.prog X.w) X.A (evalPart e X.env) (λu s'=>∃o H',Inv X pins σ H' s'/\IsPart u o/\Q o H') X.xe s
def C7:TO:=λ_ H Q=>Q none H
def AM(t:TE):TO:=λσ H Q=>t σ H λx H1=>∃i,x= .int i/\Q (some i) H1
section
variable{X:Cx}{e:eu}{te:TE}{lo hi:Option eu}{tl th:TO}{pos p2:Pos}
theorem rK:PO X none C7:=by
 intro pins s σ H Q I h;rw[rB];exact ax ⟨none,H,I, .none,h⟩
theorem tB(h:PE X e te):PO X (some e) (AM te):=by
 intro pins s σ H Q I hw;rw[evalPart_some];refine aJ (h pins s σ H _ I hw) λu s1 ⟨x,H1,I1,O,J⟩=>?_;obtain⟨i,rfl,q⟩:=J;obtain⟨t,rfl⟩:=O;exact⟨some i,H1,I1, .int i t,q⟩
def HK(X:Cx)(r:V->Option Int->Option Int->Hp->VK->Prop):Prop:=
 ∀(pins:List (aw×Obj)) (s:ar) (σ:qb) (H:Hp) (x:V) (v c a:ag) (lo hi:Option Int) (sl:aw) (Q:VK),Inv X pins σ H s->RelV x v->s.heap.IsSliceOf sl c a .none->IsPart c lo->IsPart a hi->r x lo hi H Q->
  ∃T id,typeLookup (.type T) "__getitem__"=pure (some (.builtin id))/\s.TypeIs v T/\wpAny (a6 X.prog X.w) X.A (getItem v (.ref sl)) (EP X pins σ Q) X.xe s
def qH(r:V->Option Int->Option Int->Hp->VK->Prop)(te:TE)(tl th:TO):TE:=λσ H Q=>te σ H λx H1=>tl σ H1 λl H2=>th σ H2 λu H3=>r x l u H3 Q
theorem rH{r:V->Option Int->Option Int->Hp->VK->Prop}(hr:HK X r)(he:PE X e te)(hl:PO X lo tl)(hu:PO X hi th):PE X (.Subscript e (.Slice lo hi none p2) pos) (qH r te tl th):=by
 intro pins s σ H Q I h;refine Subscript_ (aJ (he pins s σ H _ I h) λv s1 ⟨x,H1,I1,O,J⟩=>?_);refine wpAny_Slice (aJ (hl pins s1 σ H1 _ I1 J) λc s2 ⟨l,H2,I2,pl,M⟩=>aJ (hu pins s2 σ H2 _ I2 M) λa s3 ⟨u,H3,I3,d,q3⟩=>?_);rw[rB];refine ax ?_;have I4:Inv X pins σ H3 {s3 with heap:=s3.heap.push {cls:= .type "slice",data:= .fields #[c,a, .none]}}:=I3.kept (t':=s3.toks) λb ob q=>bV _ q;obtain⟨T,id,hT,ht,hg⟩:=hr pins {s3 with heap:=s3.heap.push {cls:= .type "slice",data:= .fields #[c,a, .none]}} σ H3 x v c a l u s3.heap.objs.size Q I4 O (vw ..) pl d q3;show wpAny (a6 X.prog X.w) X.A (kS e (.Slice lo hi none p2) v (.ref s3.heap.objs.size)) (EP X pins σ Q) X.xe {s3 with heap:=s3.heap.push {cls:= .type "slice",data:= .fields #[c,a, .none]}};exact tail_any (ops:=[.ref s3.heap.objs.size,v]) ht hT hg (by with_unfolding_all rfl)
noncomputable def kD(xs:List V)(lo hi:Option Int):List V:=(xs.drop (HT.eN xs.length 0 lo)).take (HT.eN xs.length xs.length hi-HT.eN xs.length 0 lo)
theorem OC(xs:List V)(lo hi:Option Int):(kD xs lo hi).length<=xs.length:=by
 unfold kD;rw[kh,z5];omega
end
noncomputable def gU(n:Nat)(i:Int):Option Nat:=if 0<=i then(if i<n then some i.toNat else none) else if-(n:Int)<=i then some (i+n).toNat else none
noncomputable def bO(xs:List α)(i:Int):Option α:=(gU xs.length i).bind λj=>xs[j]?
theorem Gm{i:Int}(h:gU n i=some j):seqIndex? i n=some j/\j<n/\ -(n:Int)<=i/\i<n:=by
 unfold gU at h;by_cases h0:0<=i
 .rw[if_pos h0] at h;by_cases h1:i<n
  .rw[if_pos h1] at h;have e:i.toNat=j:=ie h;exact⟨by rw[oo h0 h1,e],∅,∅,h1⟩
  .rw[if_neg h1] at h;cases h
 .rw[if_neg h0] at h;by_cases h1: -(n:Int)<=i
  .rw[if_pos h1] at h;have e:(i+n).toNat=j:=ie h;exact⟨by rw[seqIndex_neg ∅ h1,e],∅,h1,∅⟩
  .rw[if_neg h1] at h;cases h
theorem DY{α:Type}{xs:List α}{i:Int}{v:α}(h:bO xs i=some v):∃j,seqIndex? i xs.length=some j/\xs[j]?=some v/\j<xs.length/\ -(xs.length:Int)<=i/\i<xs.length:=by
  unfold bO at h;cases e:gU xs.length i with
  |none=>rw[e] at h;cases h
  | some j =>
    rw[e] at h;obtain⟨h1,h2,h3,h4⟩:=Gm e;exact⟨j,h1,h,h2,h3,h4⟩
theorem Nr{α:Type}{xs:List α}{v:α}(h:xs[j]?=some v):bO xs (j:Int)=some v:=by
 have hj:j<xs.length:=(bH.mp h).1;have e:gU xs.length (j:Int)=some j:=by
  unfold gU;rw[if_pos ∅,if_pos ∅];simp
 unfold bO;rw[e];exact h
def RX(b:eu):Prop:=∀o i,ot b false o i=operate [o,i] (getItem o i)
def kq(X:Cx)(r:R2):Prop:=
 ∀(value a:eu) (pins:List (aw×Obj)) (s:ar) (σ:qb) (H:Hp) (x y:V) (v u:ag) (Q:VK),Inv X pins σ H s->RelV x v->RelV y u->r x y H Q->
  ot a false v u=operate [v,u] (getItem v u)->wpAny (a6 X.prog X.w) X.A (kS value a v u) (EP X pins σ Q) X.xe s
def DI(X:Cx)(id:String)(r:V->List V->Hp->VK->Prop):Prop:=
 ∀(pins:List (aw×Obj)) (s:ar) (σ:qb) (H:Hp) (x:V) (xs:List V) (v:ag) (us:List ag) (Q:VK),Inv X pins σ H s->RelV x v->Vals xs us->r x xs H Q->
  wpAny (a6 X.prog X.w) X.A (call (.builtin id) (v::us)) (EP X pins σ Q) X.xe s
section
variable{X:Cx}{a b:eu}{ta tb:TE}{pos:Pos}
theorem kq.or{r r':R2}(h:kq X r)(h':kq X r'):kq X (λx y H Q=>r x y H Q\/r' x y H Q):=by
 intro value slice pins s σ H x y v u Q I rx ry q hs;rcases q with q|q
 .exact h value slice pins s σ H x y v u Q I rx ry q hs
 .exact h' value slice pins s σ H x y v u Q I rx ry q hs
theorem aH{r:R2}(hr:kq X r)(ha:PE X a ta)(hb:PE X b tb)(hs:RX b):PE X (.Subscript a b pos) (dG r ta tb):=by
 intro pins s σ H Q I h;exact Subscript_ (AN ha hb I h λv u s2 x y H2 I2 g d q=>hr a b pins s2 σ H2 x y v u Q I2 g d q (hs _ _))
def cM(K:PySem.W.Frag):R2:=λx y H Q=>∃p xs i v,x= .ref p/\y= .int i/\aO K H p xs/\bO xs i=some v/\Q v H
def cY(K:PySem.W.Frag):R2:=λx y H Q=>∃p xs i v,x= .ref p/\y= .int i/\fY K H p xs/\bO xs i=some v/\Q v H
def Eo:R2:=λx y H Q=>∃z i c,x= .str z/\y= .int i/\z.length<=sizeLine/\bO z.cps.toList i=some c/\Q (.str ⟨#[c]⟩) H
theorem bE:kq X (cM X.K):=by
 intro value slice pins s σ H x y v u Q I rx ry h hs;obtain⟨p,xs,i,z,rfl,rfl,hq,he,q⟩:=h;cases rx;obtain⟨t,rfl⟩:=ry;obtain⟨its,r,pl,hz⟩:=I.list hq;obtain⟨j,h1,h2,h3,h4,h5⟩:=DY he;obtain⟨w,ew,c⟩:=r.get h2;have hl:=r.length;have hn:=oZ;have fin:EP X pins σ Q w s:=⟨z,H,I,c,q⟩;by_cases h0:0<=i
 .have hj:i.toNat=j:=by
   rw[oo h0 h5] at h1;exact ie h1
  exact item_listR pl.isList h0 ∅ (by rw[hj];simpa using ew) fin hs
 .have hj:(i+(its.toArray.size:Int)).toNat=j:=by
   rw[seqIndex_neg ∅ h4] at h1;rw[cT,<-hl];exact ie h1
  exact il (x:=w) pl.isList.typeIs l1.lookup
   (wpAny_getItem_list_neg (Q:=λr s'=>r=w/\EP X pins σ Q r s') pl.isList ∅ (by rw[cT]<;>omega) ∅ (by rw[hj];simpa using ew) ⟨rfl,fin⟩) hs
theorem dW:kq X (cY X.K):=by
 intro value slice pins s σ H x y v u Q I rx ry h hs;obtain⟨p,xs,i,z,rfl,rfl,hq,he,q⟩:=h;cases rx;obtain⟨t,rfl⟩:=ry;obtain⟨its,r,pl,hz⟩:=I.tuple hq;obtain⟨j,h1,h2,h3,h4,h5⟩:=DY he;obtain⟨w,ew,c⟩:=r.get h2;have hl:=r.length;have hn:=oZ;have fin:EP X pins σ Q w s:=⟨z,H,I,c,q⟩
 exact il (x:=w) pl.typeIs slot_tuple_getitem.lookup
  (getItem_tuple (j:=j) (Q:=λr s'=>r=w/\EP X pins σ Q r s') pl ∅ ∅ (by rw[cT,<-hl];exact h1) (by simpa using ew) ⟨rfl,fin⟩) hs
theorem M1:kq X Eo:=by
 intro value slice pins s σ H x y v u Q I rx ry h hs;obtain⟨z,i,c,rfl,rfl,hz,he,q⟩:=h;obtain⟨t,rfl⟩:=rx;obtain⟨t',rfl⟩:=ry;obtain⟨j,h1,h2,h3,h4,h5⟩:=DY he;have hl:z.cps.toList.length=z.length:=by simp[Str.length]
 rw[hl] at h1 h4 h5;have hn:=oZ
 exact tail_any (typeIs_str s z t) slot_str_getitem.lookup (getItem_str (c:=c) (by
  have e1:decide (i< -(2^63:Int))=false:=decide_eq_false ∅;have e2:decide (i≥2^63)=false:=decide_eq_false ∅;rw[e1,e2,nY]) (by rw[h1];simpa using h2) ⟨.str ⟨#[c]⟩,H,I.tok _,⟨_,rfl⟩,q⟩) hs
def vF(K:PySem.W.Frag):R2:=λx y H Q=>cM K x y H Q\/cY K x y H Q\/Eo x y H Q
theorem GO:kq X (vF X.K):=bE.or (dW.or M1)
theorem V0(its:List ag)(n j:Nat)(u:ag):ed (·.setIfInBounds j u) {cls:= .type "list",data:= .seq its.toArray n}={cls:= .type "list",data:= .seq (its.set j u).toArray n}:=by
 simp[ed]
theorem Inv.lst{pins:List (aw×Obj)}{σ:qb}{H:Hp}{s:ar}{p:aw}{xs:List V}(I:Inv X pins σ H s)(h:H p=some (.lst xs)):
  ∃(its:List ag) (n:Nat),Vals xs its/\s.heap.get? p=some {cls:= .type "list",data:= .seq its.toArray n}/\xs.length<=sizeLine:=by
 obtain⟨z,its,n,r,e⟩:=I.hok p _ h;exact⟨its,n,r,e,z⟩
theorem Inv.ML{p:aw}{ys:List V}{its':List ag}{c:Nat}{f:Obj->Obj}(I:Inv X pins σ H s)(h:H p=some (.lst xs))
  (U:s.heap.get? p=some {cls:= .type "list",data:= .seq its.toArray n}) (hf:f {cls:= .type "list",data:= .seq its.toArray n}={cls:= .type "list",data:= .seq its'.toArray c}) (r:Vals ys its') (hz:ys.length<=sizeLine) (t:Nat):
  Inv X pins σ (upd H p (.lst ys)) {s with heap:=s.heap.update p f,toks:=t}:=by
 have e:(s.heap.update p f).get? p=some {cls:= .type "list",data:= .seq its'.toArray c}:=by
  rw[xQ f U (by rw[hf]<;>rfl),hf]
 refine I.write (x:=p) (e:=p) (by rw[h];trivial) (.inl rfl) (λb u hb q=>(kH _ _ (bJ hb)).trans q) ⟨_,e⟩ ?_;exact⟨hz,its',c,r,e⟩
def qF:V->V->V->Hp->(Hp->Prop)->Prop:=λo i v H Q=>∃p xs k j,o= .ref p/\i= .int k/\H p=some (.lst xs)/\gU xs.length k=some j/\Q (upd H p (.lst (xs.set j v)))
theorem set_list:Bx X qF:=by
 intro pins s σ H o i v ov iv u Q I ro ri rv h;obtain⟨p,xs,k,j,rfl,rfl,hp,hj,q⟩:=h;cases ro;obtain⟨t,rfl⟩:=ri;obtain⟨its,n,r,U,hz⟩:=I.lst hp;obtain⟨h1,h2,h3,h4⟩:=Gm hj;have hl:=r.length;have hn:=oZ
 have b:Inv X pins σ (upd H p (.lst (xs.set j v))) {s with heap:=s.heap.update p (ed (·.setIfInBounds j u))}:=
  I.ML hp U (V0 its n j u) (r.set rv j) (by rw[iQ];exact hz) s.toks
 by_cases h0:0<=k
 .have hk:k.toNat=j:=by
   rw[oo h0 h4] at h1;exact ie h1
  exact PySem.W.ki_setAt U h0 ∅ (by rw[cT,<-hl];exact h4) (by rw[hk];exact⟨_,b,q⟩)
 .have hk:(k+(its.toArray.size:Int)).toNat=j:=by
   rw[seqIndex_neg ∅ h3] at h1;rw[cT,<-hl];exact ie h1
  exact PySem.W.ki_setBack U ∅ (by rw[cT,<-hl];exact h3) ∅ (by rw[hk];exact⟨_,b,q⟩)
theorem SH(lo hi:Option Int)(n:Nat):(fD lo hi none n).1=((HT.eN n 0 lo:Nat):Int)/\(fD lo hi none n).2.1=((HT.eN n n hi:Nat):Int)/\(fD lo hi none n).2.2=1:=by
  refine⟨?_,?_,rfl⟩
  · cases lo with
    |none=>simp[fD,HT.eN]
    | some i =>
      simp only[fD,HT.eN,nf,show(1:Int)>0 by decide,if_true];by_cases h:i<0;· simp only[h,if_true]<;>omega
      · simp only[h,if_false]<;>omega
  · cases hi with
    |none=>simp[fD,HT.eN]
    | some i =>
      simp only[fD,HT.eN,nf,show(1:Int)>0 by decide,if_true];by_cases h:i<0;· simp only[h,if_true]<;>omega
      · simp only[h,if_false]<;>omega
theorem Xh(its:List ag)(lo hi:Option Int):slicePick its.toArray lo hi none=((its.drop (HT.eN its.length 0 lo)).take (HT.eN its.length its.length hi-HT.eN its.length 0 lo)).toArray:=by
 obtain⟨h1,h2,h3⟩:=SH lo hi its.toArray.size;unfold slicePick;rw[h1,h2,h3];simp only[sliceRange_one,pick_run,cT]<;>rfl
def mQ(K:PySem.W.Frag):V->Option Int->Option Int->Hp->VK->Prop:=λx lo hi H Q=>∃a xs,x= .ref a/\aO K H a xs/\∀p,H p=none->Q (.ref p) (upd H p (.lst (kD xs lo hi)))
theorem qW:HK X (mQ X.K):=by
 intro pins s σ H x v vl vu lo hi sl Q I rx hs pl pu h;obtain⟨a,xs,rfl,hx,q⟩:=h;cases rx;obtain⟨its,r,ht,hz⟩:=I.list hx;have hlen:=r.length;refine⟨"list",_,l1.lookup,ht.isList.typeIs,?_⟩;refine wpAny_getItem_list_slice ht.isList hs pl pu .none (by simp) ?_ (by rw[cT]<;>omega);rw[Xh,<-hlen];refine⟨.ref s.heap.objs.size,_,I.laid (t':=s.toks) (o:= .lst (kD xs lo hi)) (λb ob q=>bV _ q) (aF _) ?_,rfl,q _ (I.hok.fresh (aF _))⟩;exact⟨fX (OC xs lo hi) hz,_,0,(r.drop (HT.eN xs.length 0 lo)).take (HT.eN xs.length xs.length hi-HT.eN xs.length 0 lo),fO _ rfl⟩
theorem G6:fV X (.builtin "len") (λxs H Q=>∃p ys,xs=[.ref p]/\(aO X.K H p ys\/fY X.K H p ys)/\Q (.int ys.length) H):=by
 intro pins s σ H xs us Q I r h;obtain⟨p,ys,rfl,hq,q⟩:=h;obtain⟨u,rfl,g⟩:=vals1 r;cases g;have hn:=oZ;rcases hq with hq|hq
 .obtain⟨its,r',pl,hz⟩:=I.list hq;have hlen:=r'.length;exact Calls.call_len_list pl.isList (by simp only[cT]<;>omega) ⟨.int ys.length,H,I.tok _,⟨s.toks+1,by rw[cT,hlen]⟩,q⟩
 .obtain⟨its,r',pl,hz⟩:=I.tuple hq;have hlen:=r'.length;exact len_tuple pl (by simp only[cT]<;>omega) ⟨.int ys.length,H,I.tok _,⟨s.toks+1,by rw[cT,hlen]⟩,q⟩
theorem Uv:fV X (.type "list") (λxs H Q=>∃p ys,xs=[.ref p]/\(aO X.K H p ys\/fY X.K H p ys)/\∀l,H l=none->Q (.ref l) (upd H l (.lst ys))):=by
 intro pins s σ H xs us Q I r h;obtain⟨p,ys,rfl,hq,q⟩:=h;obtain⟨u,rfl,g⟩:=vals1 r;cases g
 have fin:∀(its:List ag),Vals ys its->ys.length<=sizeLine->∀(h':ek) (c':Nat),(∀b o',s.heap.get? b=some o'->h'.get? b=some o')->
   h'.get? s.heap.objs.size=some {cls:= .type "list",dict:=none,data:= .seq its.toArray c',slots:= #[]}->EP X pins σ Q (.ref s.heap.objs.size) {s with heap:=h'}:=λits r' hz h' c' kp e=>
  ⟨.ref s.heap.objs.size,_,I.laid (t':=s.toks) kp (aF _) (show cA X.prog X.w _ h' _ (.lst ys) from⟨hz,its,c',r',e⟩),rfl,q _ (I.hok.fresh (aF _))⟩
 rcases hq with hq|hq
 .obtain⟨its,r',pl,hz⟩:=I.list hq;have hlen:=r'.length;obtain⟨o,U,hc,n,hd⟩:=pl.isList;exact rG p (.inl rfl) U hc hd (λh' c' kp e=>fin its r' hz h' c' kp e) (by simp only[cT]<;>omega)
 .obtain⟨its,r',pl,hz⟩:=I.tuple hq;have hlen:=r'.length;obtain⟨o,U,hc,n,hd⟩:=pl;exact rG p (.inr rfl) U hc hd (λh' c' kp e=>fin its r' hz h' c' kp e) (by simp only[cT]<;>omega)
def rW(K:PySem.W.Frag)(T:String)(x:V)(H:Hp):Prop:=match x with
 | .str _=>T="str"
 | .int _=>T="int"
 | .ref p => (T = "list" /\ ∃ xs, aO K H p xs) \/ (T = "tuple" /\ ∃ o, K.lookup p = some o /\ o.cls = .type "tuple" /\ o.dict = none) \/
   (T="dict" /\((∃kvs,H p=some (.dK kvs))\/(∃kvs,H p=some (.dT kvs))\/∃o kvs,H p=some (.gH o (.dK kvs))))\/(T="set" /\∃S n,H p=some (.set S n))
 |_=>False
theorem Ff{x:V}{v:ag}(I:Inv X pins σ H s)(r:RelV x v)(ty:rW X.K T x H):
    s.TypeIs v T/\∀a,v= .ref a->∃ob,s.heap.get? a=some ob/\ob.dict=none:=by
  cases x with
  | str z =>
    obtain⟨t,rfl⟩:=r;cases (show T="str" from ty);exact⟨typeIs_str s z t,λ_ e=>nomatch e⟩
  | int i =>
    obtain⟨t,rfl⟩:=r;cases (show T="int" from ty);exact⟨typeIs_int s i t,λ_ e=>nomatch e⟩
  | ref p =>
    cases r;rcases ty with ⟨rfl,xs,hq⟩|⟨rfl,o,hk,hc,hd⟩|⟨rfl,hk⟩|⟨rfl,S,n,hk⟩
    · obtain⟨its,_,pl,_⟩:=I.list hq
      refine⟨pl.isList.typeIs,λa e=>?_⟩;cases e;obtain⟨o,n,e,c,hd,_⟩:=pl;exact⟨o,e,hd⟩
    · refine⟨⟨o,I.cE p o hk,hc⟩,λa e=>?_⟩
      cases e;exact⟨o,I.cE _ o hk,hd⟩
    · have z:∃o,s.heap.get? p=some o/\o.ExactDict:=by
        rcases hk with ⟨kvs,hk⟩|⟨kvs,hk⟩|⟨ob,kvs,hk⟩
        · obtain⟨_,_,_,_,o,_,_,e,ex,_⟩:=I.hok p _ hk
          exact⟨o,e,ex⟩
        · obtain⟨_,_,_,_,o,_,_,e,ex,_⟩:=I.hok p _ hk
          exact⟨o,e,ex⟩
        · obtain⟨_,_,_,_,_,o,_,_,e,ex,_⟩:=I.hok p _ hk
          exact⟨o,e,ex⟩
      obtain⟨o,e,ex⟩:=z;refine⟨⟨o,e,ex.1⟩,λa e2=>?_⟩;cases e2;exact⟨o,e,ex.2.1⟩
    · obtain⟨o,_,_,_,e,ex,_⟩:=I.hok p _ hk
      refine⟨⟨o,e,ex.1⟩,λa e2=>?_⟩;cases e2;exact⟨o,e,ex.2.1⟩
  |_=>exact dC ty
def xy(K:PySem.W.Frag)(T:String)(r:V->List V->Hp->VK->Prop)(to:TE):TE:=λσ H Q=>to σ H λx H1=>rW K T x H1/\r x [] H1 Q
def z4(K:PySem.W.Frag)(T:String)(r:V->List V->Hp->VK->Prop)(to:TE)(t:TA):TE:=λσ H Q=>to σ H λx H1=>rW K T x H1/\t σ H1 λxs H2=>r x xs H2 Q
variable{o e:eu}{es:List eu}{to:TE}{t:TA}{name:Str}{apos cpos:Pos}{T id:String}{r:V->List V->Hp->VK->Prop}
theorem rX(g:PlainAttrs T)(slot:Slot T name id)(d:typeOf (.builtin id)=pure (.type "method_descriptor"))(hm:DI X id r)(U:PE X o to)
  (a:hV o name X.env (eval o X.env)=eval o X.env:=by rfl) (b:(apos.endLine==cpos.line)=true:=by rfl):PE X (.Call (.Attribute o name apos) [] [] cpos) (xy X.K T r to):=by
 intro pins s σ H Q I h;refine wpAny_Call_method0_late a b (aJ (U pins s σ H _ I h) λv s1 ⟨x,H1,I1,O,ty,J⟩=>?_);obtain⟨h1,h2⟩:=Ff I1 O ty;exact⟨T,id,g,slot,d,h1,h2,iq rfl (PySem.evalArgs_none (hm pins s1 σ H1 x [] v [] Q I1 O .nil J))⟩
theorem Lo(g:PlainAttrs T)(slot:Slot T name id)(d:typeOf (.builtin id)=pure (.type "method_descriptor"))(hm:DI X id r)(U:PE X o to)(ha:PA X (e::es) t)
  (a:hV o name X.env (eval o X.env)=eval o X.env:=by rfl)
  (f : ((backTo cpos (starEach (e :: es) X.env)).all (λx => !x.1) && (backToKw cpos (keywordEach [] X.env)).all (λx => x.1.isSome)
   && decide ((e::es).length+([]:List Keyword).length+(if([]:List Keyword).isEmpty then 0 else 1)<30))=true:=by rfl)
  (b:(apos.endLine==cpos.line)=true:=by rfl) (hs:cn (e::es) X.env=(false,eval e X.env)::cn es X.env:=by rfl) (c:(ij cpos (cn es X.env)).any (·.1)=false:=by rfl):
  PE X (.Call (.Attribute o name apos) (e::es) [] cpos) (z4 X.K T r to t):=by
 intro pins s σ H Q I h;refine wpAny_Call_method_late a f b rfl (aJ (U pins s σ H _ I h) λv s1 ⟨x,H1,I1,O,ty,J⟩=>?_);obtain⟨h1,h2⟩:=Ff I1 O ty;refine⟨T,id,g,slot,d,h1,h2,?_⟩;have hA:=ha cpos pins s1 σ H1 _ I1 J;rw[hs] at hA⊢;refine iq (by show(false||(ij cpos (cn es X.env)).any (·.1))=false;rw[c]<;>rfl) (Calls.evalArgs_plain ?_);exact aJ hA λus s2 ⟨vs,H2,I2,N,M⟩=>hm pins s2 σ H2 x vs v us Q I2 O N M
/-xs.append(e),list.index on a module's tuple .. are DI facts of 06m-/
end
def wG(X:Cx)(id:String)(r:V->List V->Hp->VK->Prop):Prop:=
 ∀(pins:List (aw×Obj)) (s:ar) (σ:qb) (H:Hp) (x:V) (xs:List V) (v:ag) (us:List ag) (Q:VK),Inv X pins σ H s->RelV x v->Vals xs us->r x xs H Q->
  wpAny (a6 X.prog X.w) X.A (call (.builtin id) (v::us)) (EP X pins σ Q) X.xe s
theorem Vals.one{x:V}(h:Vals [x] us):∃u,us=[u]/\RelV x u:=by
 cases h with
 |cons r t=>cases t;exact⟨_,rfl,r⟩
theorem Vals.two{x y:V}(h:Vals [x,y] us):∃u v,us=[u,v]/\RelV x u/\RelV y v:=by
  cases h with
  | cons r t =>
    obtain⟨v,e,q⟩:=Vals.one t;exact⟨_,v,by rw[e],r,q⟩
theorem Vals.zero:∀{us:List ag},Vals [] us->us=[]
 |_, .nil=>rfl
theorem Vals.dropLast{xs:List V}{us:List ag}(h:Vals xs us):Vals xs.dropLast us.dropLast:=by
  induction h with
  |nil=>exact .nil
  | cons r t ih =>
    cases t with
    |nil=>exact .nil
    |cons q t'=>exact .cons r ih
section
variable{X:Cx}{pins:List (aw×Obj)}{σ:qb}{H:Hp}{s:ar}{l b:aw}{xs ys zs:List V}
theorem Inv.uo{its':List ag}{f:Array ag->Array ag}(I:Inv X pins σ H s)(O:H l=some (.lst xs))
  (e:s.heap.get? l=some {cls:= .type "list",data:= .seq its.toArray n}) (hf:f its.toArray=its'.toArray) (hv:Vals ys its') (hz:ys.length<=sizeLine):
  Inv X pins σ (upd H l (.lst ys)) {s with heap:=s.heap.update l (ed f),toks:=t'}:=by
 have q:=PySem.IsL.update e f;rw[hf] at q;refine I.write (x:=l) (e:=l) (by rw[O];exact trivial) (.inl rfl) (λw u hb hu=>(kH s.heap (ed f) (bJ hb)).trans hu) ⟨_,q⟩ ?_;exact⟨hz,its',_,hv,q⟩
theorem Inv.Ft(I:Inv X pins σ H s)(hv:Vals ys its)(hz:ys.length<=sizeLine):
  Inv X pins σ (upd H s.heap.objs.size (.lst ys)) {s with heap:=s.heap.push {cls:= .type "list",data:= .seq its.toArray},toks:=t'}:=
 I.laid (λ_ _ q=>bV _ q) (aF _) ⟨hz,its,0,hv,fO _ rfl⟩
theorem Inv.fresh(I:Inv X pins σ H s):H s.heap.objs.size=none:=I.hok.fresh (aF _)
theorem Inv.oO(I:Inv X pins σ H s)(O:H l=some (.lst xs)):xs.length<=sizeLine/\∃(its:List ag) (n:Nat),Vals xs its/\xs.length=its.length/\s.heap.get? l=some {cls:= .type "list",data:= .seq its.toArray n}:=by
 obtain⟨z,its,n,r,e⟩:=I.hok l _ O;exact⟨z,its,n,r,r.length,e⟩
end
section
variable{X:Cx}
def Ge:V->List V->Hp->VK->Prop:=λx vs H Q=>∃l xs y,x= .ref l/\vs=[y]/\H l=some (.lst xs)/\xs.length<sizeLine/\Q .aD (upd H l (.lst (xs++[y])))
theorem Cy:wG X "list.append" Ge:=by
 intro pins s σ H x vs v us Q I rx rv h;obtain⟨l,xs,y,rfl,rfl,O,hz,q⟩:=h;cases rx;obtain⟨u,rfl,ru⟩:=rv.one;obtain⟨z,its,n,r,hl,e⟩:=I.oO O;refine call_meets KJ ⟨_,e,rfl⟩ F.entry_list_append (F.args_list_append_2 _ _) (PySem.list_append l its.toArray n u (by rw[cT];omega)) ⟨e,?_⟩;refine⟨.aD,_,I.uo (its':=its++[u]) O e (by simp) (r.append (.cons ru .nil)) ?_,rfl,q⟩;rw[gx,j8];omega
def Ba:V->List V->Hp->VK->Prop:=λx vs H Q=>∃l xs,x= .ref l/\vs=[]/\H l=some (.lst xs)/\Q .aD (upd H l (.lst []))
theorem qU:wG X "list.clear" Ba:=by
 intro pins s σ H x vs v us Q I rx rv h;obtain⟨l,xs,rfl,rfl,O,q⟩:=h;cases rx;have CZ:=rv.zero;subst CZ;obtain⟨z,its,n,r,hl,e⟩:=I.oO O;refine call_meets sA ⟨_,e,rfl⟩ F.entry_list_clear (F.args_list_clear_1 _) (AutoSeq1.list_clear_list_0 l its.toArray n (by rw[cT];omega)) ⟨e,?_⟩;exact⟨.aD,_,I.uo (its':=[]) (ys:=[]) O e rfl .nil (eW _),rfl,q⟩
def BY:R2:=λx y H Q=>∃l b xs zs,x= .ref l/\y= .ref b/\H l=some (.lst xs)/\H b=some (.lst zs)/\xs.length+zs.length<=sizeLine/\∀p,H p=none->Q (.ref p) (upd H p (.lst (xs++zs)))
theorem Be:dR X (hR .Add) BY:=by
 intro pins s σ H x y v u Q I rx ry h;obtain⟨l,b,xs,zs,rfl,rfl,O,M,hz,q⟩:=h;cases rx;cases ry;obtain⟨z,its,n,r,hl,e⟩:=I.oO O;obtain⟨z2,a,n2,N,o,e2⟩:=I.oO M;refine PySem.P.add_list e e2 ?_ (by rw[cT,cT];omega);have ea:its.toArray++a.toArray=(its++a).toArray:=by simp
 rw[ea];exact⟨.ref _,_,I.Ft (t':=s.toks) (r.append N) (by rw[gx];omega),rfl,q _ I.fresh⟩
end
end L2
namespace Att
open PySem PySem.W PySem.Calls PyProof.Rows
theorem SX{P:Params}:∀(ns:List Int) (vs:List ag),WellAll P h vs (ns.map wy)->ee vs ns:=by
  intro ns;induction ns with
  | nil =>
    intro vs w;rw[Ae] at w;cases w;exact .nil
  | cons n ns ih =>
    intro vs w;rw[bw] at w;cases w with
    | cons a b =>
      cases a;exact .cons _ _ (ih _ b)
theorem Tf{l:OpenLaw}(hn:l.most=some n){P:Params}{h:ek}{args:List WData}{j:List ag}
    (b:l.row.toRowW.claim.pre args=true) (hwl:WellAll P h j args):
    ∃a vs ns,j=[c4 a]/\args=[WData.list (ns.map wy)]/\h.get? a=some {cls:= .type "list",data:= .seq vs.toArray}/\ee vs ns/\ns.length<=n:=by
  have c:WShape.hasAll [] args [.list .int]=true:=(pre_splitW b).1;have hc:l.pre.holds [] {args:=args}=true:=(pre_splitW b).2;obtain⟨d,r,rfl,h1,h2⟩:=hasAllW_cons c;obtain rfl:=hasAllW_nil h2;obtain⟨xs,rfl,h3⟩:=hasW_list h1;obtain⟨ns,rfl⟩:=items_int h3;have hlen:ns.length<=n:=by
    unfold OpenLaw.pre at hc;have h4:(WTm.not (.lt (.lit (.int (n:Int))) (.len (.arg 0)))).holds [] {args:=[.list (ns.map .int)]}=true:=by
      have h4:=(holds_andW hc).1;rw[hn] at h4;exact h4
    have h5:=condW_of h4 (w_not (w_lt w_lit (w_len_list (w_arg rfl))));rw[ak] at h5;refine Bs λq=>?_;have D:(n:Int)<((ns.length:Nat):Int):=∅
    first
      |(rw[decide_eq_true D] at h5;exact absurd h5 ⋯)
      |(simp at h5;omega)
  cases hwl with
  | cons X B =>
    cases B;cases X with
    |list U u=>exact⟨_,_,ns,rfl,rfl,U,SX ns _ u,hlen⟩
theorem Qh(l:OpenLaw)(args:List WData):l.row.toRowW.claim.post args (.bool true) args=true:=
 postW_of (r:=l.row.toRowW) (X:=(true==true))
  (show vW [] (.bool true) .bool=true by first|rfl|decide|simp[vW,WShape.arms,WShape.armsAll])
  (show(WTm.eq .res (.lit (.bool true))).value [] {args:=args,res:=some (.bool true),after:=args}=some (.bool (true==true)) from w_eq_bool (w_res rfl) w_lit) rfl
theorem Pw{l:OpenLaw}{q:be}{c:List Str}{A:cx->ek->Prop}{d:DefRec}
  (hn:l.most=some n) (y:d.params.defaults=[])
  (call : ∀ (w : World) (s₀ s₁ : Shared) (mg mb : Str -> Option Value) (i : Addr) (o : Obj) (pm m doc : Value) (a : Addr) (vs : List Value) (ns : List Int),
   Ground q c [] C w s₀ mg mb s₁.heap->A w s₁.heap->
   s₁.heap.get? i=some o->o.data= .func (docDef d.name d.params d.body d.scope pm m doc)->s₁.heap.CodeRec m d.name->mg d.name=some (.ref i)->
   s₁.heap.get? a=some {cls:= .type "list",data:= .seq vs.toArray}->ee vs ns->ns.length<=n->s₁.gens= #[]->
   codeAny (a6 l.prog w) l3 (.call (.ref i) ⟨[.ref a],[]⟩) (λr s'=>r= .ok (.ret (.bool true))/\OldK s₁.heap s'.heap/\s'.os=s₁.os/\iz s'.gens) s₁):
  WalkO q c C A l.row.toRowW d [] (λf vs=>PySem.call f vs):=by
 intro w s₀ s₁ mg mb G Y i o pm m doc dV kV ho hd hcd hD hmg hg args vals as hpre hlay hrd hwl hlo;obtain rfl:dV= .none:=Dflts.none hD y;obtain rfl:kV= .none:=Dflts.noKw hD;obtain⟨a,vs,ns,rfl,rfl,z,p,hlen⟩:=Tf hn hpre hwl;refine enter_call (gd (call w s₀ s₁ mg mb i o pm m doc a vs ns G Y ho (fd_plain hd) hcd hmg z p hlen hg) λr s' hq=>?_);obtain⟨rfl,h2,h3,h4⟩:=hq;exact⟨.inl ⟨.bool true, .bool true,[],rfl,λ_=>rfl, .bool true,Qh l _,λ_=>⟨v3,λ_ hm=>(nomatch hm)⟩⟩,h2,h3,h4⟩
section
variable{prog:be}{w:cx}{A:cC}{E:ag->ar->Prop}{s:ar}{K:Frag}
end
end Att
namespace L2
theorem KP:∀{vs:List ag} {ns:List Int},ee vs ns->Vals (ns.map V.int) vs
 |_,_, .nil=> .nil
 |_,_, .cons n t h=> .cons ⟨t,rfl⟩ (KP h)
def AE(H:Hp):Prop:=∀b,H b=none\/∃o xs,H b=some (.gH o (.lst xs))
theorem To{P:be}{K:PySem.W.Frag}{mb:Str->Option ag}{CX:kr}{k:Nat}{i:aw}{s₁:ar}{vs:List ag}
    (KX:K.In s₁.heap) (f:s₁.heap.Ns bg mg) (hb:s₁.heap.Ns qy mb) (N:∀x:Str,x≠"__name__" ->mb x=fR x) (j:s₁.heap.NoLimit) (hg:s₁.gens= #[])
    (ha:s₁.heap.get? a=some {cls:= .type "list",data:= .seq vs.toArray}) (hi:ee vs ns) (hl:ns.length<=sizeLine) (hr:dD k l3)
    (F:∀base:ek,K.In base->base.Ns bg mg->bf P w K mg base CX k i fd [x] sp) (c:∀(s:ar) (u:ag),og s fd ⟨[u],[]⟩ [(x,u)])
    (B:∀H:Hp,AE H->aO K H a (ns.map V.int)->sp [.ref a] H (λv _=>v= .bl true) λ_ _ _=>False)
    (E:∀H e s',CX [] H s₁ (λ_ _ _=>False) e s'->False):
    codeAny (a6 P w) l3 (.call (.ref i) ⟨[.ref a],[]⟩) (λr s'=>r= .ok (.ret (.bool true))/\OldK s₁.heap s'.heap/\s'.os=s₁.os/\iz s'.gens) s₁:=by
  have rv:=KP hi;have PZ:=hi.length
  have core:∀H:Hp,AE H->aO K H a (ns.map V.int)->cW P w H s₁.heap->(∀b,H b≠none->b=a)->(H a≠none->K.lookup a=none)->
      codeAny (a6 P w) l3 (.call (.ref i) ⟨[.ref a],[]⟩) (λr s'=>r= .ok (.ret (.bool true))/\OldK s₁.heap s'.heap/\s'.os=s₁.os/\iz s'.gens) s₁:=by
    intro H hO hS hok hA hK;have t:∀{b:aw} {o:Obj},s₁.heap.get? b=some o->H b=none->(lX s₁.heap H).get? b=some o:=λe n=>LY e n;have g:∀{b:aw} {o:Obj} {es:Array DictEntry} {ep:Nat},s₁.heap.get? b=some o->o.data= .dict es ep->H b=none:=λ{b o es ep} e d=>by
      cases q:H b with
      |none=>rfl
      | some u =>
        have e':b=a:=hA b (by rw[q];simp);subst e';rw[ha] at e;cases e
        have d':Data.seq vs.toArray _=Data.dict es ep:=d;cases d'
    have l:∀{b:aw} {m:Str->Option ag},s₁.heap.Ns b m->(lX s₁.heap H).Ns b m:=λ{b m} ⟨o,es,ep,e,d,r⟩=>⟨o,es,ep,t e (g e d),d,r⟩
    have p:K.In (lX s₁.heap H):=λb o e=>t (KX b o e) (by
      cases q:H b with
      |none=>rfl
      | some u =>
        have e':b=a:=hA b (by rw[q];simp);subst e';rw[hK (by rw[q];simp)] at e;cases e)
    have y:Mod K mg (lX s₁.heap H):=⟨p,l f,⟨mb,l hb,N⟩,let ⟨C,h1,h2⟩:=j;⟨C,l h1,h2⟩⟩;have O:nZ P w K mg (lX s₁.heap H) l3 [] s₁ H:=⟨rfl,y,λb o e=>Ye e,mj (UD _ _),trivial,λb hb=>absurd (show b∈([]:List aw) from hb) (by simp),hok, .of_eq hg⟩;refine gd ((F _ p (l f)).run l3 [] s₁ H ⟨[.ref a],[]⟩ [.ref a] [.ref a] _ _ hr O (c s₁ (.ref a)) (.cons rfl .nil) (B H hO hS)) λr s' h=>?_;cases r with
    |error e=>exact(E H e s' h).elim
    | ok fl =>
      cases fl with
      |next=>exact dC h
      |brk=>exact dC h
      |cont=>exact dC h
      | ret u =>
        obtain⟨v,H',os,bare,un,A,r',q⟩:=h;have D:v= .bl true:=q;subst D;obtain rfl:u=jW true:=r';refine⟨rfl,OldK.of_keep λb o e=>?_,os,bare⟩;cases q:H b with
        |none=>exact un.keep b o e q (by intro z;exact absurd (show b∈([]:List aw) from z) (by simp)) (by simp)
        | some u =>
          rcases hO b with z|⟨ob,xs,z⟩
          · rw[q] at z;cases z
          · have z2:=un.lP b ob _ z
            obtain⟨e1,_⟩:=hok b _ z;obtain⟨e2,_⟩:=A b _ z2;rw[e] at e1;cases e1
            exact e2
  cases hk:K.lookup a with
  | some o =>
    have e:=KX a o hk;rw[ha] at e;cases e;refine core (λ_=>none) (λ_=> .inl rfl) (.inr ⟨_,vs.toArray,_,hk,rfl,rfl,rfl,by rw[cT,PZ];exact hl,by simpa using rv⟩) (λb u z=>by have z':(none:Option HO)=some u:=z;cases z') (λb z=>absurd rfl z) λz=>absurd rfl z
  | none =>
    refine core (λb=>if b=a then some (.gH {cls:= .type "list",data:= .seq vs.toArray} (.lst (ns.map V.int))) else none) (λb=>?_) (.inl (.inr ⟨{cls:= .type "list",data:= .seq vs.toArray},if_pos rfl⟩)) (λb u z=>?_) (λb z=>?_) λ_=>hk
    · by_cases hb:b=a
      · exact .inr ⟨_,_,if_pos hb⟩
      · exact .inl (if_neg hb)
    · by_cases hb:b=a
      · have z':=(if_pos hb).symm.trans z
        cases z';subst hb;exact⟨ha,by rw[ak];exact hl,vs,_,rv,ha⟩
      · have z':=(if_neg hb).symm.trans z
        cases z'
    · by_cases hb:b=a
      · exact hb
      · exact absurd (if_neg hb) z
theorem Wq{l:PySem.W.OpenLaw}{k:Nat}{q:be}{c:List Str}{A:cx->ek->Prop}{d:DefRec}{K:Params->PySem.W.Frag}{CX:cx->kr}{sp:cx->Sp}
  (hn:l.most=some n) (t:n<=sizeLine) (y:d.params.defaults=[]) (hr:dD k l3)
  (hY:∀(w:cx) (h:ek),A w h->(K w.params).In h)
  (F : ∀ (w : World) (mg : Str -> Option Value) (i : Addr) (h : Heap), (K w.params).In h -> h.Ns mainGlobals mg -> mg d.name = some (.ref i) ->
   ∃fd:eJ,(∀(s:ar) (u:ag),og s fd ⟨[u],[]⟩ [(x,u)])/\
    ∀base:ek,(K w.params).In base->base.Ns bg mg->bf l.prog w (K w.params) mg base (CX w) k i fd [x] (sp w))
  (B:∀(w:cx) (H:Hp) (a:aw) (ns:List Int),ns.length<=n->AE H->aO (K w.params) H a (ns.map V.int)->sp w [.ref a] H (λv _=>v= .bl true) λ_ _ _=>False)
  (E:∀(w:cx) (H:Hp) (s:ar) (e:ag) (s':ar),CX w [] H s (λ_ _ _=>False) e s'->False):
  PySem.W.WalkO q c C A l.row.toRowW d [] (λf vs=>PySem.call f vs):=by
 refine Att.Pw hn y λw s₀ s₁ mg mb i o pm m doc a vs ns G Y U hd j r z p hlen hg=>?_;have KX:=hY w _ Y;obtain⟨fd,hb,I⟩:=F w mg i _ KX G.T.g r;exact To KX G.T.g G.T.b G.T.builtins G.T.nolimit hg z p (fX hlen t) hr I hb (λH D N=>B w H a ns hlen D N) λH e s'=>E w H s₁ e s'
end L2
/-THE LAST THEOREM (shape;LID,My.*are yours):
   My.Adr:a structure of the addresses that your layer names (classes,functions);My.Txt K t:a structure (Prop) of the equations over K;
   My.txt_mk:{K} {implicit addresses ..} (e1:nsIn K bg "law"=some (some (.ref f))) (e2:K.lookup f=some ⟨oc,od, .func (fnOf "law" "law" params body scope dV kV doc pm an cdv ct),sl⟩) (e3:codeIn K cdv "law"=true) .. :∃t,My.Txt K t
(the tactic k_is has no namespace:write k_is)-/
namespace L2
noncomputable def inClass(s:ft)(j:Nat):ft:=match s with
 | .ClassDef _ _ _ a _ _ _ _ _ _ _=>a.getD j (.Pass ⟨0,0,0,0⟩)
 |_=> .Pass ⟨0,0,0,0⟩
noncomputable def jL(s:ft):Arguments:=match s with
 | .FunctionDef _ a _ _ _ _ _ _ _ _=>a
 |_=>{posonlyargs:=[],args:=[],vararg:=none,kwonlyargs:=[],kw_defaults:=[],kwarg:=none,defaults:=[]}
noncomputable def jq(s:ft):List ft:=match s with
 | .FunctionDef _ _ b _ _ _ _ _ _ _=>b
 |_=>[]
noncomputable def aK(s:ft):hQ:=match s with
 | .FunctionDef _ _ _ _ _ _ sc _ _ _=>sc
 |_=>{kind:= .function,names:=[],isGenerator:=false,isCoroutine:=false}
abbrev bG:kr:=λ_ _ _ _ _ _=>False
abbrev E0:XK:=λ_ _ _=>False
theorem wU:Passes bG X E0:=λ_ _ _ _ _ _ _ h=>h.elim
structure bN(K:PySem.W.Frag)(x qual:Str)(st:ft)(f:aw)(fd:eJ):Prop where
 ex:∃(oc:ag) (od:Option aw) (kV doc pm:ag) (an:Option aw) (cdv ct:ag) (osl:Array (Option ag)),
  fd=PySem.W.fnOf x qual (jL st) (jq st) (aK st) .none kV doc pm an cdv ct/\K.lookup f=some ⟨oc,od, .func fd,osl⟩/\PySem.W.codeIn K cdv qual=true
 kp:PySem.W.keepIn K (.ref f)=true
section
variable{P:be}{w:cx}{K:PySem.W.Frag}{mg:Str->Option ag}{base:ek}
theorem bN.ok{st:ft}{f:aw}{k:Nat}(F:bN K x qual st f fd)(S:cg N ps (aK st))(len:∀vs H Q E,sp vs H Q E->vs.length=ps.length)
  (c : ∀ (cdv : Value) (A : Around) (outer : List Env) (s : Shared) (H : Hp) (vs : List V) (Q : VK) (E : XK), dD k (A.deeper (envOfC qual (aK st) s.heap.objs.size f cdv)) -> sp vs H Q E ->
   ∃t,iX (o9 bG P w K mg base N qual (aK st) f cdv A outer s H E).u7 (jq st) t/\t {nx:=λ_ H'=>Q .aD H',rt:=Q} (start N vs) H):bf P w K mg base bG (k+1) f fd ps sp:=by
 obtain⟨oc,od,kV,doc,pm,an,cdv,ct,osl,rfl,R,j⟩:=F.ex;refine T7 R j S len λA outer s H vs Q E hr B=>?_;obtain⟨t,h,q⟩:=c cdv A outer s H vs Q E hr B;exact⟨t,h.u7,q⟩
theorem bN.binds{st:ft}{f:aw}(F:bN K x qual st f fd)
  (h:∀(kV doc pm:ag) (an:Option aw) (cdv ct:ag) (us:List ag),us.length=ps.length->bindArgs (PySem.W.fnOf x qual (jL st) (jq st) (aK st) .none kV doc pm an cdv ct) ⟨us,[]⟩=pure (ps.zip us)):Binds K fd ps []:=by
 obtain⟨oc,od,kV,doc,pm,an,cdv,ct,osl,rfl,R,j⟩:=F.ex;exact .all (h kV doc pm an cdv ct)
theorem qq{st:ft}{f:aw}{od an:Option aw}{kV doc pm cdv ct:ag}(l:K.lookup f=some ⟨oc,od, .func (PySem.W.fnOf x qual (jL st) (jq st) (aK st) .none kV doc pm an cdv ct),osl⟩)
  (c:PySem.W.codeIn K cdv qual=true) (k:PySem.W.keepIn K (.ref f)=true):bN K x qual st f (PySem.W.fnOf x qual (jL st) (jq st) (aK st) .none kV doc pm an cdv ct):=⟨⟨oc,od,kV,doc,pm,an,cdv,ct,osl,rfl,l,c⟩,k⟩
end
theorem E7(h:n<=1000):n<sizeLine:=uA h ⋯
section
variable{X:Cx}
theorem pv(i:Nat){x:Str}{pos:Pos}(hN:X.N[i]?=some x:=by rfl)(hv:zf X.env.scope x:=by first|exact a5 rfl|exact e6 (a5 rfl)|exact e6 (e6 rfl))(hd:(x==("__debug__":Str))=false:=by decide)
  (j:(x==("__classdict__":Str))=false:=by decide):PE X (.Name x pos) (bz i):=WX hN hv hd j
end
theorem ES{A B:Prop}(h:B):if false=true then A else B:=by
 rw[if_neg bT];exact h
theorem ye{A B:Prop}(h:A):if true=true then A else B:=by
 rw[if_pos rfl];exact h
theorem pD{c A B:Prop}[Decidable c](h1:c->A)(h2:¬c->B):if c then A else B:=by
 by_cases h:c
 .rw[if_pos h];exact h1 h
 .rw[if_neg h];exact h2 h
def bU(H H':Hp):Prop:=∀b o,H b=some o->H' b=some o
theorem bU.refl(H:Hp):bU H H:=λ_ _ h=>h
theorem bU.trans{H2:Hp}(a:bU H H1)(b:bU H1 H2):bU H H2:=λc o h=>b c o (a c o h)
theorem bU.free(e:bU H H'){l:aw}(h:H' l=t5):H l=t5:=by
  cases q:H l with
  |none=>rfl
  | some o =>
    rw[e l o q] at h;cases h
theorem bU.seq{K:PySem.W.Frag}(e:bU H H')(h:aO K H a xs):aO K H' a xs:=by
 rcases h with (h|⟨o,h⟩)|h
 .exact .inl (.inl (e _ _ h))
 .exact .inl (.inr ⟨o,e _ _ h⟩)
 .exact .inr h
noncomputable def iY(cells:List (Str×aw)):List (Str×eL)->List (Str×aw)->List (Str×aw)
 |[],acc=>acc
 |(n,k)::r,acc=>iY cells r (if k==c3 then(match cells.lookup n with|some a=>(n,a)::acc|none=>acc) else acc)
theorem B8{env:Env}{f:Str×eL->List (Str×aw)->Sem (ForInStep (List (Str×aw)))}
    (hf:∀x acc,f x acc=if(x.2==c3)=true then(do let a<-cellOf env x.1;pure (dc ((x.1,a)::acc))) else pure (dc acc)):
    ∀(l:List (Str×eL)) (acc:List (Str×aw)),(∀x∈l,x.2= .free->∃a,env.cells.lookup x.1=some a)->(forIn l acc f:Sem (List (Str×aw)))=pure (iY env.cells l acc)
  |[],acc,_=>by rw[List.forIn_nil];rfl
  | (n, k) :: r, acc, h => by
    have hr:=λx hx=>h x (bA _ hx);rw[List.forIn_cons,hf];by_cases hk:(k==c3)=true
    · have c:k=c3:=by simpa using hk
      obtain⟨a,ha⟩:=h (n,k) bY c;have hc:cellOf env n=pure a:=by unfold cellOf;rw[ha]
      rw[if_pos hk,hc];show(forIn r ((n,a)::acc) f:Sem (List (Str×aw)))=pure (iY env.cells r _);rw[B8 hf r _ hr,if_pos hk,ha]
    · rw[if_neg hk]
      show(forIn r acc f:Sem (List (Str×aw)))=pure (iY env.cells r _);rw[B8 hf r _ hr,if_neg hk]
theorem S5(h:∀x∈scope.names,x.2= .free->∃a,env.cells.lookup x.1=some a):closureFor scope env=pure (iY env.cells scope.names []):=by
 simp only[closureFor];rw[B8 (env:=env) (λ⟨n,k⟩ acc=>by dsimp only) scope.names [] h]
 rfl
theorem zB{cells:List (Str×aw)}:∀{l:List (Str×eL)} {acc:List (Str×aw)} {x:Str} {c:aw},(∀y d,acc.lookup y=some d->cells.lookup y=some d)->(iY cells l acc).lookup x=some c->cells.lookup x=some c
  |[],_,_,_,ha,h=>ha _ _ h
  | (n, k) :: r, acc, x, c, ha, h => by
    refine zB (l:=r) ?_ h;intro y d hd;by_cases hk:(k==c3)=true
    · rw[if_pos hk] at hd
      cases q:cells.lookup n with
      |none=>rw[q] at hd;exact ha _ _ hd
      | some a =>
        rw[q] at hd;by_cases hy:(y==n)=true
        · have b:y=n:=by simpa using hy
          subst b;simp[aZ] at hd;rw[q,hd]
        · have b:(y==n)=false:=by simpa using hy
          simp only[aZ,b] at hd;exact ha _ _ hd
    · rw[if_neg hk] at hd;exact ha _ _ hd
theorem KI{cells:List (Str×aw)}:∀{l:List (Str×eL)} {acc:List (Str×aw)} {x:Str},(acc.lookup x).isSome=true->((iY cells l acc).lookup x).isSome=true
  |[],_,_,h=>h
  | (n, k) :: r, acc, x, h => by
    refine KI (l:=r) ?_;by_cases hk:(k==c3)=true
    · rw[if_pos hk]
      cases q:cells.lookup n with
      |none=>exact h
      | some a =>
        by_cases hy:(x==n)=true;· simp[aZ,hy]
        · have b:(x==n)=false:=by simpa using hy
          simp only[aZ,b];exact h
    · rw[if_neg hk];exact h
theorem KA{cells:List (Str×aw)}:∀{l:List (Str×eL)} {acc:List (Str×aw)} {x:Str} {a:aw},(x,c3)∈l->cells.lookup x=some a->((iY cells l acc).lookup x).isSome=true
  |[],_,_,_,h,_=>nomatch h
  | (n, k) :: r, acc, x, a, h, hc => by
    rcases aA.mp h with e|h
    · obtain⟨rfl,rfl⟩:=Prod.mk.inj e
      refine KI (l:=r) ?_;rw[if_pos ⋯,hc];simp[aZ]
    · exact KA (l:=r) h hc
theorem Iq{l:List (Str×eL)}(h:(x,c3)∈l)(hc:cells.lookup x=some a):(iY cells l []).lookup x=some a:=by
 obtain⟨c,e⟩:=Gr.mp (KA (acc:=[]) h hc);have:=zB (λy d (q:([]:List (Str×aw)).lookup y=some d)=>by simp at q) e;rw[hc] at this;cases this
 exact e
theorem CK{env:Env}:∀{l:List (Str×eL)} {x:Str} {k:eL},(∀y∈l,y.2≠ .cell)->
    (l.map λ(n,k)=>if(k==c3 && env.scope.kind== .function && env.kindOf n==some .cell) then(n,kX) else(n,k)).lookup x=some k->k= .cell\/k= .free->l.lookup x=some .free
  |[],_,_,_,h,_=>by simp at h
  | (n, q) :: r, x, k, hc, h, hk => by
    have hr:=λy hy=>hc y (bA _ hy);have ih:=CK (env:=env) (l:=r) (x:=x) (k:=k) hr;rw[bw] at h;dsimp only at h;by_cases hx:(x==n)=true
    · simp only[aZ,hx]
      by_cases hq:(q==c3 && env.scope.kind== .function && env.kindOf n==some .cell)=true
      · have:q= .free:=by
          simp only[eZ] at hq;simpa using hq.1.1
        rw[this]
      · rw[if_neg hq] at h
        simp only[aZ,hx] at h;have a:q=k:=ie h;rcases hk with e|e
        · exact absurd (a.trans e) (hc (n,q) bY)
        · rw[a,e]
    · have M:(x==n)=false:=by simpa using hx
      simp only[aZ,M];refine ih ?_ hk;by_cases hq:(q==c3 && env.scope.kind== .function && env.kindOf n==some .cell)=true
      · rw[if_pos hq] at h
        simp only[aZ,M] at h;exact h
      · rw[if_neg hq] at h
        simp only[aZ,M] at h;exact h
theorem G3{env:Env}:∀{l:List (Str×eL)} {x:Str},l.lookup x=some .free->
    (l.map λ(n,k)=>if(k==c3 && env.scope.kind== .function && env.kindOf n==some .cell) then(n,kX) else(n,k)).lookup x=some .cell\/
    (l.map λ(n,k)=>if(k==c3 && env.scope.kind== .function && env.kindOf n==some .cell) then(n,kX) else(n,k)).lookup x=some .free
  |[],_,h=>by simp at h
  | (n, q) :: r, x, h => by
    have ih:=G3 (env:=env) (l:=r) (x:=x);rw[bw];dsimp only;by_cases hx:(x==n)=true
    · simp only[aZ,hx] at h
      by_cases hq:(q==c3 && env.scope.kind== .function && env.kindOf n==some .cell)=true
      · rw[if_pos hq]
        left
        simp only[aZ,hx]
      · rw[if_neg hq]
        right
        simp only[aZ,hx];exact h
    · have M:(x==n)=false:=by simpa using hx
      simp only[aZ,M] at h;have:=ih h;by_cases hq:(q==c3 && env.scope.kind== .function && env.kindOf n==some .cell)=true
      · rw[if_pos hq]
        simp only[aZ,M];exact this
      · rw[if_neg hq]
        simp only[aZ,M];exact this
noncomputable def eE(sx:hQ)(NX:List Str)(scope:hQ)(N:List Str)(mp:List (Option Nat)):Bool:=
 (scope.kind== .function) && scope.names.all (λy=>y.2 != .cell) && scope.names.all (λy=>y.2 != .local||scope.names.lookup y.1==some .local) &&
 scope.names.all (λy=>y.2 != .free||sx.names.lookup y.1==some .cell||sx.names.lookup y.1==some .free) &&(mp.length==N.length) &&
 ((N.zip mp).all λp=>match p.2 with|none=>true|some j=>NX[j]?==some p.1 && scope.names.lookup p.1==some .free)
structure dI(sx:hQ)(NX:List Str)(scope:hQ)(N:List Str)(mp:List (Option Nat)):Prop where
 kind:scope.kind= .function
 cell:∀y∈scope.names,y.2≠ .cell
 names:∀y∈scope.names,y.2= .local->scope.names.lookup y.1=some .local
 free:∀y∈scope.names,y.2= .free->sx.names.lookup y.1=some .cell\/sx.names.lookup y.1=some .free
 len:mp.length=N.length
 look:∀(i j:Nat) (x:Str),mp[i]?=some (some j)->N[i]?=some x->NX[j]?=some x/\scope.names.lookup x=some .free
theorem dI.of{sx:hQ}(h:eE sx NX scope N mp=true):dI sx NX scope N mp:=by
 unfold eE at h;simp only[eZ,pF] at h;obtain⟨⟨⟨⟨⟨h1,h2⟩,h3⟩,h4⟩,h5⟩,p⟩:=h;refine⟨by simpa using h1,λy hy=>by simpa using h2 y hy,λy hy e=>?_,λy hy e=>?_,by simpa using h5,λi j x e1 e2=>?_⟩
 .have:=h3 y hy;simpa[e] using this
 .have:=h4 y hy;simpa[e] using this
 .have hm:(x,some j)∈N.zip mp:=by
   have:(N.zip mp)[i]?=some (x,some j):=by
    rw[List.getElem?_zip_eq_some];exact⟨e2,e1⟩
   exact c8 this
  have:=p _ hm;simpa using this
noncomputable def fT(mp:List (Option Nat))(σ:qb):qb:=mp.map λo=>match o with|none=>none|some j=>match σ[j]? with|some v=>v|none=>none
noncomputable def ji(X:Cx)(scope:hQ)(C:aw)(N:List Str)(s₀:ar)(H₀:Hp)(fp:List aw):Cx:=
 {X with N:=N,s₀:=s₀,H₀:=H₀,env:=vx scope (iY X.env.cells scope.names []) C X.env,outer:=X.stack,ex:=fp,fn:=λ_=>false,pn:=[],xe:=λ_ _=>False}
def rZ(X:Cx)(B:List eu)(t:TT):Prop:=
 ∀(pins:List (aw×Obj)) (s:ar) (σ:qb) (H:Hp) (Q:Bool->Hp->Prop),Inv X pins σ H s->t σ H Q->
  wpAny (a6 X.prog X.w) X.A (forIn B true λc r=>if r=true then do let ok<-isTrue c X.env (eval c X.env);pure (dc ok) else pure (dc r)) (TP X pins σ Q) X.xe s
def oB:TT:=λ_ H Q=>Q true H
theorem iP:rZ X [] oB:=λpins s σ H Q I h=>wpAny_tests_nil ⟨H,I,h⟩
theorem mw{c:eu}{t:TT}(h:PT X c t):rZ X [c] t:=λpins s σ H Q I q=>wpAny_tests_one (h pins s σ H Q I q)
def pY(J:It)(g:TG)(tc:TT)(te:TE)(acc:aw)(c:Hp->Prop)(σ:qb)(H:Hp):Prop:=∃W:Nat->Nat->qb->Hp->Prop,(∃m,W 0 m σ H)/\∀i m σ H,W i m σ H->
 (J.stop i H /\ c H) \/ (J.go i H /\ ∃ a : qb -> Hp -> Prop, (∀ L H', a L H' -> ∃ m', m' < m /\ W (i + 1) m' L H') /\ ∀ x H', J.oh i H x H' -> g x σ H' λk H2 => tc k H2 λb H3 =>
  if b=true then te k H3 λv H4=>∃ys,H4 acc=some (.lst ys)/\ys.length<sizeLine/\a k (upd H4 acc (.lst (ys++[v]))) else a k H3)
def k8(P:TI)(g:TG)(tc:TT)(te:TE)(mp:List (Option Nat)):TE:=λσ H Q=>P σ H λJ H1=>∀acc,H1 acc=none->pY J g tc te acc (λH'=>Q (.ref acc) H') (fT mp σ) (upd H1 acc (.lst []))
section
variable{prog:be}{w:cx}{A:cC}{R:Result->ar->Prop}{s:ar}
theorem Ww{t a l:eu}{it acc:ag}(I:Nat->ar->Prop)
    (E:∀n s,I n s->wpAny (a6 prog w) A (kb it) (λr s₁=>match r with
      |none=>R (.ok .next) s₁
      |some v=>wpAny (a6 prog w) A (gN a it v) (λ_ s₀=>wpAny (a6 prog w) A (q4 a env v) (λ_ d=>
          wpAny (a6 prog w) A (forIn B true λc r=>if r=true then do let ok<-isTrue c env (eval c env);pure (dc ok) else pure (dc r)) (λok b=>
            if ok=true then wpAny (a6 prog w) A (eval t env) (λx g=>
              wpAny (a6 prog w) A (call (.builtin "list.append") [acc,x]) (λ_ e=>∃m,m<n/\I m e) (λ_ _=>False) g) (λ_ _=>False) b
            else∃m,m<n/\I m b) (λ_ _=>False) d) (λ_ _=>False) s₀) (λ_ _=>False) s₁) (λ_ _=>False) s)
    (n:Nat) (h:I n s):
    codeAny (a6 prog w) A (.compLoop (.ListComp t [⟨a,l,B,0⟩] scope pos) 0 it acc env) R s:=by
  refine codeAny_loop rfl I (λn s hI=>?_) n h;show wpAny _ A ((compTurn (.ListComp t [⟨a,l,B,0⟩] scope pos) 0 it acc env).onRaise (λx=>do noteFrame x env;theTreesLotGoes x)) _ _ s;refine wpAny_noted ?_;rw[compTurn_list];refine ae (ky (ae (er (E n s hI) (λr s₁ h₁=>?_) λ_ _ h'=>h'.elim)));cases r with
  |none=>exact ax h₁
  | some v =>
    refine ae (er h₁ (λ_ s₀ h₀=>?_) λ_ _ h'=>h'.elim);refine ae (er h₀ (λ_ d k=>ae (er k (λok b f=>?_) λ_ _ h'=>h'.elim)) λ_ _ h'=>h'.elim);cases ok with
    |false=>exact ax ⟨rfl,f⟩
    | true =>
      exact ae (ae (er f (λx g i=>ae (er i (λ_ e j=>ax (ax ⟨rfl,j⟩)) λ_ _ h'=>h'.elim)) λ_ _ h'=>h'.elim))
end
section
variable{X:Cx}
theorem KQ{t l:eu}{pos':Pos}{P:TI} {Q:VK} {QQ:ag->ar->Prop}
    (ok:dI X.env.scope X.N scope N mp) (hc:X.calm=true) (hi:PI X tg l P)
    (hb:∀C s₀ H₀ fp,PG (ji X scope C N s₀ H₀ fp) tg g/\rZ (ji X scope C N s₀ H₀ fp) B tc/\PE (ji X scope C N s₀ H₀ fp) t te)
    (hs:∀x,fA l X.env x=pure x) (I:Inv X pins σ H s) (h:k8 P g tc te mp σ H Q)
    (fin:∀acc C H' s' m,Inv X pins σ H' s'->iJ X pins H' C->s'.heap.Ns C m->Q (.ref acc) H'->vy (a6 X.prog X.w) X.A X.xe use QQ (.ref acc) C (.ok .next) s'):
    wpAny (a6 X.prog X.w) X.A (comprehension (.ListComp t [⟨tg,l,B,0⟩] scope pos) scope X.env pos' (ui []) false (eval l X.env) use) QQ X.xe s:=by
  have f:∀x∈scope.names,x.2= .free->∃a,X.env.cells.lookup x.1=some a:=λx hx e=>I.ok.has x.1 (ok.free x hx e);refine wpAny_comprehension_free (use:=use) rfl hs (S5 f) ok.kind ok.names (aJ (hi pins s σ H _ I h) λv s1 h1=>aJ h1 λitv s2 h2=>?_);obtain⟨it,fp,tn,J,H2,e,I2,T,st2,Z,hW⟩:=h2;subst e;refine de (wpAny_newFunctionEnv ok.cell (by intro y hy;simp at hy) (λh₁ AI yZ=>?_) ok.kind);dsimp only at AI yZ⊢;have I3:=I2.Ft (its:=[]) (ys:=[]) (t':=s2.toks) .nil (eW _);have hW:=hW s2.heap.objs.size I2.fresh;obtain⟨W,⟨V,w0⟩,E⟩:=hW;generalize Dw:s2.heap.push {cls:= .type "list",dict:=none,data:= .seq ([]:List ag).toArray}=D at AI yZ⊢;have I3:Inv X pins σ (upd H2 s2.heap.objs.size (.lst [])) {s2 with heap:=D}:=by rw[<-Dw];exact I3
  generalize N3:upd H2 s2.heap.objs.size (.lst [])=H3 at I3 w0;have hC:D.objs.size=s2.heap.objs.size+1:=by rw[<-Dw,kN]
  have old:∀b o,D.get? b=some o->h₁.get? b=some o:=λb o e=>yZ.extBut b o (dz (bF e)) (bV _ e);have kG:∀b∈fp,b<s2.heap.objs.size:=λb hb=>by
    obtain⟨o,e,_⟩:=T.obj 0 _ st2 b hb;exact bF e
  have Rk:∀b∈fp,H3 b=none:=λb hb=>by
    rw[<-N3,aM (dz (kG b hb))];exact(Z b hb).1
  have tD:∀{x:Str} {c:aw},(iY X.env.cells scope.names []).lookup x=some c->X.env.cells.lookup x=some c:=λ{x c} e=>zB (λy d q=>by simp at q) e;have uy:(ji X scope D.objs.size N {s2 with heap:=D} H3 fp).Ok:=by
    refine⟨I2.ok.mod,ok.kind,I2.ok.glob,I2.ok.blt,aF _,λx y c e1 e2=>I2.ok.inj x y c (tD e1) (tD e2),λx hx=>?_,(λx c e=>absurd (show false=true from e) ⋯),I2.ok.hd,I2.ok.frames, .inl rfl,λb hb=>?_,I3.bs,fX I3.ok.ny I3.sz,λb o e hb=>?_,λb hb hz=>?_,I3.stack,I3.JJ⟩
    · have M:scope.names.lookup x=some .free:=by
        rcases hx with hx|hx
        · exact CK ok.cell hx (.inl rfl)
        · exact CK ok.cell hx (.inr rfl)
      have hm:=nI M;obtain⟨a,ha⟩:=f _ hm rfl;exact⟨a,Iq hm ha⟩
    · refine⟨λz=>?_,λx c e=>(Z b hb).2.2.2.2.1 x c (tD e)⟩
      have z':b=D.objs.size:=z;have q:=kG b hb;rw[z',hC] at q;exact absurd q (Nat.not_lt.mpr (pK _))
    · rcases(Z b hb).2.2.2.1 with z|z
      · exact I2.ok.qP b o e z
      · exact absurd (eG (bF (I2.ok.bs b o e).1) z) (jk _)
    · rcases aA.mp (I2.CV b hz) with z|z
      · exact(Z b hb).2.1 z
      · exact(Z b hb).2.2.1 z
  have IY:Inv (ji X scope D.objs.size N {s2 with heap:=D} H3 fp) [] (fT mp σ) H3 {s2 with heap:=h₁,toks:=s2.toks+([]:List (Str×ag)).length}:=by
    refine⟨uy,rfl,I2.bare,Un.kept old,⟨_,AI,λi x v e1 e2 e3=>?_⟩,λx c e=>?_,I3.hok.fresh (aF _),λx c e=>I3.jM x c (tD e),λp hp=>absurd (show p∈([]:List (aw×Obj)) from hp) (by simp),I3.hok.kept old,?_⟩
    · have hj:∃j,mp[i]?=some (some j)/\σ[j]?=some (some v):=by
        unfold fT at e2;rw[cB] at e2;cases q:mp[i]? with
        |none=>rw[q] at e2;cases e2
        | some o =>
          rw[q] at e2;cases o with
          |none=>cases e2
          | some j =>
            refine⟨j,rfl,?_⟩;have e2:(match σ[j]? with|some v=>v|none=>none)=some v:=ie e2;cases r:σ[j]? with
            |none=>rw[r] at e2;cases e2
            | some u =>
              rw[r] at e2;have e2:u=some v:=e2;rw[e2]
      obtain⟨j,hj1,hj2⟩:=hj;obtain⟨F,G⟩:=ok.look i j x hj1 e1;have hm:=nI G;have kx:=ok.free _ hm rfl;obtain⟨mm,_,hl⟩:=I3.loc;obtain⟨u,ru,R⟩:=hl j x v F hj2 (kx.elim (λz=> .inr (.inl z)) λz=> .inr (.inr z));refine⟨u,ru, .inr ⟨G3 G,?_⟩⟩;rcases R with ⟨k,_⟩|⟨_,c,e,z⟩
      · exfalso
        have k':X.env.scope.names.lookup x=some .local:=k;rcases kx with kx|kx
        · rw[k'] at kx;cases kx
        · rw[k'] at kx;cases kx
      · refine⟨c,Iq hm e,?_⟩
        obtain⟨o,U,hd⟩:=z;exact⟨o,old c o U,hd⟩
    · obtain⟨v,o,U,hd⟩:=I3.cell x c (tD e)
      exact⟨v,o,old c o U,hd⟩
    · show(fT mp σ).length=N.length
      unfold fT;rw[ak,ok.len]
  have mq:∀{H':Hp},(∀b∈fp,H' b=none)->∀b∈fp,iJ (ji X scope D.objs.size N {s2 with heap:=D} H3 fp) [] H' b:=λ{H'} hn b hb=>
    ⟨hn b hb,(uy.yh b hb).1,uy.qQ b hb, .inl hb,(uy.yh b hb).2,λp hp=>absurd (show p∈([]:List (aw×Obj)) from hp) (by simp)⟩
  have Lr:tn 0 h₁:=T.keep 0 _ _ st2 λb hb o e=>old b o (by rw[<-Dw];exact bV _ e)
  have loop:codeAny (a6 X.prog X.w) X.A (.compLoop (.ListComp t [⟨tg,l,B,0⟩] scope pos) 0 (.ref it) (.ref s2.heap.objs.size) (vx scope (iY X.env.cells scope.names []) D.objs.size X.env))
      (vy (a6 X.prog X.w) X.A X.xe use QQ (.ref s2.heap.objs.size) D.objs.size) {s2 with heap:=h₁,toks:=s2.toks+([]:List (Str×ag)).length}:=by
    obtain⟨hg,ht,he⟩:=hb D.objs.size {s2 with heap:=D} H3 fp;generalize hY:ji X scope D.objs.size N {s2 with heap:=D} H3 fp=Y at hg ht he IY mq;have yp:Y.prog=X.prog:=by rw[<-hY];rfl
    have yw:Y.w=X.w:=by rw[<-hY];rfl
    have yK:Y.K=X.K:=by rw[<-hY];rfl
    have yA:Y.A=X.A:=by rw[<-hY];rfl
    have yc:Y.calm=true:=by rw[<-hY];exact hc
    have yx:Y.xe=λ_ _=>False:=by rw[<-hY];rfl
    have Kf:Y.env=vx scope (iY X.env.cells scope.names []) D.objs.size X.env:=by rw[<-hY];rfl
    rw[<-Kf];refine Ww (λn s'=>∃i σ' H',Inv Y [] σ' H' s'/\tn i s'.heap/\(∀b∈fp,H' b=none)/\W i n σ' H') ?_ V ⟨0,_,H3,IY,Lr,Rk,w0⟩;rintro n s3 ⟨i,σ3,H4,I4,st3,fr3,w3⟩;rcases E i n σ3 H4 w3 with ⟨stop,qn⟩|⟨go,Nx,hN,step⟩
    · have q0:=T.done Y yp yw yK yc i [] s3 σ3 H4 (λ_ _=>False) I4 (mq fr3) st3 stop
      rw[yA] at q0;refine aJ q0 λr s4 ⟨hr,I5⟩=>?_;subst hr;show vy (a6 X.prog X.w) X.A X.xe use QQ (.ref s2.heap.objs.size) D.objs.size (.ok .next) s4;obtain⟨m,hm,_⟩:=id I5.loc;have yl:Y.env.locals=D.objs.size:=by rw[Kf];rfl
      rw[yl] at hm;have fC:H4 D.objs.size=none:=by have:=I5.free;rw[yl] at this;exact this
      have ub:=I5.base;have ub':Un (frs X.stack) fp H3 H4 D s4.heap:=by rw[<-hY] at ub;exact ub
      have S:s4.os=s2.os:=by have:=I5.os;rw[<-hY] at this;exact this
      have ON:cW X.prog X.w H4 s4.heap:=by have:=I5.hok;rw[yp,yw] at this;exact this
      have IX:Inv X pins σ H4 s4:=I3.Um (ch:=fp) S ub' ON I5.bare λb hb=>⟨(Z b hb).2.2.2.1,(Z b hb).2.1,(Z b hb).2.2.2.2.1,(Z b hb).2.2.2.2.2⟩;exact fin _ _ H4 s4 m IX (I3.tQ (aF _) fC) hm qn
    · have q0:=T.item Y yp yw yK yc i [] s3 σ3 H4 (λ_ _=>False) I4 (mq fr3) st3 go
      rw[yA] at q0;refine aJ q0 λr s4 ⟨u,hr,h4⟩=>?_;subst hr;refine aJ h4 λ_ s5 ⟨x,H5,I5,r5,y5,oK,zP⟩=>?_;have Ah:=I5.pinned (mq zP) (T.obj _ _ oK);rw[<-yx,<-yp,<-yw,<-yA];refine aJ (hg _ s5 σ3 H5 x u _ Ah r5 (step x H5 y5)) λ_ s6 ⟨sr,H6,I6,q6⟩=>?_;refine aJ (ht _ s6 sr H6 _ I6 q6) λb s7 ⟨H7,L,O⟩=>?_;have again:∀{qC:qb} {H8:Hp} {s8:ar},Inv Y ([]++tw fp s5.heap) qC H8 s8->Nx qC H8->∃m,m<n/\∃i σ' H',Inv Y [] σ' H' s8/\tn i s8.heap/\(∀b∈fp,H' b=none)/\W i m σ' H':=λ{qC H8 s8} I8 n8=>by
        obtain⟨m',hm,w8⟩:=hN qC H8 n8;refine⟨m',hm,i+1,qC,H8,I8.vR,T.keep _ _ _ oK λb hb o e=>(I8.pin (b,o) (je _ (je _ (vg hb e)))).1,λb hb=>?_,w8⟩;obtain⟨o,e,d⟩:=T.obj _ _ oK b hb;exact(I8.pin (b,o) (je _ (je _ (vg hb e)))).2.1
      cases b with
      | false =>
        rw[if_neg bT];rw[if_neg bT] at O;exact again L O
      | true =>
        rw[if_pos rfl];rw[if_pos rfl] at O;refine aJ (he _ s7 sr H7 _ L O) λv s8 ⟨y,H8,I8,r8,ys,e8,z8,n8⟩=>?_;refine aJ (Cy _ s8 sr H8 (.ref s2.heap.objs.size) [y] (.ref s2.heap.objs.size) [v] (λ_ H9=>H9=upd H8 s2.heap.objs.size (.lst (ys++[y]))) I8 rfl (.cons r8 .nil) ⟨_,ys,y,rfl,rfl,e8,z8,rfl⟩) λv9 s9 ⟨y9,H9,I9,r9,e9⟩=>?_;subst e9;exact again I9 n8
  refine codeAny_compStart_list loop (T.self _ _ _ _ _ Lr loop)
theorem iJ.turned{pins:List (aw×Obj)}{s:ar}{σ:qb}{H:Hp}{C:aw}{h':ek}(I:Inv X pins σ H s)(f:iJ X pins H C)(hs:eC C s.heap h'):Inv X pins σ H {s with heap:=h'}:=
 I.turned (t':=s.toks) (λb o hb e=>(hs.2 b hb).trans e) f.1 f.2.1 f.2.2.2.1 f.2.2.2.2.1 f.2.2.2.2.2
theorem gC{t l:eu}{P:TI}
  (ok:dI X.env.scope X.N scope N mp) (hi:PI X tg l P)
  (hb:∀C s₀ H₀ fp,PG (ji X scope C N s₀ H₀ fp) tg g/\rZ (ji X scope C N s₀ H₀ fp) B tc/\PE (ji X scope C N s₀ H₀ fp) t te) (hc:X.calm=true:=by rfl)
  (hs:∀x,fA l X.env x=pure x:=by intro _;rfl):PE X (.ListComp t [⟨tg,l,B,0⟩] scope pos) (k8 P g tc te mp):=by
 intro pins s σ H Q I h;rw[eval_ListComp];refine KQ (use:=none) ok hc hi hb hs I h λacc C H' s' m b f hn q=>?_;exact⟨m,hn,λh' d=>⟨.ref acc,H',f.turned b d,rfl,q⟩⟩
def IV(i:Nat)(t:TE):TS:=λD σ H=>t σ H λv H'=>D.nx (σ.set i (some v)) H'
theorem xB{t l:eu}{c j:Pos}{P:TI}{y:Str}
  (hN:X.N.Nodup) (hy:X.N[i]?=some y) (hk:X.env.kindOf y=some .local)
  (ok:dI X.env.scope X.N scope N mp) (hi:PI X tg l P)
  (hb:∀C s₀ H₀ fp,PG (ji X scope C N s₀ H₀ fp) tg g/\rZ (ji X scope C N s₀ H₀ fp) B tc/\PE (ji X scope C N s₀ H₀ fp) t te) (hc:X.calm=true:=by rfl)
  (k:n7 (.ListComp t [⟨tg,l,B,0⟩] scope pos) (some (.Name y j)) c.line X.env=pure true:=by rfl)
  (hs:∀x,fA l X.env x=pure x:=by intro _;rfl):PS X (.Assign [.Name y j] (.ListComp t [⟨tg,l,B,0⟩] scope pos) c) (IV i (k8 P g tc te mp)):=by
 intro pins s σ H D I h;rw[exec_Assign_Name_used _ _ _ _ k];refine ae (ky (ae ?_));show wpAny _ X.A (do let _<-comprehension (.ListComp t [⟨tg,l,B,0⟩] scope pos) scope X.env _ (ui []) false (eval l X.env) (some (q4 (.Name y j) X.env))) _ _ s;refine ae (er (KQ (use:=some (q4 (.Name y j) X.env)) (QQ:=λ_ s'=>SP X pins D .next s') ok hc hi hb hs I h λacc C H' s' m b f hn q=>?_) (λ_ s' hq=>ax (ax hq)) λ_ _ e=>e);refine lZ (Iw (v:= .ref acc) b hN hy (.inl hk) rfl (λs2 I2 ⟨a,sb,ha⟩=>?_) (.inr hk));have T:C≠a:=by
  rcases ha with z|z
  .rw[z];exact f.2.1
  .exact λe=>f.2.2.2.2.1 y a z e.symm
 exact⟨m,hn.sameBut sb T,λh' d=>⟨_,H',f.turned I2 d,q⟩⟩
end
def Sm(i:Int):Prop:= -(2^300)<i/\i<2^300
theorem GZ{i:Int}(h:Sm i):kk i<=2^20:=by
 obtain⟨h1,h2⟩:=h;unfold kk;split;·exact eW _
 .rename_i h0
  have hn:i.natAbs≠0:=by
   intro e;apply h0;simp;omega
  have h3:i.natAbs<2^300:=∅
  have h4:i.natAbs.log2<300:=(uj hn).mpr h3;have:(2:Nat)^20=1048576:=⋯
  omega
theorem Nc{x y:Int}(h:Sm y):Builtin.divisionGoesByPylong x y=false:=by
 refine PyProof.noPylong_of_log2 ?_;obtain⟨h1,h2⟩:=h;by_cases h0:y.natAbs=0;·rw[h0];decide+kernel
 .have h3:y.natAbs<2^300:=∅
  have h4:y.natAbs.log2<300:=(uj h0).mpr h3;omega
section
variable{X:Cx}
theorem qj:dR X (hR .FloorDiv) (rI (λ_ j=>0<j/\Sm j) λi j=> .int (i/j)):=wc λi j _ _ _ _ _ hc q=>
 floordiv_int ∅ (by rw[Int.fdiv_eq_ediv_of_nonneg _ ∅];exact q) (.inl (Nc hc.2))
def kE(K:PySem.W.Frag):List V->Hp->VK->Prop:=λxs H Q=>∃x T t b,xs=[x, .ty T]/\iF K H x t/\PySem.W.kitOne K t (.type T)=some b/\Q (.bl b) H
theorem m6:fV X (.builtin "isinstance") (kE X.K):=by
 intro pins s σ H xs us Q I rv h;obtain⟨x,T,t,b,rfl,ty,e,q⟩:=h;obtain⟨u,v,rfl,ru,rv⟩:=rv.two;cases (show v=dE T from rv);exact Xa I ru ty e λtk=>⟨.bl b,H,I.tok tk,rfl,q⟩
def sN:PyData->Key->Prop
 | .int i,k=>k= .inl i
 | .str x,k=>k= .inr x
 |_,_=>False
mutual
def ah(nb:aw->Prop)(H:Hp):PyData->V->Prop
 | .none,v=>v= .aD
 | .bool b,v=>v= .bl b
 | .int i,v=>v= .int i
 | .str x,v=>v= .str x
 | .list ds,v=>∃a xs,v= .ref a/\¬nb a/\H a=some (.lst xs)/\af nb H ds xs
 | .tuple ds,v=>∃a xs,v= .ref a/\¬nb a/\H a=some (.tup xs)/\af nb H ds xs
 | .dict kvs,v=>∃a ps,v= .ref a/\¬nb a/\Rd H a (.dK ps)/\aq nb H kvs ps
termination_by structural d=>d
def af(nb:aw->Prop)(H:Hp):List PyData->List V->Prop
 |[],xs=>xs=[]
 |d::ds,xs=>∃y ys,xs=y::ys/\ah nb H d y/\af nb H ds ys
termination_by structural d=>d
def aq(nb:aw->Prop)(H:Hp):List (PyData×PyData)->List (Key×V)->Prop
 |[],xs=>xs=[]
 |d::ds,xs=>∃p ys,xs=p::ys/\bX nb H d p/\aq nb H ds ys
termination_by structural d=>d
def bX(nb:aw->Prop)(H:Hp):PyData×PyData->Key×V->Prop
 |(k,d),p=>sN k p.1/\ah nb H d p.2
termination_by structural d=>d
end
def aP(nb:aw->Prop)(H H':Hp):Prop:=∀a o,¬nb a->H a=some o->H' a=some o
def Nb(b:aw):aw->Prop:=λa=>a=b
section
variable{nb ay:aw->Prop}{H H1 H2 H':Hp}{a b c p:aw}{o:HO}{xs:List V}
theorem aP.refl(nb:aw->Prop)(H:Hp):aP nb H H:=λ_ _ _ h=>h
theorem aP.trans(x:aP nb H H1)(y:aP nb H1 H2):aP nb H H2:=λa o n h=>y a o n (x a o n h)
theorem aP.of(x:bU H H'):aP nb H H':=λa o _ h=>x a o h
theorem aP.set(h:nb p):aP nb H (upd H p o):=λa u n q=>by rw[aM (λe=>n (by rw[e];exact h))];exact q
theorem aP.rd{u:HO}(x:aP nb H H')(n:¬nb a)(h:Rd H a u):Rd H' a u:=by
 rcases h with h|⟨o,h⟩
 .exact .inl (x _ _ n h)
 .exact .inr ⟨o,x _ _ n h⟩
end
mutual
theorem ah.keep{nb:aw->Prop}{H H':Hp}(x:aP nb H H'):∀{d:PyData} {v:V},ah nb H d v->ah nb H' d v
 | .none,_,h=>by unfold ah at h⊢;exact h
 | .bool _,_,h=>by unfold ah at h⊢;exact h
 | .int _,_,h=>by unfold ah at h⊢;exact h
 | .str _,_,h=>by unfold ah at h⊢;exact h
 | .list ds,_,h=>by unfold ah at h⊢;obtain⟨a,xs,e,n,s,r⟩:=h;exact⟨a,xs,e,n,x _ _ n s,af.keep x r⟩
 | .tuple ds,_,h=>by unfold ah at h⊢;obtain⟨a,xs,e,n,s,r⟩:=h;exact⟨a,xs,e,n,x _ _ n s,af.keep x r⟩
 | .dict kvs,_,h=>by unfold ah at h⊢;obtain⟨a,xs,e,n,s,r⟩:=h;exact⟨a,xs,e,n,x.rd n s,aq.keep x r⟩
theorem af.keep{nb:aw->Prop}{H H':Hp}(x:aP nb H H'):∀{ds:List PyData} {vs:List V},af nb H ds vs->af nb H' ds vs
 |[],_,h=>by unfold af at h⊢;exact h
 |d::ds,_,h=>by unfold af at h⊢;obtain⟨y,ys,e,h1,h2⟩:=h;exact⟨y,ys,e,ah.keep x h1,af.keep x h2⟩
theorem aq.keep{nb:aw->Prop}{H H':Hp}(x:aP nb H H'):∀{ds:List (PyData×PyData)} {vs:List (Key×V)},aq nb H ds vs->aq nb H' ds vs
 |[],_,h=>by unfold aq at h⊢;exact h
 |d::ds,_,h=>by unfold aq at h⊢;obtain⟨y,ys,e,h1,h2⟩:=h;exact⟨y,ys,e,bX.keep x h1,aq.keep x h2⟩
theorem bX.keep{nb:aw->Prop}{H H':Hp}(x:aP nb H H'):∀{d:PyData×PyData} {v:Key×V},bX nb H d v->bX nb H' d v
 |(k,d),_,h=>by unfold bX at h⊢;exact⟨h.1,ah.keep x h.2⟩
end
mutual
theorem ah.av{nb ay:aw->Prop}{H:Hp}(x:∀a,ay a->nb a):∀{d:PyData} {v:V},ah nb H d v->ah ay H d v
 | .none,_,h=>by unfold ah at h⊢;exact h
 | .bool _,_,h=>by unfold ah at h⊢;exact h
 | .int _,_,h=>by unfold ah at h⊢;exact h
 | .str _,_,h=>by unfold ah at h⊢;exact h
 | .list ds,_,h=>by unfold ah at h⊢;obtain⟨a,xs,e,n,s,r⟩:=h;exact⟨a,xs,e,λz=>n (x a z),s,af.av x r⟩
 | .tuple ds,_,h=>by unfold ah at h⊢;obtain⟨a,xs,e,n,s,r⟩:=h;exact⟨a,xs,e,λz=>n (x a z),s,af.av x r⟩
 | .dict kvs,_,h=>by unfold ah at h⊢;obtain⟨a,xs,e,n,s,r⟩:=h;exact⟨a,xs,e,λz=>n (x a z),s,aq.av x r⟩
theorem af.av{nb ay:aw->Prop}{H:Hp}(x:∀a,ay a->nb a):∀{ds:List PyData} {vs:List V},af nb H ds vs->af ay H ds vs
 |[],_,h=>by unfold af at h⊢;exact h
 |d::ds,_,h=>by unfold af at h⊢;obtain⟨y,ys,e,h1,h2⟩:=h;exact⟨y,ys,e,ah.av x h1,af.av x h2⟩
theorem aq.av{nb ay:aw->Prop}{H:Hp}(x:∀a,ay a->nb a):∀{ds:List (PyData×PyData)} {vs:List (Key×V)},aq nb H ds vs->aq ay H ds vs
 |[],_,h=>by unfold aq at h⊢;exact h
 |d::ds,_,h=>by unfold aq at h⊢;obtain⟨y,ys,e,h1,h2⟩:=h;exact⟨y,ys,e,bX.av x h1,aq.av x h2⟩
theorem bX.av{nb ay:aw->Prop}{H:Hp}(x:∀a,ay a->nb a):∀{d:PyData×PyData} {v:Key×V},bX nb H d v->bX ay H d v
 |(k,d),_,h=>by unfold bX at h⊢;exact⟨h.1,ah.av x h.2⟩
end
mutual
theorem ah.fresh{nb:aw->Prop}{H:Hp}{p:aw}(hp:H p=none):∀{d:PyData} {v:V},ah nb H d v->ah (λa=>nb a\/a=p) H d v
 | .none,_,h=>by unfold ah at h⊢;exact h
 | .bool _,_,h=>by unfold ah at h⊢;exact h
 | .int _,_,h=>by unfold ah at h⊢;exact h
 | .str _,_,h=>by unfold ah at h⊢;exact h
 | .list ds,_,h=>by unfold ah at h⊢;obtain⟨a,xs,e,n,s,r⟩:=h;exact⟨a,xs,e,λz=>z.elim n (gZ s hp),s,af.fresh hp r⟩
 | .tuple ds,_,h=>by unfold ah at h⊢;obtain⟨a,xs,e,n,s,r⟩:=h;exact⟨a,xs,e,λz=>z.elim n (gZ s hp),s,af.fresh hp r⟩
 | .dict kvs,_,h=>by unfold ah at h⊢;obtain⟨a,xs,e,n,s,r⟩:=h;exact⟨a,xs,e,λz=>z.elim n (s.elim (λs=>gZ s hp) λ⟨_,s⟩=>gZ s hp),s,aq.fresh hp r⟩
theorem af.fresh{nb:aw->Prop}{H:Hp}{p:aw}(hp:H p=none):∀{ds:List PyData} {vs:List V},af nb H ds vs->af (λa=>nb a\/a=p) H ds vs
 |[],_,h=>by unfold af at h⊢;exact h
 |d::ds,_,h=>by unfold af at h⊢;obtain⟨y,ys,e,h1,h2⟩:=h;exact⟨y,ys,e,ah.fresh hp h1,af.fresh hp h2⟩
theorem aq.fresh{nb:aw->Prop}{H:Hp}{p:aw}(hp:H p=none):∀{ds:List (PyData×PyData)} {vs:List (Key×V)},aq nb H ds vs->aq (λa=>nb a\/a=p) H ds vs
 |[],_,h=>by unfold aq at h⊢;exact h
 |d::ds,_,h=>by unfold aq at h⊢;obtain⟨y,ys,e,h1,h2⟩:=h;exact⟨y,ys,e,bX.fresh hp h1,aq.fresh hp h2⟩
theorem bX.fresh{nb:aw->Prop}{H:Hp}{p:aw}(hp:H p=none):∀{d:PyData×PyData} {v:Key×V},bX nb H d v->bX (λa=>nb a\/a=p) H d v
 |(k,d),_,h=>by unfold bX at h⊢;exact⟨h.1,ah.fresh hp h.2⟩
end
mutual
theorem ah.reads{pins:List (aw×Obj)}{σ:qb}{H:Hp}{s:ar}{nb:aw->Prop}(I:Inv X pins σ H s):∀{d:PyData} {v:V} {u:ag},ah nb H d v->RelV v u->d.canLay0=true->∃as,Reads s.heap u d as
  | .none,_,_,h,r,_=>by unfold ah at h;subst h;cases r;exact⟨_, .none⟩
  | .bool _,_,_,h,r,_=>by unfold ah at h;subst h;cases r;exact⟨_, .bool _⟩
  | .int _,_,_,h,r,_=>by unfold ah at h;subst h;obtain⟨t,rfl⟩:=r;exact⟨_, .int _ _⟩
  | .str _,_,_,h,r,_=>by unfold ah at h;subst h;obtain⟨t,rfl⟩:=r;exact⟨_, .str _ _⟩
  | .list ds, _, _, h, r, b => by
    unfold ah at h;obtain⟨a,xs,rfl,n,s,q⟩:=h;cases r;obtain⟨its,rv,p,hz⟩:=I.list (aO.of s);obtain⟨as,ra⟩:=af.reads I q rv (by simpa only[br] using b);obtain⟨o,U,hc,m,hd⟩:=p.isList;exact⟨_, .list U hc hd (by simpa using ra)⟩
  | .tuple ds, _, _, h, r, b => by
    unfold ah at h;obtain⟨a,xs,rfl,n,s,q⟩:=h;cases r;obtain⟨its,rv,p,hz⟩:=I.tuple (fY.of s);obtain⟨as,ra⟩:=af.reads I q rv (by simpa only[br] using b);obtain⟨o,U,hc,m,hd⟩:=p;exact⟨_, .tuple U hc hd (by simpa using ra)⟩
  | .dict _,_,_,h,r,b=>by simp[br] at b
theorem af.reads{pins:List (aw×Obj)}{σ:qb}{H:Hp}{s:ar}{nb:aw->Prop}(I:Inv X pins σ H s):∀{ds:List PyData} {vs:List V} {us:List ag},af nb H ds vs->Vals vs us->ba ds=true->∃as,ReadsAll s.heap us ds as
  |[],_,_,h,r,_=>by unfold af at h;subst h;cases r;exact⟨_, .nil⟩
  | d :: ds, _, _, h, r, hc0 => by
    rw[ba,eZ] at hc0;unfold af at h;obtain⟨y,ys,rfl,h1,h2⟩:=h;cases r with
    | cons O N =>
      obtain⟨as,J⟩:=ah.reads I h1 O hc0.1;obtain⟨bs,M⟩:=af.reads I h2 N hc0.2;exact⟨_, .cons J M⟩
end
def AD(a:Bool):R2:=λx y H Q=>∃nb d e,ah nb H d x/\ah nb H e y/\c5 d=true/\c5 e=true/\Q (.bl (eh d e !=a)) H
theorem XY(hu:X.A.units+64<wx):dR X (dy .Eq) (AD false):=by
 intro pins s σ H x y v u Q I rx ry h;obtain⟨nb,d,e,h1,h2,h3,h4,q⟩:=h;obtain⟨as,O⟩:=h1.reads I rx (oJ h3);obtain⟨bs,N⟩:=h2.reads I ry (oJ h4);exact eq_dataH O N h3 h4 hu ⟨.bl _,H,I,rfl,by simpa using q⟩
theorem zA(hu:X.A.units+64<wx):dR X (dy .NotEq) (AD true):=by
 intro pins s σ H x y v u Q I rx ry h;obtain⟨nb,d,e,h1,h2,h3,h4,q⟩:=h;obtain⟨as,O⟩:=h1.reads I rx (oJ h3);obtain⟨bs,N⟩:=h2.reads I ry (oJ h4);exact ne_dataH O N h3 h4 hu ⟨.bl _,H,I,rfl,by simpa using q⟩
end
mutual
theorem eqv_refl:∀d:PyData,c5 d=true\/d.canLay0=true->eh d d=true
  | .none,_=>by simp[eh]
  | .bool _,_=>by simp[eh]
  | .int _,_=>by simp[eh]
  | .str _,_=>by simp[eh]
  | .list ds, h => by
    have h':ba ds=true:=by
      rcases h with h|h
      · have:=oJ h;simpa[br] using this
      · simpa[br] using h
    simp only[eh];exact eqvAll_refl ds h'
  | .tuple ds, h => by
    have h':ba ds=true:=by
      rcases h with h|h
      · have:=oJ h;simpa[br] using this
      · simpa[br] using h
    simp only[eh];exact eqvAll_refl ds h'
  | .dict _, h => by
    rcases h with h|h
    · have:=oJ h;simp[br] at this
    · simp[br] at h
theorem eqvAll_refl:∀ds:List PyData,ba ds=true->hX ds ds=true
  |[],_=>by simp[hX]
  | d :: ds, h => by
    simp only[ba,eZ] at h;simp only[hX,eZ];exact⟨eqv_refl d (.inr h.1),eqvAll_refl ds h.2⟩
end
structure Callee(P:be)(w:cx)(K:PySem.W.Frag)(mg:Str->Option ag)(base:ek)(x:Str)(k:Nat)(ps:List Str)(sp:Sp):Prop where
 ex:∃f fd,bf P w K mg base bG k f fd ps sp/\Binds K fd ps []/\PySem.W.keepIn K (.ref f)=true/\mg x=some (.ref f)
theorem aV{k:Nat}{p:Pos}{es:List eu}(c:Callee X.prog X.w X.K X.mg X.base x k ps sp)(hr:dD k X.A)(ha:PA X (e::es) t)(hg:Gl X x:=by rfl)
  (a:(x==("__debug__":Str))=false:=by decide) (he:cn (e::es) X.env=(false,eval e X.env)::cn es X.env:=by rfl) (o:(ij pos (cn es X.env)).any (·.1)=false:=by rfl):
  PE X (.Call (.Name x p) (e::es) [] pos) (fN sp [] E0 t):=by
 obtain⟨f,fd,F,b,kp,m⟩:=c.ex;exact WG F hr hg m kp b .nil wU ha a he o
theorem Callee.mk'{P:be}{K:PySem.W.Frag}{st:ft}{k:Nat}{f:aw}(F:bN K x x st f fd)(ok:bf P w K mg base bG k f fd ps sp)(b:Binds K fd ps [])
  (m:mg x=some (.ref f)):Callee P w K mg base x k ps sp:=⟨f,fd,ok,b,F.kp,m⟩
def aS(K:PySem.W.Frag)(x q:Str)(st:ft)(f:aw):Prop:=PySem.W.nsIn K bg x=some (some (.ref f))/\∃fd,bN K x q st f fd
theorem aS.mk{K:PySem.W.Frag}{q:Str}{st:ft}{f:aw}{od an:Option aw}{kV doc pm cdv ct:ag}(a:PySem.W.nsIn K bg x=some (some (.ref f)))(l:K.lookup f=some ⟨oc,od, .func (PySem.W.fnOf x q (jL st) (jq st) (aK st) .none kV doc pm an cdv ct),osl⟩)
  (c:PySem.W.codeIn K cdv q=true) (k:PySem.W.keepIn K (.ref f)=true):aS K x q st f:=⟨a,_,qq l c k⟩
section
variable{X:Cx}
theorem iD:dR X (hR .Mult) (rI (λi j=>vZ i j\/(Sm i/\Sm j)) λi j=> .int (i*j)):=wc λ_ _ _ _ _ _ _ hc q=>mul_int q (by
 rcases hc with hc|hc
 .exact hc.ok
 .exact IntMulOk.of_bits (GZ hc.1) (GZ hc.2))
end
def dO(H:Hp)(b l:aw):Prop:=∃(ns:List Int) (i c st n:Int),H b=some (.lst [.ref l, .int i, .int c, .int st, .int n])/\H l=some (.lst (ns.map V.int))/\
 (∀x∈ns,0<=x/\x<10^60)/\ns.length<=63/\0<=i/\0<=c/\c<10^60/\0<=st/\st<2147483647
theorem OF{l:aw}{i c st n:V}(h:H b=some (.lst [.ref l,i,c,st,n]))(h':H l=some (.lst (ns.map V.int))):l≠b:=by
 intro e;subst e;rw[h] at h';have e:=HO.lst.inj (ie h');cases ns with
 |nil=>cases e
 |cons x r=>rw[bw] at e;cases (sD e).1
theorem dO.put{l:aw}{i c st n:Int}(hl:l≠b)(h':H l=some (.lst (ns.map V.int)))(h1:∀x∈ns,0<=x/\x<10^60)(h2:ns.length<=63)
  (h3:0<=i) (h4:0<=c) (h5:c<10^60) (p:0<=st) (d:st<2147483647):dO (upd H b (.lst [.ref l, .int i, .int c, .int st, .int n])) b l:=
 ⟨ns,i,c,st,n,aT,by rw[aM hl];exact h',h1,h2,h3,h4,h5,p,d⟩
theorem dO.put2{l p:aw}{o:HO}(h:dO H b l)(hp:p≠b/\p≠l):dO (upd H p o) b l:=by
 obtain⟨ns,i,c,st,n,h1,h2,r⟩:=h;exact⟨ns,i,c,st,n,by rw[aM (bJ hp.1)];exact h1,by rw[aM (bJ hp.2)];exact h2,r⟩
theorem dO.same{l:aw}(h:dO H b l)(s:bU H H'):dO H' b l:=by
 obtain⟨ns,i,c,st,n,h1,h2,r⟩:=h;exact⟨ns,i,c,st,n,s _ _ h1,s _ _ h2,r⟩
def i6:Sp:=λvs H Q _=>∃(b l:aw) (many:Int),vs=[.ref b, .int many]/\dO H b l/\0<many/\Sm many/\∀(r:Int) (H':Hp),0<=r->r<many->aP (Nb b) H H'->dO H' b l->Q (.int r) H'
def FH(K:PySem.W.Frag):Sp:=λvs H Q _=>∃(a:aw) (ns:List Int),vs=[.ref a]/\aO K H a (ns.map V.int)/\ns.length<=63/\∀(b l:aw) (H':Hp),bU H H'->H b=none->dO H' b l->Q (.ref b) H'
theorem lF{α:Type}{xs:List α}{i:Int}{v:α}(h0:0<=i)(h:xs[i.toNat]?=some v):bO xs i=some v:=by
 have e:i=((i.toNat:Nat):Int):=∅
 rw[e];exact Nr h
theorem cF{p:aw}{o:HO}(h:H p=none):bU H (upd H p o):=λb u q=>by rw[aM (gZ q h)];exact q
section
variable{nb:aw->Prop}{H H':Hp}
theorem af.length:∀{ds:List PyData} {xs:List V},af nb H ds xs->xs.length=ds.length
 |[],_,h=>by unfold af at h;subst h;rfl
 |d::ds,_,h=>by unfold af at h;obtain⟨y,ys,rfl,_,h2⟩:=h;simp[af.length h2]
theorem af.get:∀{ds:List PyData} {xs:List V} {i:Nat} {d:PyData},af nb H ds xs->ds[i]?=some d->∃x,xs[i]?=some x/\ah nb H d x
 |[],_,_,_,_,e=>by simp at e
 |d::ds,_,0,_,h,e=>by unfold af at h;obtain⟨y,ys,rfl,h1,h2⟩:=h;simp at e;subst e;exact⟨y,rfl,h1⟩
 |d::ds,_,i+1,_,h,e=>by unfold af at h;obtain⟨y,ys,rfl,h1,h2⟩:=h;simpa using af.get (i:=i) h2 (by simpa using e)
theorem af.snoc{d:PyData}{x:V}(hd:ah nb H d x):∀{ds:List PyData} {xs:List V},af nb H ds xs->af nb H (ds++[d]) (xs++[x])
 |[],_,h=>by unfold af at h;subst h;unfold af;exact⟨x,[],rfl,hd,by unfold af;rfl⟩
 |e::ds,_,h=>by unfold af at h;obtain⟨y,ys,rfl,h1,h2⟩:=h;show af nb H (e::(ds++[d])) _;unfold af;exact⟨y,ys++[x],rfl,h1,af.snoc hd h2⟩
theorem af.append:∀{ds es:List PyData} {xs ys:List V},af nb H ds xs->af nb H es ys->af nb H (ds++es) (xs++ys)
 |[],_,_,_,h,h'=>by unfold af at h;subst h;exact h'
 |e::ds,es,_,zs,h,h'=>by unfold af at h;obtain⟨y,ys,rfl,h1,h2⟩:=h;show af nb H (e::(ds++es)) _;unfold af;exact⟨y,ys++zs,rfl,h1,af.append h2 h'⟩
theorem af.take:∀{ds:List PyData} {xs:List V} (n:Nat),af nb H ds xs->af nb H (ds.take n) (xs.take n)
 |_,_,0,_=>by simp only[List.take_zero];unfold af;rfl
 |[],_,n+1,h=>by unfold af at h;subst h;simp only[List.take_nil];unfold af;rfl
 |d::ds,_,n+1,h=>by unfold af at h;obtain⟨y,ys,rfl,h1,h2⟩:=h;simp only[List.take_succ_cons];unfold af;exact⟨y,_,rfl,h1,af.take n h2⟩
theorem af.drop:∀{ds:List PyData} {xs:List V} (n:Nat),af nb H ds xs->af nb H (ds.drop n) (xs.drop n)
 |_,_,0,h=>h
 |[],_,n+1,h=>by unfold af at h;subst h;simp only[List.drop_nil];unfold af;rfl
 |d::ds,_,n+1,h=>by unfold af at h;obtain⟨y,ys,rfl,h1,h2⟩:=h;simp only[List.drop_succ_cons];exact af.drop n h2
theorem af.nil:af nb H [] []:=by unfold af;rfl
theorem af.cons{d:PyData}{x:V}{ds:List PyData}{xs:List V}(h1:ah nb H d x)(h2:af nb H ds xs):af nb H (d::ds) (x::xs):=by unfold af;exact⟨x,xs,rfl,h1,h2⟩
theorem ah.int(i:Int):ah nb H (.int i) (.int i):=by unfold ah;rfl
theorem ah.aD:ah nb H .none .aD:=by unfold ah;rfl
theorem ah.bl(b:Bool):ah nb H (.bool b) (.bl b):=by unfold ah;rfl
theorem ah.lst{a:aw}{ds:List PyData}{xs:List V}(n:¬nb a)(h:H a=some (.lst xs))(hd:af nb H ds xs):ah nb H (.list ds) (.ref a):=by unfold ah;exact⟨a,xs,rfl,n,h,hd⟩
theorem ah.tup{a:aw}{ds:List PyData}{xs:List V}(n:¬nb a)(h:H a=some (.tup xs))(hd:af nb H ds xs):ah nb H (.tuple ds) (.ref a):=by unfold ah;exact⟨a,xs,rfl,n,h,hd⟩
theorem ah.dN{v:V}(h:ah nb H (.list ds) v):∃a xs,v= .ref a/\¬nb a/\H a=some (.lst xs)/\af nb H ds xs:=by unfold ah at h;exact h
theorem ah.ofT{v:V}(h:ah nb H (.tuple ds) v):∃a xs,v= .ref a/\¬nb a/\H a=some (.tup xs)/\af nb H ds xs:=by unfold ah at h;exact h
theorem ah.cz{v:V}{i:Int}(h:ah nb H (.int i) v):v= .int i:=by unfold ah at h;exact h
theorem ah.o6{v:V}(h:ah nb H .none v):v= .aD:=by unfold ah at h;exact h
end
def N5:Sp:=λvs H Q _=>∃i:Int,vs=[.int i]/\Q (.bl true) H
def yt(K:PySem.W.Frag):Sp:=λvs H Q _=>∃(a:aw) (ns:List Int),vs=[.ref a]/\aO K H a (ns.map V.int)/\ns.length<=63/\∀H',Q (.bl true) H'
def Bh(Q:VK):List V->Hp->Prop:=λxs H1=>xs.length<=sizeLine/\∀p,H1 p=none->Q (.ref p) (upd H1 p (.lst xs))
def jV(K:PySem.W.Frag):List V->Hp->VK->Prop:=λxs H Q=>∃p ys,xs=[.ref p]/\(aO K H p ys\/fY K H p ys)/\∀l,H l=none->Q (.ref l) (upd H l (.lst ys))
theorem o4:fV X (.type "list") (jV X.K):=Uv
def KH:R2:=λx y H Q=>y= .aD/\Q (.bl (decide (x= .aD))) H
def wN:R2:=λx y H Q=>y= .aD/\Q (.bl (!decide (x= .aD))) H
theorem yq:dR X (dy .Is) KH:=PK
theorem uC:dR X (dy .IsNot) wN:=O1
noncomputable def intOf:eu->Option Int
 | .Constant (.int i) _ _=>some i
 |_=>none
theorem Wy{i:Int}(h:intOf e=some i):∃k p,e= .Constant (.int i) k p:=by
 unfold intOf at h;split at h;·cases h;exact⟨_,_,rfl⟩
 .cases h
noncomputable def qu:List eu->Option (List Int)
 |[]=>some []
 |e::r=>(intOf e).bind λi=>(qu r).map (i:: ·)
def xM(is:List Int):TA:=λ_ H Q=>Q (is.map V.int) H
theorem p6:∀{es:List eu} {is:List Int},qu es=some is->PA X es (xM is):=by
  intro es;induction es with
  | nil =>
    intro is h;have e:is=[]:=by simpa[qu] using h.symm
    subst e;exact aj
  | cons e r ih =>
    intro is h;unfold qu at h;cases hi:intOf e with
    |none=>rw[hi] at h;cases h
    | some i =>
      rw[hi] at h;obtain⟨k,p,rfl⟩:=Wy hi;obtain⟨a,hj,rfl⟩:=jJ.mp (show(qu r).map (i:: ·)=some is from h);exact aa (te:=tC (.int i)) (t:=xM a) ai (ih hj)
theorem Xn{X:Cx}{i:Nat}{x:Str}{es:List eu}{is:List Int}{j p2 a:Pos}(hN:X.N.Nodup)(hi:X.N[i]?=some x)(hx:Loc X.env.scope x)(h:qu es=some is)(hf:X.fn x=true\/X.env.scope.names.lookup x=some .local):
  PS X (.Assign [.Name x j] (.List es p2) a) (fP (pS (xM is)) (gc i)):=bq hN hi hx (jw (p6 h)) rfl hf
namespace R
section
variable{σ:qb}{H:Hp}{Q:VK}{D:Ends}{ta tb te:TE}{K:PySem.W.Frag}
theorem seq{t u:TS}(h:t {D with nx:=u D} σ H):rN t u D σ H:=h
theorem asg(h:te σ H λx H1=>g x σ H1 D.nx):fP te g D σ H:=h
theorem nX{c:TT}{t u:TS}(h:c σ H λb H1=>if b=true then t D σ H1 else u D σ H1):ue c t u D σ H:=h
theorem ret(h:te σ H D.rt):oU te D σ H:=h
theorem drop(h:te σ H λ_ H1=>D.nx σ H1):o8 te D σ H:=h
theorem next(h:D.nx σ H):Cz D σ H:=h
theorem var{v:V}(e:σ[i]?=some (some v))(h:Q v H):bz i σ H Q:=⟨v,e,h⟩
theorem c{v:V}(h:Q v H):tC v σ H Q:=h
theorem op{r:R2}(h:ta σ H λx H1=>tb σ H1 λy H2=>r x y H2 Q):dG r ta tb σ H Q:=h
theorem test{q:Bool->Hp->Prop}(h:te σ H λx H'=>∃k,x= .bl k/\q k H'):BA te σ H q:=h
theorem bl{P:Bool->Prop}{b:Bool}(h:P b):∃k,V.bl b= .bl k/\P k:=⟨b,rfl,h⟩
theorem and{t u:TT}{q:Bool->Hp->Prop}(h:t σ H λc H1=>if c=true then u σ H1 q else q false H1):zL t u σ H q:=h
theorem cb{r:List V->Hp->VK->Prop}(h:t σ H λvs H1=>r vs H1 Q):eX r t σ H Q:=h
theorem call(h:t σ H λvs H1=>sp (vs++[]) H1 Q E0):fN sp [] E0 t σ H Q:=h
theorem nil{q:List V->Hp->Prop}(h:q [] H):bK σ H q:=h
theorem cons{t:TA}{q:List V->Hp->Prop}(h:ta σ H λx H1=>t σ H1 λxs H2=>q (x::xs) H2):aX ta t σ H q:=h
theorem lst{t:TA}(h:t σ H (Bh Q)):pS t σ H Q:=h
theorem sl{tl th:TO}(h:te σ H λx H1=>tl σ H1 λl H2=>th σ H2 λu H3=>r x l u H3 Q):qH r te tl th σ H Q:=h
theorem RB{q:Option Int->Hp->Prop}(h:q none H):C7 σ H q:=h
theorem part{q:Option Int->Hp->Prop}(h:te σ H λx H1=>∃i,x= .int i/\q (some i) H1):AM te σ H q:=h
theorem Nt{P:Int->Prop}{i:Int}(h:P i):∃j,V.int i= .int j/\P j:=⟨i,rfl,h⟩
theorem bm{r:V->List V->Hp->VK->Prop}(h:te σ H λx H1=>rW K T x H1/\t σ H1 λxs H2=>r x xs H2 Q):z4 K T r te t σ H Q:=h
theorem LJ{v:V}(h:q (σ.set i (some v)) H):gc i v σ H q:=h
theorem NK{to c:TE}{t:uS}{v:V}(h:to σ H λo H1=>c σ H1 λi H2=>t o i v H2 λH3=>q σ H3):nU to c t v σ H q:=h
theorem Vv{t:TG}{u:iB}{v:V}{r:List V}(h:t v σ H λL H'=>u r L H' q):zG t u (v::r) σ H q:=⟨v,r,rfl,h⟩
theorem Xq(h:q σ H):zW [] σ H q:=⟨rfl,h⟩
theorem P1{t:iB}(hq:fY K H a xs)(hl:xs.length=n)(h:t xs σ H q):wj K n t (.ref a) σ H q:=⟨a,xs,rfl,hq,hl,h⟩
theorem tF{q:Bool->Hp->Prop}(h:q true H):oB σ H q:=h
theorem iy{g:Int->Int->V}{i j:Int}(h:Q (g i j) H):L2.iy g (.int i) (.int j) H Q:=⟨i,j,rfl,rfl,h⟩
theorem rI{C:Int->Int->Prop}{g:Int->Int->V}{i j:Int}(hc:C i j)(h:Q (g i j) H):L2.rI C g (.int i) (.int j) H Q:=⟨i,j,rfl,rfl,hc,h⟩
theorem CQ{i j:Int}:decide (V.int i=V.int j)=decide (i=j):=by rw[pO];simp
theorem XT{i j:Int}(h:Q (.bl (decide (i=j))) H):Ay (.int i) (.int j) H Q:=⟨rfl,by rw[CQ];exact h⟩
theorem U0{i j:Int}(h:Q (.bl (decide (i≠j))) H):Cg (.int i) (.int j) H Q:=⟨rfl,by rw[CQ,<-decide_not];exact h⟩
theorem JR{i:Int}(h:Q (.bl true) H):wN (.int i) .aD H Q:=⟨rfl,by rw[decide_eq_false (λe=>V.noConfusion e)];exact h⟩
theorem Gj(h:Q (.bl false) H):wN .aD .aD H Q:=⟨rfl,by rw[decide_eq_true rfl];exact h⟩
theorem xg{p:aw}{i:Int}{v:V}(hp:H p=some (.lst xs))(e:bO xs i=some v)(h:Q v H):cM K (.ref p) (.int i) H Q:=⟨p,xs,i,v,rfl,rfl,aO.of hp,e,h⟩
theorem B5{p:aw}{o:HO}{i:Int}{v:V}(e:bO xs i=some v)(h:Q v (upd H p (.lst xs))):cM K (.ref p) (.int i) (upd H p (.lst xs)) Q:=⟨p,xs,i,v,rfl,rfl,aO.of aT,e,h⟩
theorem setM{p:aw}{k:Int}{v:V}{q:Hp->Prop}(hp:H p=some (.lst xs))(e:gU xs.length k=some j)(h:q (upd H p (.lst (xs.set j v)))):qF (.ref p) (.int k) v H q:=⟨p,xs,k,j,rfl,rfl,hp,e,h⟩
theorem VQ{p:aw}{k:Int}{v:V}{q:Hp->Prop}(e:gU xs.length k=some j)(h:q (upd H p (.lst (xs.set j v)))):qF (.ref p) (.int k) v (upd H p (.lst xs)) q:=
 ⟨p,xs,k,j,rfl,rfl,aT,e,by rw[A0];exact h⟩
theorem RW{p:aw}{P:List V->Prop}(hp:H p=some (.lst xs))(h:P xs):∃a ys,[V.ref p]=[.ref a]/\(aO K H a ys\/fY K H a ys)/\P ys:=⟨p,xs,rfl, .inl (aO.of hp),h⟩
theorem JS{p:aw}{lo hi:Option Int}(hp:aO K H p xs)(h:∀a,H a=none->Q (.ref a) (upd H a (.lst (kD xs lo hi)))):mQ K (.ref p) lo hi H Q:=⟨p,xs,rfl,hp,h⟩
theorem XZ{a:Int}{P:Int->Prop}(h:P a):∃i,[V.int a]=[.int i]/\P i:=⟨a,rfl,h⟩
theorem Qm(h:xs.length<=10000)(q:∀p H',bU H H'->H p=none->H' p=some (.lst xs)->Q (.ref p) H'):Bh Q xs H:=
 ⟨fX h ⋯,λp hp=>q p _ (cF hp) hp aT⟩
theorem gG{c A B:Prop}[Decidable c](h:c)(q:A):if c then A else B:=by rw[if_pos h];exact q
theorem Je{c A B:Prop}[Decidable c](h:¬c)(q:B):if c then A else B:=by rw[if_neg h];exact q
theorem dT{c:Prop}[Decidable c](h:c):decide c=true:=decide_eq_true h
theorem dF{c:Prop}[Decidable c](h:¬c):¬decide c=true:=by rw[decide_eq_false h];exact bT
theorem Ji{c:Prop}[Decidable c](h:¬c):(!decide c)=true:=by rw[decide_eq_false h];rfl
theorem J1{c:Prop}[Decidable c](h:c):¬(!decide c)=true:=by rw[decide_eq_true h];decide
theorem OD{R:It->Hp->Prop}(h:t σ H λvs H1=>∃i j:Int,vs=[.int i, .int j]/\(-(2^62)<=i/\i<2^62/\ -(2^62)<=j/\j<2^62)/\R (i8 i (j-i).toNat) H1):Es t σ H R:=h
theorem Me{P:Int->Int->Prop}{a b:Int}(h1: -(2^62)<=a/\a<2^62/\ -(2^62)<=b/\b<2^62)(h:P a b):∃i j:Int,[V.int a,V.int b]=[.int i, .int j]/\(-(2^62)<=i/\i<2^62/\ -(2^62)<=j/\j<2^62)/\P i j:=⟨a,b,rfl,h1,h⟩
theorem iL{tl:TE}{R:It->Hp->Prop}(h:tl σ H λx H1=>∃a,x= .ref a/\(∃xs,aO K H1 a xs)/\R (om K a) H1):mL K tl σ H R:=h
theorem wm{P:aw->Prop}{p:aw}(hp:aO K H p xs)(h:P p):∃a,V.ref p= .ref a/\(∃xs,aO K H a xs)/\P a:=⟨p,rfl,⟨xs,hp⟩,h⟩
theorem Si{P:TI}{tb:TS}(h:P σ H λJ H1=>∃W:Nat->Nat->qb->Hp->Prop,(∃m,W 0 m σ H1)/\∀i m σ H,W i m σ H->
 (J.stop i H/\D.nx σ H)\/(J.go i H/\∃N:qb->Hp->Prop,(∀L H',N L H'->∃m',m'<m/\W (i+1) m' L H')/\∀x H',J.oh i H x H'->g x σ H' λk H2=>tb {D with nx:=N,ct:=N,bk:=D.nx} k H2)):pJ P g tb D σ H:=h
theorem comp{P:TI}(h:P σ H λJ H1=>∀acc,H1 acc=none->pY J g tc te acc (λH'=>Q (.ref acc) H') (fT mp σ) (upd H1 acc (.lst []))):k8 P g tc te mp σ H Q:=h
end
theorem Gi{lo:Int}{c:Hp->Prop}(Pv:Nat->qb->Hp->Prop)(h0:Pv 0 σ H)
  (hs:∀i σ H,i<n->Pv i σ H->g (.int (lo+i)) σ H λk H2=>tc k H2 λb H3=>if b=true then te k H3 λv H4=>∃ys,H4 acc=some (.lst ys)/\ys.length<sizeLine/\Pv (i+1) k (upd H4 acc (.lst (ys++[v]))) else Pv (i+1) k H3)
  (hd:∀σ H,Pv n σ H->c H):pY (i8 lo n) g tc te acc c σ H:=by
 refine⟨λi m σ H=>m=n-i/\i<=n/\Pv i σ H,⟨n,by simp,eW _,h0⟩,?_⟩;rintro i m σ H ⟨rfl,hi,p⟩;by_cases hlt:i<n
 .refine .inr ⟨hlt,Pv (i+1),λL H' j=>⟨n-(i+1),∅,rfl,hlt,j⟩,λx H' y=>?_⟩;obtain⟨e,y⟩:=y;subst e y;exact hs i σ _ hlt p
 .have e:i=n:=∅
  subst e;exact .inl ⟨aF _,hd σ H p⟩
theorem Di{K:PySem.W.Frag}{c:Hp->Prop}(Pv:Nat->qb->Hp->Prop)(h0:Pv 0 σ H)(hl:∀i σ H,i<=xs.length->Pv i σ H->aO K H a xs)
  (hs:∀i x σ H,xs[i]?=some x->Pv i σ H->g x σ H λk H2=>tc k H2 λb H3=>if b=true then te k H3 λv H4=>∃ys,H4 acc=some (.lst ys)/\ys.length<sizeLine/\Pv (i+1) k (upd H4 acc (.lst (ys++[v]))) else Pv (i+1) k H3)
  (hd:∀σ H,Pv xs.length σ H->c H):pY (om K a) g tc te acc c σ H:=by
 refine⟨λi m σ H=>m=xs.length-i/\i<=xs.length/\Pv i σ H,⟨xs.length,by simp,eW _,h0⟩,?_⟩;rintro i m σ H ⟨rfl,hi,p⟩;have q:=hl i σ H hi p;by_cases hlt:i<xs.length
 .refine .inr ⟨⟨xs,xs[i],q,by simp[hlt]⟩,Pv (i+1),λL H' j=>⟨xs.length-(i+1),∅,rfl,hlt,j⟩,λx H' y=>?_⟩;obtain⟨e,y⟩:=y;subst e;exact hs i x σ _ (y xs q) p
 .have e:i=xs.length:=∅
  subst e;exact .inl ⟨⟨xs,q,aF _⟩,hd σ H p⟩
end R
@[reducible] noncomputable def xk(pr:Int×Int):PyData:= .tuple [.int pr.1, .int pr.2]
noncomputable def bS:Option Int->PyData
 |none=> .none
 |some i=> .int i
noncomputable def uO:Option Int->V
 |none=> .aD
 |some i=> .int i
noncomputable def kR(wd:List (Option Int))(pr:Int×Int):Int:=match wd[pr.1.toNat]? with
 |some (some x)=>pr.2*x
 |_=>0
noncomputable def bQ(prs:List (Int×Int))(wd:List (Option Int)):Int:=(prs.map (kR wd)).sum
theorem Gn{wd:List (Option Int)}(h:i<prs.length):bQ (prs.take (i+1)) wd=bQ (prs.take i) wd+kR wd prs[i]:=by
 unfold bQ;rw[B4,aQ h,e7,yR];simp
theorem WI{o:Option Int}{v:V}(h:ah nb H (bS o) v):v=uO o:=by
 cases o with
 |none=>exact h.o6
 |some i=>exact h.cz
theorem Jv{nb:aw->Prop}{H:Hp}:∀{wd:List (Option Int)} {xs:List V},af nb H (wd.map bS) xs->xs=wd.map uO
  |[],_,h=>by unfold df af at h;exact h
  | o :: wd, _, h => by
    rw[bw] at h;unfold af at h;obtain⟨y,ys,rfl,h1,h2⟩:=h;rw[bw,WI h1,Jv h2]
theorem NU{v:V}(h:ah nb H (xk pr) v):∃t,v= .ref t/\¬nb t/\H t=some (.tup [.int pr.1, .int pr.2]):=by
 obtain⟨t,xs,rfl,n,ht,hd⟩:=h.ofT;unfold af at hd;obtain⟨y,ys,rfl,h1,h2⟩:=hd;unfold af at h2;obtain⟨z,zs,rfl,h3,h4⟩:=h2;unfold af at h4;subst h4;rw[h1.cz,h3.cz] at ht;exact⟨t,rfl,n,ht⟩
def Dv:Sp:=λvs H Q _=>∃(nb:aw->Prop) (p:Int) (b g:V) (prs:List (Int×Int)) (wd:List (Option Int)),vs=[.int p,b,g]/\ah nb H (.list (prs.map xk)) b/\ah nb H (.list (wd.map bS)) g/\0<p/\
 (∀pr∈prs,0<=pr.1/\pr.1<wd.length/\Sm pr.2)/\(∀x,some x∈wd->Sm x)/\Q (.int (bQ prs wd%p)) H
theorem Vt(prs:List (Int×Int)):c5 (.list (prs.map xk))=true/\cm (prs.map xk)<=1/\ba (prs.map xk)=true:=by
 have h:cm (prs.map xk)<=1/\ba (prs.map xk)=true:=by
  induction prs with
  |nil=>simp[cm,ba]
  |cons a r ih=>simp[xk,cm,ej,ba,br,ih.2];have:=ih.1;omega
 refine⟨?_,h⟩;unfold c5;simp[br,ej,h.2];omega
theorem QH(wd:List (Option Int)):cm (wd.map bS)=0/\ba (wd.map bS)=true:=by
 induction wd with
 |nil=>simp[cm,ba]
 |cons a r ih=>cases a<;>simp[bS,cm,ej,ba,br,ih.2,ih.1]
def wF(r:Int):Prop:=∀d:Int,2<=d->d*d<=r->r%d≠0
noncomputable def uG:List Int:=[2,3,5,7,2,11,101,10007,65537,1000003,998244353,1000000007,2147483647,1000000000039,1000000000000000003,18446744073709551557,2305843009213693951,618970019642690137449562111,162259276829213363391578010288127,170141183460469231731687303715884105727,1000000000000000000000000000000000000003,9999999999999999999999999999999999999983]
def Au:Sp:=λvs H Q _=>∃n:Int,vs=[.int n]/\2<=n/\n<=10002/\∀(r:Int) (H':Hp),bU H H'->2<=r->r<=10100->wF r->Q (.int r) H'
def Tc(wd:List Int)(ld:List (Option Int)):Prop:=ld.length=wd.length/\∀(i:Nat) x,ld[i]?=some (some x)->wd[i]?=some x
theorem xq{nb:aw->Prop}{H:Hp}:∀is:List Int,af nb H (is.map bj) (is.map V.int)
 |[]=>af.nil
 |i::is=>af.cons (.int i) (xq is)
theorem ur{nb:aw->Prop}{H:Hp}:∀{is:List Int} {xs:List V},af nb H (is.map bj) xs->xs=is.map V.int
  |[],_,h=>by unfold df af at h;exact h
  | i :: is, _, h => by
    rw[bw] at h;unfold af at h;obtain⟨y,ys,rfl,h1,h2⟩:=h;rw[bw,h1.cz,ur h2]
noncomputable abbrev Bg:=Option (aw×aw)
def NB(B:Bg)(a:aw):Prop:=∀b l,B=some (b,l)->a≠b
def jB(B:Bg)(H:Hp):Prop:=∀b l,B=some (b,l)->dO H b l
def gy(nb:aw->Prop)(H:Hp):Prop:=∀a,nb a->H a≠none
structure Kp(S:aw->Prop)(F:List aw)(H H':Hp):Prop where
 own:∀a∈F,∀o,H a=some o->H' a=some o
 lst:∀a xs,¬S a->H a=some (.lst xs)->H' a=some (.lst xs)
 tup:∀a xs,¬S a->H a=some (.tup xs)->H' a=some (.tup xs)
 bD:∀a ps,¬S a->Rd H a (.dK ps)->Rd H' a (.dK ps)
theorem Kp.of{S:aw->Prop}{F:List aw}(h:∀a o,(¬S a\/a∈F)->H a=some o->H' a=some o):Kp S F H H':=
 ⟨λa ha o e=>h a o (.inr ha) e,λa xs n e=>h a _ (.inl n) e,λa xs n e=>h a _ (.inl n) e,λa ps n e=>e.elim (λe=> .inl (h a _ (.inl n) e)) λ⟨o,e⟩=> .inr ⟨o,h a _ (.inl n) e⟩⟩
mutual
theorem ah.kp{S:aw->Prop}{F:List aw}{H H':Hp}(m:Kp S F H H'):∀{d:PyData} {v:V},ah S H d v->ah S H' d v
 | .none,_,h=>by unfold ah at h⊢;exact h
 | .bool _,_,h=>by unfold ah at h⊢;exact h
 | .int _,_,h=>by unfold ah at h⊢;exact h
 | .str _,_,h=>by unfold ah at h⊢;exact h
 | .list ds,_,h=>by unfold ah at h⊢;obtain⟨a,xs,e,n,s,r⟩:=h;exact⟨a,xs,e,n,m.lst _ _ n s,af.kp m r⟩
 | .tuple ds,_,h=>by unfold ah at h⊢;obtain⟨a,xs,e,n,s,r⟩:=h;exact⟨a,xs,e,n,m.tup _ _ n s,af.kp m r⟩
 | .dict kvs,_,h=>by unfold ah at h⊢;obtain⟨a,xs,e,n,s,r⟩:=h;exact⟨a,xs,e,n,m.bD _ _ n s,aq.kp m r⟩
theorem af.kp{S:aw->Prop}{F:List aw}{H H':Hp}(m:Kp S F H H'):∀{ds:List PyData} {vs:List V},af S H ds vs->af S H' ds vs
 |[],_,h=>by unfold af at h⊢;exact h
 |d::ds,_,h=>by unfold af at h⊢;obtain⟨y,ys,e,h1,h2⟩:=h;exact⟨y,ys,e,ah.kp m h1,af.kp m h2⟩
theorem aq.kp{S:aw->Prop}{F:List aw}{H H':Hp}(m:Kp S F H H'):∀{ds:List (PyData×PyData)} {vs:List (Key×V)},aq S H ds vs->aq S H' ds vs
 |[],_,h=>by unfold aq at h⊢;exact h
 |d::ds,_,h=>by unfold aq at h⊢;obtain⟨y,ys,e,h1,h2⟩:=h;exact⟨y,ys,e,bX.kp m h1,aq.kp m h2⟩
theorem bX.kp{S:aw->Prop}{F:List aw}{H H':Hp}(m:Kp S F H H'):∀{d:PyData×PyData} {v:Key×V},bX S H d v->bX S H' d v
 |(k,d),_,h=>by unfold bX at h⊢;exact⟨h.1,ah.kp m h.2⟩
end
structure Cu where
 v:V
 F:List aw
 f:Bool
 P:(aw->Prop)->Hp->Prop
 keep:∀{S:aw->Prop} {H H':Hp},Kp S F H H'->P S H->P S H'
 av:∀{S S':aw->Prop} {H:Hp},(∀a,S' a->S a)->P S H->P S' H
 fresh:∀{S:aw->Prop} {H:Hp} {p:aw},H p=none->P S H->P (λa=>S a\/a=p) H
inductive HD where
 |d (x:PyData)|fz (o:Obj) (ps:List (Key×V))|th (c:Cu)
def fW(S:aw->Prop)(H:Hp):HD->V->Prop
 | .d x,v=>ah S H x v
 | .fz o ps,v=>∃a,v= .ref a/\¬S a/\H a=some (.gH o (.dK ps))
 | .th c,v=>v=c.v/\(∀a∈c.F,¬S a/\H a≠none)/\c.P S H
theorem fW.keep{S:aw->Prop}{H H':Hp}{x:HD}{v:V}(h:fW S H x v)(b:aP S H H'):fW S H' x v:=by
  cases x with
  |d x=>exact ah.keep b h
  |fz o ps=>obtain⟨a,e,n,q⟩:=h;exact⟨a,e,n,b _ _ n q⟩
  | th c =>
    obtain⟨e,n,q⟩:=h;refine⟨e,λa m=>⟨(n a m).1,?_⟩,c.keep (.of λa o m q=>b a o (m.elim id λm=>(n a m).1) q) q⟩;cases z:H a with
    |none=>exact absurd z (n a m).2
    |some o=>rw[b a o (n a m).1 z];exact dS _
theorem fW.av{S S':aw->Prop}{H:Hp}{x:HD}{v:V}(h:fW S H x v)(b:∀a,S' a->S a):fW S' H x v:=by
 cases x with
 |d x=>exact ah.av b h
 |fz o ps=>obtain⟨a,e,n,q⟩:=h;exact⟨a,e,λz=>n (b a z),q⟩
 |th c=>obtain⟨e,n,q⟩:=h;exact⟨e,λa m=>⟨λz=>(n a m).1 (b a z),(n a m).2⟩,c.av b q⟩
theorem fW.fresh{S:aw->Prop}{H:Hp}{x:HD}{v:V}{p:aw}(h:fW S H x v)(hp:H p=none):fW (λa=>S a\/a=p) H x v:=by
 cases x with
 |d x=>exact ah.fresh hp h
 |fz o ps=>obtain⟨a,e,n,q⟩:=h;exact⟨a,e,λz=>z.elim n (gZ q hp),q⟩
 |th c=>obtain⟨e,n,q⟩:=h;exact⟨e,λa m=>⟨λz=>z.elim (n a m).1 λy=>(n a m).2 (by rw[y];exact hp),(n a m).2⟩,c.fresh hp q⟩
structure Gx where
 B:Bg
 H0:Hp
 A:aw->Prop
 hold:List (Bool×HD×V):=[]
inductive Sl where
 |no|d (f:Bool) (d:PyData)|own (a:aw) (f:Bool) (ds:List PyData)|ao|raw (v:V)|bD (a:aw) (f:Bool) (ks:List (Int×PyData))|cu (c:Cu)
noncomputable def Sl.adr:Sl->List aw
 | .own a _ _=>[a]
 | .bD a _ _=>[a]
 | .cu c=>c.F
 |_=>[]
@[reducible] noncomputable def iE(p:Int×PyData):PyData×PyData:=(.int p.1,p.2)
noncomputable abbrev Rh:=List Sl
def Gx.S(G:Gx)(nb:aw->Prop)(f:Bool):aw->Prop:=λa=>nb a\/G.A a\/¬NB G.B a\/(f=true/\G.H0 a≠none)
def nG(G:Gx)(nb:aw->Prop)(H:Hp)(x:Option V):Sl->Prop
 | .no=>True
 | .d f d=>∃v,x=some v/\ah (G.S nb f) H d v
 | .own a f ds=>x=some (.ref a)/\nb a/\NB G.B a/\∃xs,H a=some (.lst xs)/\af (G.S nb f) H ds xs
 | .ao=>∃b l,G.B=some (b,l)/\x=some (.ref b)
 | .raw v=>x=some v
 | .bD a f ks=>x=some (.ref a)/\nb a/\NB G.B a/\∃ps,H a=some (.dK ps)/\aq (G.S nb f) H (ks.map iE) ps
 | .cu c=>x=some c.v/\(∀a∈c.F,nb a/\NB G.B a)/\c.P (G.S nb c.f) H
structure Wd(G:Gx)(nb:aw->Prop)(ρ:Rh)(σ:qb)(H:Hp):Prop where
 ao:jB G.B H
 live:gy nb H
 old:∀a o,NB G.B a->G.H0 a=some o->H a=some o
 cP:∀a,nb a->NB G.B a->G.H0 a=none
 gA:gy G.A G.H0
 len:σ.length=ρ.length
 gB:jB G.B G.H0
 ez:∀h∈G.hold,fW (G.S nb h.1) H h.2.1 h.2.2
 ok:∀(i:Nat) (s:Sl),ρ[i]?=some s->∃x,σ[i]?=some x/\nG G nb H x s
 apart:∀(i j:Nat) a f as c g cs,i≠j->ρ[i]?=some (.own a f as)->ρ[j]?=some (.own c g cs)->a≠c
 fQ:∀(i j:Nat) a f as c g cs,i≠j->ρ[i]?=some (.bD a f as)->ρ[j]?=some (.bD c g cs)->a≠c
 dw:∀(i j:Nat) c s,i≠j->ρ[i]?=some (.cu c)->ρ[j]?=some s->∀a∈c.F,a∉s.adr
def Step(B:Bg)(H H':Hp):Prop:=(∀a o,NB B a->H a=some o->H' a=some o)/\jB B H'
section
variable{G:Gx}{B:Bg}{nb:aw->Prop}{ρ:Rh}{σ:qb}{H H1 H2 H':Hp}{f g:Bool}{d:PyData}{ds:List PyData}{v:V}{xs:List V}{a p:aw}
theorem Step.refl(h:jB B H):Step B H H:=⟨λ_ _ _ e=>e,h⟩
theorem Step.trans(x:Step B H H1)(y:Step B H1 H2):Step B H H2:=⟨λa o n e=>y.1 a o n (x.1 a o n e),y.2⟩
theorem jB.same(h:jB B H)(s:bU H H'):jB B H':=λb l e=>(h b l e).same s
theorem Step.same(h:jB B H)(s:bU H H'):Step B H H':=⟨λa o _ e=>s a o e,h.same s⟩
theorem Step.but(s:Step B H H')(h:∀a,¬NB B a->ay a):aP ay H H':=λa o n e=>s.1 a o (iS λz=>n (h a z)) e
theorem Step.c9(s:Step G.B H H'):aP (G.S nb f) H H':=s.but λa h=> .inr (.inr (.inl h))
theorem bM(h:g=true->f=true){ay:aw->Prop}(hn:∀a,nb a->ay a):∀a,G.S nb g a->G.S ay f a:=by
 intro a z;rcases z with z|z|z|⟨z,q⟩
 .exact .inl (hn a z)
 .exact .inr (.inl z)
 .exact .inr (.inr (.inl z))
 .exact .inr (.inr (.inr ⟨h z,q⟩))
theorem NB.lY(h:jB B H)(n:¬NB B a):H a≠none:=by
 intro e;apply n;intro b l hb z;subst z;obtain⟨_,_,_,_,_,h1,_⟩:=h _ _ hb;rw[h1] at e;cases e
theorem Wd.fL(W:Wd G nb ρ σ H):gy (G.S nb f) H:=by
 intro a z;rcases z with z|z|z|⟨_,z⟩
 .exact W.live a z
 .by_cases n:NB G.B a
  .cases e:G.H0 a with
   |none=>exact absurd e (W.gA a z)
   |some o=>rw[W.old a o n e];exact dS _
  .exact NB.lY W.ao n
 .exact NB.lY W.ao z
 .by_cases n:NB G.B a
  .cases e:G.H0 a with
   |none=>exact absurd e z
   |some o=>rw[W.old a o n e];exact dS _
  .exact NB.lY W.ao n
theorem Wd.fresh(W:Wd G nb ρ σ H)(hp:H p=none):¬G.S nb f p:=λz=>W.fL p z hp
theorem nG.step{x:Option V}{s:Sl}(st:Step G.B H H')(h:nG G nb H x s):nG G nb H' x s:=by
  cases s with
  |no=>trivial
  |d f d=>obtain⟨v,e,h⟩:=h;exact⟨v,e,h.keep st.c9⟩
  |own a f ds=>obtain⟨e,n,q,xs,hx,hd⟩:=h;exact⟨e,n,q,xs,st.1 _ _ q hx,hd.keep st.c9⟩
  |ao=>exact h
  |raw v=>exact h
  |bD a f ks=>obtain⟨e,n,q,xs,hx,hd⟩:=h;exact⟨e,n,q,xs,st.1 _ _ q hx,hd.keep st.c9⟩
  | cu c =>
    obtain⟨e,n,p⟩:=h;refine⟨e,n,c.keep (.of λa o ha e=>st.1 a o ?_ e) p⟩;rcases ha with ha|ha
    · exact iS λz=>ha (.inr (.inr (.inl z)))
    · exact(n a ha).2
theorem FQ(n:NB B a)(st:Step B H H')(h:H a≠none):H' a≠none:=by
 cases e:H a with
 |none=>exact absurd e h
 |some o=>rw[st.1 a o n e];exact dS _
theorem Wd.step(W:Wd G nb ρ σ H)(st:Step G.B H H'):Wd G nb ρ σ H' where
 ao:=st.2
 live:=λa n=>by
  by_cases q:NB G.B a;·exact FQ q st (W.live a n)
  .exact NB.lY st.2 q
 old:=λa o n e=>st.1 a o n (W.old a o n e)
 cP:=W.cP
 gA:=W.gA
 len:=W.len
 gB:=W.gB
 ez:=λh m=>(W.ez h m).keep st.c9
 ok:=λi s e=>by
  obtain⟨x,e1,h⟩:=W.ok i s e;exact⟨x,e1,h.step st⟩
 apart:=W.apart
 fQ:=W.fQ
 dw:=W.dw
theorem Wd.set{i:Nat}{s:Sl}{x:Option V}(W:Wd G nb ρ σ H)(h:nG G nb H x s)(hs:∀a f ds,s= .own a f ds->∀j c g cs,j≠i->ρ[j]?=some (.own c g cs)->a≠c)(hd:∀a f ds,s= .bD a f ds->∀j c g cs,j≠i->ρ[j]?=some (.bD c g cs)->a≠c:=by intro _ _ _ z;cases z)(d:∀a∈s.adr,∀j t,j≠i->ρ[j]?=some t->(∃c,s= .cu c)\/(∃c,t= .cu c)->a∉t.adr:=by intro _ z;cases z):Wd G nb (ρ.set i s) (σ.set i x) H where
 ao:=W.ao
 live:=W.live
 old:=W.old
 cP:=W.cP
 gA:=W.gA
 len:=by rw[iQ,iQ];exact W.len
 gB:=W.gB
 ez:=W.ez
 ok:=λj t e=>by
  by_cases hij:i=j
  .subst hij;have hl:i<ρ.length:=by have:=(bH.mp e).1;rwa[iQ] at this
   rw[cD hl] at e;cases e;exact⟨x,cD (by rw[W.len];exact hl),h⟩
  .rw[bu hij] at e⊢;exact W.ok j t e
 apart:=λj k a f as c g cs b e1 e2=>by
  by_cases hj:i=j
  .subst hj;have hl:i<ρ.length:=by have:=(bH.mp e1).1;rwa[iQ] at this
   rw[cD hl] at e1;cases e1;rw[bu b] at e2;exact hs a f as rfl k c g cs (bJ b) e2
  .by_cases hk:i=k
   .subst hk;have hl:i<ρ.length:=by have:=(bH.mp e2).1;rwa[iQ] at this
    rw[cD hl] at e2;cases e2;rw[bu hj] at e1;exact(hs c g cs rfl j a f as b e1).symm
   .rw[bu hj] at e1;rw[bu hk] at e2;exact W.apart j k a f as c g cs b e1 e2
 fQ:=λj k a f as c g cs b e1 e2=>by
  by_cases hj:i=j
  .subst hj;have hl:i<ρ.length:=by have:=(bH.mp e1).1;rwa[iQ] at this
   rw[cD hl] at e1;cases e1;rw[bu b] at e2;exact hd a f as rfl k c g cs (bJ b) e2
  .by_cases hk:i=k
   .subst hk;have hl:i<ρ.length:=by have:=(bH.mp e2).1;rwa[iQ] at this
    rw[cD hl] at e2;cases e2;rw[bu hj] at e1;exact(hd c g cs rfl j a f as b e1).symm
   .rw[bu hj] at e1;rw[bu hk] at e2;exact W.fQ j k a f as c g cs b e1 e2
 dw:=λj k c t b e1 e2 a ha=>by
  by_cases hj:i=j
  .subst hj;have hl:i<ρ.length:=by have:=(bH.mp e1).1;rwa[iQ] at this
   rw[cD hl] at e1;cases e1;rw[bu b] at e2;exact d a ha k t (bJ b) e2 (.inl ⟨c,rfl⟩)
  .by_cases hk:i=k
   .subst hk;have hl:i<ρ.length:=by have:=(bH.mp e2).1;rwa[iQ] at this
    rw[cD hl] at e2;cases e2;rw[bu hj] at e1;exact λz=>d a z j (.cu c) b e1 (.inr ⟨c,rfl⟩) ha
   .rw[bu hj] at e1;rw[bu hk] at e2;exact W.dw j k c t b e1 e2 a ha
theorem Wd.n5(W:Wd G nb ρ σ H)(h:ah (G.S nb f) H d v):Wd G nb (ρ.set i (.d f d)) (σ.set i (some v)) H:=W.set ⟨v,rfl,h⟩ λ_ _ _ e=>by cases e
inductive Wk:Rh->Rh->Prop
 |nil:Wk [] []
 |no {s:Sl} {r r':Rh} (h:Wk r r'):Wk (.no::r) (s::r')
 |eq {s:Sl} {r r':Rh} (h:Wk r r'):Wk (s::r) (s::r')
theorem Wk.at:∀{r r':Rh} {i:Nat} {s:Sl},Wk r r'->r[i]?=some s->s= .no/\(∃t,r'[i]?=some t)\/r'[i]?=some s
 |_,_,_,_, .nil,e=>by simp at e
 |_,_,0,_, .no h,e=>by simp at e;subst e;exact .inl ⟨rfl,_,rfl⟩
 |_,_,0,_, .eq h,e=>by simp at e;subst e;exact .inr rfl
 |_,_,i+1,_, .no h,e=>by simpa using Wk.at (i:=i) h (by simpa using e)
 |_,_,i+1,_, .eq h,e=>by simpa using Wk.at (i:=i) h (by simpa using e)
theorem Wk.len{r r':Rh}(h:Wk r r'):r.length=r'.length:=by
 induction h with
 |nil=>rfl
 |no _ ih=>simp[ih]
 |eq _ ih=>simp[ih]
theorem Wd.wk{C:Rh}(W:Wd G nb C σ H)(h:Wk ρ C):Wd G nb ρ σ H where
 ao:=W.ao
 live:=W.live
 old:=W.old
 cP:=W.cP
 gA:=W.gA
 len:=by rw[h.len];exact W.len
 gB:=W.gB
 ez:=W.ez
 ok:=λi s e=>by
  rcases h.at e with ⟨rfl,t,e'⟩|e'
  .obtain⟨x,e1,_⟩:=W.ok i t e';exact⟨x,e1,trivial⟩
  .exact W.ok i s e'
 apart:=λi j a f as c g cs hij e1 e2=>by
  rcases h.at e1 with ⟨z,_⟩|jU
  .cases z
  rcases h.at e2 with ⟨z,_⟩|e2'
  .cases z
  exact W.apart i j a f as c g cs hij jU e2'
 fQ:=λi j a f as c g cs hij e1 e2=>by
  rcases h.at e1 with ⟨z,_⟩|jU
  .cases z
  rcases h.at e2 with ⟨z,_⟩|e2'
  .cases z
  exact W.fQ i j a f as c g cs hij jU e2'
 dw:=λi j c s hij e1 e2 a ha=>by
  rcases h.at e1 with ⟨z,_⟩|jU
  .cases z
  rcases h.at e2 with ⟨z,_⟩|e2'
  .subst z;exact λz=>by cases z
  exact W.dw i j c s hij jU e2' a ha
theorem Wd.more(W:Wd G nb ρ σ H)(hp:H p=none){o:HO}:Wd G (λa=>nb a\/a=p) ρ σ (upd H p o):=by
 have N:bU H (upd H p o):=cF hp;have hN:NB G.B p:=λb l e z=>by
  subst z;obtain⟨_,_,_,_,_,h1,_⟩:=W.ao _ _ e;rw[h1] at hp;cases hp
 have W':=W.step (Step.same W.ao N);have hA:∀f a,G.S (λa=>nb a\/a=p) f a->(G.S nb f a\/a=p):=λf a z=>by
  rcases z with (z|z)|z|z|z
  .exact .inl (.inl z)
  .exact .inr z
  .exact .inl (.inr (.inl z))
  .exact .inl (.inr (.inr (.inl z)))
  .exact .inl (.inr (.inr (.inr z)))
 refine⟨W'.ao,λa n=>?_,W'.old,λa n q=>?_,W.gA,W.len,W.gB,λh m=>(((W.ez h m).fresh hp).av (hA h.1)).keep (aP.of N),λi s e=>?_,W.apart,W.fQ,W.dw⟩
 .rcases n with n|n
  .exact W'.live a n
  .subst n;rw[aT];exact dS _
 .rcases n with n|n
  .exact W.cP a n q
  .subst n;cases e:G.H0 a with
   |none=>rfl
   |some o=>rw[W.old a o q e] at hp;cases hp
 .obtain⟨x,e1,h⟩:=W.ok i s e;refine⟨x,e1,?_⟩;cases s with
  |no=>trivial
  |d f d=>obtain⟨v,e,h⟩:=h;exact⟨v,e,((h.fresh hp).av (hA f)).keep (aP.of N)⟩
  |own a f ds=>obtain⟨e,n,q,xs,hx,hd⟩:=h;exact⟨e, .inl n,q,xs,N _ _ hx,((hd.fresh hp).av (hA f)).keep (aP.of N)⟩
  |ao=>exact h
  |raw v=>exact h
  |bD a f ds=>obtain⟨e,n,q,xs,hx,hd⟩:=h;exact⟨e, .inl n,q,xs,N _ _ hx,((hd.fresh hp).av (hA f)).keep (aP.of N)⟩
  |cu c=>obtain⟨e,n,q⟩:=h;exact⟨e,λa ha=>⟨.inl (n a ha).1,(n a ha).2⟩,c.keep (.of λa o _ e=>N a o e) (c.av (hA c.f) (c.fresh hp q))⟩
theorem Wd.write(W:Wd G nb ρ σ H){o:HO}(hp:nb p)(hN:NB G.B p)(U:∀(i:Nat) a f ds,ρ[i]?=some (.own a f ds)->a≠p)(g:∀(i:Nat) a f ds,ρ[i]?=some (.bD a f ds)->a≠p)(C:∀(i:Nat) c,ρ[i]?=some (.cu c)->p∉c.F):Wd G nb ρ σ (upd H p o):=by
  have hl:∀b l,G.B=some (b,l)->p≠l:=λb l e z=>by
    obtain⟨_,_,_,_,_,_,h2,_⟩:=W.gB b l e;rw[<-z,W.cP p hp hN] at h2;cases h2
  have M:jB G.B (upd H p o):=λb l e=>(W.ao b l e).put2 ⟨hN b l e,hl b l e⟩;have bt:∀f,aP (G.S nb f) H (upd H p o):=λf=>aP.set (.inl hp);refine⟨M,λa n=>?_,λa o' n e=>?_,W.cP,W.gA,W.len,W.gB,λh m=>(W.ez h m).keep (bt h.1),λi s e=>?_,W.apart,W.fQ,W.dw⟩
  · by_cases z:a=p
    · subst z;rw[aT];exact dS _
    · rw[aM z];exact W.live a n
  · have z:a≠p:=λz=>by subst z;rw[W.cP a hp n] at e;cases e
    rw[aM z];exact W.old a o' n e
  · obtain⟨x,e1,h⟩:=W.ok i s e
    refine⟨x,e1,?_⟩;cases s with
    |no=>trivial
    |d f d=>obtain⟨v,e,h⟩:=h;exact⟨v,e,h.keep (bt f)⟩
    |own a f ds=>obtain⟨e',n,q,xs,hx,hd⟩:=h;exact⟨e',n,q,xs,by rw[aM (U i a f ds e)];exact hx,hd.keep (bt f)⟩
    |ao=>exact h
    |raw v=>exact h
    |bD a f ds=>obtain⟨e',n,q,xs,hx,hd⟩:=h;exact⟨e',n,q,xs,by rw[aM (g i a f ds e)];exact hx,hd.keep (bt f)⟩
    | cu c =>
      obtain⟨e',n,q⟩:=h;refine⟨e',n,c.keep (.of λa o' ha j=>?_) q⟩;rw[aM];· exact j
      · rintro rfl
        rcases ha with ha|ha
        · exact ha (.inl hp)
        · exact C i c e ha
end
abbrev Pd:=Bool->PyData->Prop
def Ev(G:Gx)(ρ:Rh)(te:TE)(Φ:Pd):Prop:=∀nb σ H (Q:VK),Wd G nb ρ σ H->(∀f v H' d,Φ f d->Step G.B H H'->ah (G.S nb f) H' d v->Q v H')->te σ H Q
def au(G:Gx)(ρ:Rh)(te:TE)(Φ:Bool->List PyData->Prop):Prop:=∀nb σ H (Q:VK),Wd G nb ρ σ H->
 (∀f a xs H' ds,Φ f ds->Step G.B H H'->H a=none->H' a=some (.lst xs)->af (λx=>G.S nb f x\/x=a) H' ds xs->Q (.ref a) H')->te σ H Q
def Tv(G:Gx)(ρ:Rh)(c:TT)(Φ:Bool->Prop):Prop:=∀nb σ H (Q:Bool->Hp->Prop),Wd G nb ρ σ H->(∀b H',Φ b->Step G.B H H'->Q b H')->c σ H Q
def Ov(G:Gx)(ρ:Rh)(to:TO)(Φ:Option Int->Prop):Prop:=∀nb σ H (Q:Option Int->Hp->Prop),Wd G nb ρ σ H->(∀o H',Φ o->Step G.B H H'->Q o H')->to σ H Q
noncomputable abbrev Fd:=Bool×PyData
def jG(G:Gx)(nb:aw->Prop)(H:Hp):List Fd->List V->Prop
 |[],vs=>vs=[]
 |e::es,vs=>∃v ws,vs=v::ws/\ah (G.S nb e.1) H e.2 v/\jG G nb H es ws
def Av(G:Gx)(ρ:Rh)(ta:TA)(Φ:List Fd->Prop):Prop:=∀nb σ H (Q:List V->Hp->Prop),Wd G nb ρ σ H->(∀es vs H',Φ es->Step G.B H H'->jG G nb H' es vs->Q vs H')->ta σ H Q
def Gv(G:Gx)(ρ:Rh)(g:TG)(f:Bool)(d:PyData)(Φ:Rh->Prop):Prop:=∀nb σ H v (Q:qb->Hp->Prop),Wd G nb ρ σ H->ah (G.S nb f) H d v->(∀L C,Φ C->Wd G nb C L H->Q L H)->g v σ H Q
def nD(G:Gx)(ρ:Rh)(g:iB)(f:Bool)(ds:List PyData)(Φ:Rh->Prop):Prop:=∀nb σ H vs (Q:qb->Hp->Prop),Wd G nb ρ σ H->af (G.S nb f) H ds vs->(∀L C,Φ C->Wd G nb C L H->Q L H)->g vs σ H Q
structure DE where
 nx:Rh->Prop
 rt:Pd
 bk:Rh->Prop:=λ_=>False
 ct:Rh->Prop:=λ_=>False
 rw:(aw->Prop)->Rh->V->Hp->Prop:=λ_ _ _ _=>False
structure yQ(G:Gx)(E:DE)(D:Ends):Prop where
 nx:∀nb ρ σ H,E.nx ρ->Wd G nb ρ σ H->D.nx σ H
 bk:∀nb ρ σ H,E.bk ρ->Wd G nb ρ σ H->D.bk σ H
 ct:∀nb ρ σ H,E.ct ρ->Wd G nb ρ σ H->D.ct σ H
 rt:∀nb ρ σ f v H d,E.rt f d->Wd G nb ρ σ H->ah (G.S (λ_=>False) f) H d v->D.rt v H
 rw:∀nb ρ σ v H,E.rw nb ρ v H->Wd G nb ρ σ H->D.rt v H
def Sv(G:Gx)(ρ:Rh)(ts:TS)(E:DE):Prop:=∀nb σ H D,Wd G nb ρ σ H->yQ G E D->ts D σ H
noncomputable def fU:PyData->Bool
 | .none=>true| .bool _=>true| .int _=>true| .str _=>true|_=>false
noncomputable def toV:PyData->V
 | .bool b=> .bl b| .int i=> .int i| .str x=> .str x|_=> .aD
section
variable{nb ay:aw->Prop}{H H':Hp}{d e:PyData}{v:V}
theorem ah.sc(h:fU d=true):ah nb H d (toV d):=by
 cases d<;>first|(cases h;done)|(unfold ah;rfl)
theorem ah.Fy(h:fU d=true)(q:ah nb H d v):v=toV d:=by
 cases d<;>first|(cases h;done)|(unfold ah at q;exact q)
theorem ah.fF(h:fU d=true)(q:ah nb H d v):ah ay H' d v:=by
 rw[q.Fy h];exact .sc h
theorem af.fF:∀{ds:List PyData} {xs:List V},ds.all fU=true->af nb H ds xs->af ay H' ds xs
  |[],_,_,q=>by unfold af at q⊢;exact q
  | d :: ds, _, h, q => by
    rw[oW,eZ] at h;unfold af at q⊢;obtain⟨y,ys,e,h1,h2⟩:=q;exact⟨y,ys,e,h1.fF h.1,af.fF h.2 h2⟩
end
section
variable{G:Gx}{ρ:Rh}{Φ Ψ:Pd}{ta tb te:TE}{t:TA}{i:Nat}{f g:Bool}{d e:PyData}{ds es:List PyData}{K:PySem.W.Frag}
theorem Ev.mono(h:Ev G ρ te Ψ)(q:∀f d,Ψ f d->Φ f d):Ev G ρ te Φ:=λnb σ H Q W z=>h nb σ H Q W λf v H' d p=>z f v H' d (q f d p)
theorem au.ev(h:au G ρ te λf ds=>Φ f (.list ds)):Ev G ρ te Φ:=λnb σ H Q W z=>h nb σ H Q W λf a xs H' ds p st n e hd=>
 z f _ H' _ p st (.lst (W.fresh n) e (hd.av λ_ x=> .inl x))
namespace Ev
theorem var(e:ρ[i]?=some (.d f d))(h:Φ f d):Ev G ρ (bz i) Φ:=λnb σ H Q W z=>by
 obtain⟨x,e1,v,rfl,hd⟩:=W.ok i _ e;exact⟨v,e1,z f v H d h (.refl W.ao) hd⟩
theorem int{n:Int}(h:Φ true (.int n)):Ev G ρ (tC (.int n)) Φ:=λnb σ H Q W z=>z true _ H _ h (.refl W.ao) (.int n)
theorem bl{b:Bool}(h:Φ true (.bool b)):Ev G ρ (tC (.bl b)) Φ:=λnb σ H Q W z=>z true _ H _ h (.refl W.ao) (.bl b)
theorem aD(h:Φ true .none):Ev G ρ (tC .aD) Φ:=λnb σ H Q W z=>z true _ H _ h (.refl W.ao) .aD
theorem jK{r:R2}(h:Ev G ρ ta λf x=>Ev G ρ tb λg y=>∀nb σ H u v (Q:VK),Wd G nb ρ σ H->ah (G.S nb f) H x u->ah (G.S nb g) H y v->(∀f w H' d,Φ f d->Step G.B H H'->ah (G.S nb f) H' d w->Q w H')->r u v H Q):Ev G ρ (dG r ta tb) Φ:=λnb σ H Q W z=>
 h nb σ H _ W λf a H1 d1 j s1 J=>j nb σ H1 _ (W.step s1) λg n H2 d2 p2 s2 M=>p2 nb σ H2 _ _ _ ((W.step s1).step s2) (J.keep s2.c9) M λf w H' d p st q=>z f w H' d p (s1.trans (s2.trans st)) q
theorem rI{C:Int->Int->Prop}{k:Int->Int->Int}(h:Ev G ρ ta λ_ x=>∃i,x= .int i/\Ev G ρ tb λ_ y=>∃j,y= .int j/\C i j/\Φ true (.int (k i j))):Ev G ρ (dG (L2.rI C λi j=> .int (k i j)) ta tb) Φ:=
 jK (h.mono λf x ⟨i,ex,q⟩=>q.mono λg y ⟨j,m,hc,p⟩ nb σ H u v Q W hu hv z=>by
  subst ex m;exact⟨i,j,hu.cz,hv.cz,hc,z true _ H _ p (.refl W.ao) (.int _)⟩)
theorem iy{k:Int->Int->Int}(h:Ev G ρ ta λ_ x=>∃i,x= .int i/\Ev G ρ tb λ_ y=>∃j,y= .int j/\Φ true (.int (k i j))):Ev G ρ (dG (L2.iy λi j=> .int (k i j)) ta tb) Φ:=
 jK (h.mono λf x ⟨i,ex,q⟩=>q.mono λg y ⟨j,m,p⟩ nb σ H u v Q W hu hv z=>by
  subst ex m;exact⟨i,j,hu.cz,hv.cz,z true _ H _ p (.refl W.ao) (.int _)⟩)
theorem Rp{k:Int->Int->Bool}(h:Ev G ρ ta λ_ x=>∃i,x= .int i/\Ev G ρ tb λ_ y=>∃j,y= .int j/\Φ true (.bool (k i j))):Ev G ρ (dG (L2.iy λi j=> .bl (k i j)) ta tb) Φ:=
 jK (h.mono λf x ⟨i,ex,q⟩=>q.mono λg y ⟨j,m,p⟩ nb σ H u v Q W hu hv z=>by
  subst ex m;exact⟨i,j,hu.cz,hv.cz,z true _ H _ p (.refl W.ao) (.bl _)⟩)
theorem un{r:V->Hp->VK->Prop}(h:Ev G ρ ta λf x=>∀nb σ H u (Q:VK),Wd G nb ρ σ H->ah (G.S nb f) H x u->(∀f w H' d,Φ f d->Step G.B H H'->ah (G.S nb f) H' d w->Q w H')->r u H Q):Ev G ρ (zj r ta) Φ:=λnb σ H Q W z=>
 h nb σ H _ W λf a H1 d1 j s1 J=>j nb σ H1 _ _ (W.step s1) J λf w H' d p st q=>z f w H' d p (s1.trans st) q
theorem rU{k:Int->Int}(h:Ev G ρ ta λ_ x=>∃i,x= .int i/\Φ true (.int (k i))):Ev G ρ (zj (L2.rU λi=> .int (k i)) ta) Φ:=
 un (h.mono λf x ⟨i,ex,p⟩ nb σ H u Q W hu z=>by subst ex;exact⟨i,hu.cz,z true _ H _ p (.refl W.ao) (.int _)⟩)
end Ev
inductive gE:PyData->PyData->Bool->Prop
 |ii (i j:Int):gE (.int i) (.int j) (decide (i=j))
 |ni (i:Int):gE .none (.int i) false
 |Yt (i:Int):gE (.int i) .none false
 |nn:gE .none .none true
 |bb (a b:Bool):gE (.bool a) (.bool b) (a==b)
 |ss (x:Str):gE (.str x) (.str x) true
 |sd (x y:Str):gE (.str x) (.str y) (decide (x=y))
theorem gE.v{nb ay:aw->Prop}{H:Hp}{x y:PyData}{b:Bool}{u v:V}(h:gE x y b)(hu:ah nb H x u)(hv:ah ay H y v):DP u v=true/\decide (u=v)=b:=by
 cases h<;>(unfold ah at hu hv;subst hu hv;refine⟨rfl,?_⟩);·exact R.CQ
 .rfl
 .rfl
 .rfl
 .rename_i a b;cases a<;>cases b<;>rfl
 .exact decide_eq_true rfl
 .rename_i x y
  by_cases c:x=y;·subst c;rw[decide_eq_true rfl,decide_eq_true rfl]
  .rw[decide_eq_false c,decide_eq_false (λz=>c (V.str.inj z))]
theorem gE.self{d:PyData}(h:fU d=true):gE d d true:=by
 cases d<;>first|(cases h;done)|skip
 .exact .nn
 .rename_i b;have:=gE.bb b b;rwa[beq_self_eq_true] at this
 .rename_i i;have:=gE.ii i i;rwa[decide_eq_true rfl] at this
 .exact .ss _
namespace Ev
theorem eq(h:Ev G ρ ta λ_ x=>Ev G ρ tb λ_ y=>∃b,gE x y b/\Φ true (.bool b)):Ev G ρ (dG Ay ta tb) Φ:=
 jK (h.mono λf x q=>q.mono λg y ⟨b,e,p⟩ nb σ H u v Q W hu hv z=>by
  obtain⟨h1,h2⟩:=e.v hu hv;exact⟨h1,by rw[h2];exact z true _ H _ p (.refl W.ao) (.bl _)⟩)
theorem ne(h:Ev G ρ ta λ_ x=>Ev G ρ tb λ_ y=>∃b,gE x y b/\Φ true (.bool !b)):Ev G ρ (dG Cg ta tb) Φ:=
 jK (h.mono λf x q=>q.mono λg y ⟨b,e,p⟩ nb σ H u v Q W hu hv z=>by
  obtain⟨h1,h2⟩:=e.v hu hv;exact⟨h1,by rw[h2];exact z true _ H _ p (.refl W.ao) (.bl _)⟩)
theorem MM{b:Bool}(h:Ev G ρ ta λ_ x=>Ev G ρ tb λ_ y=>c5 x=true/\c5 y=true/\Φ true (.bool (eh x y !=b))):Ev G ρ (dG (AD b) ta tb) Φ:=
 jK (h.mono λf x q=>q.mono λg y ⟨h1,h2,p⟩ nb σ H u v Q W hu hv z=>
  ⟨G.S nb false,x,y,hu.av (bM (λz=>by cases z) λ_ z=>z),hv.av (bM (λz=>by cases z) λ_ z=>z),h1,h2,z true _ H _ p (.refl W.ao) (.bl _)⟩)
end Ev
noncomputable def tP:PyData->Bool
 | .none=>true
 |_=>false
theorem JV{d:PyData}{v:V}(h:ah nb H d v):decide (v= .aD)=tP d:=by
 cases d<;>unfold ah at h
 all_goals first
  |(subst h;rfl)
  |(obtain⟨a,xs,rfl,_⟩:=h;rfl)
  |exact h.elim
namespace Ev
theorem is(h:Ev G ρ ta λ_ x=>Φ true (.bool (tP x))):Ev G ρ (dG KH ta (tC .aD)) Φ:=
 jK (h.mono λf x p=>Ev.aD λnb σ H u v Q W hu hv z=>⟨hv.o6,by rw[JV hu];exact z true _ H _ p (.refl W.ao) (.bl _)⟩)
theorem Rf(h:Ev G ρ ta λ_ x=>Φ true (.bool !tP x)):Ev G ρ (dG wN ta (tC .aD)) Φ:=
 jK (h.mono λf x p=>Ev.aD λnb σ H u v Q W hu hv z=>⟨hv.o6,by rw[JV hu];exact z true _ H _ p (.refl W.ao) (.bl _)⟩)
end Ev
theorem af.bO{nb:aw->Prop}{H:Hp}{ds:List PyData}{xs:List V}{k:Int}{e:PyData}(h:af nb H ds xs)(q:L2.bO ds k=some e):∃v,L2.bO xs k=some v/\ah nb H e v:=by
 unfold L2.bO at q⊢;rw[h.length];cases z:gU ds.length k with
 |none=>rw[z] at q;cases q
 |some j=>rw[z] at q;exact h.get q
namespace Ev
theorem V2(h:Ev G ρ ta λf x=>∃ds,x= .list ds/\Ev G ρ tb λ_ y=>∃k,y= .int k/\∃e,bO ds k=some e/\Φ f e):Ev G ρ (dG (cM K) ta tb) Φ:=
 jK (h.mono λf x ⟨ds,ex,q⟩=>q.mono λg y ⟨k,m,e,he,p⟩ nb σ H u v Q W hu hv z=>by
  subst ex m;obtain⟨a,xs,rfl,n,hx,hd⟩:=hu.dN;obtain⟨w,hw,c⟩:=hd.bO he;exact⟨a,xs,k,w,rfl,hv.cz, .of hx,hw,z f _ H _ p (.refl W.ao) c⟩)
theorem iI(h:Ev G ρ ta λf x=>∃ds,x= .tuple ds/\Ev G ρ tb λ_ y=>∃k,y= .int k/\∃e,bO ds k=some e/\Φ f e):Ev G ρ (dG (cY K) ta tb) Φ:=
 jK (h.mono λf x ⟨ds,ex,q⟩=>q.mono λg y ⟨k,m,e,he,p⟩ nb σ H u v Q W hu hv z=>by
  subst ex m;obtain⟨a,xs,rfl,n,hx,hd⟩:=hu.ofT;obtain⟨w,hw,c⟩:=hd.bO he;exact⟨a,xs,k,w,rfl,hv.cz, .of hx,hw,z f _ H _ p (.refl W.ao) c⟩)
theorem NW(e:ρ[i]?=some (.own a f ds))(h:Ev G ρ tb λ_ y=>∃k,y= .int k/\∃e,bO ds k=some e/\Φ f e):Ev G ρ (dG (cM K) (bz i) tb) Φ:=λnb σ H Q W z=>by
 obtain⟨x,e1,h1,h2,h3,xs,hx,hd⟩:=W.ok i _ e;subst h1;refine⟨.ref a,e1,h nb σ H _ W λg w H1 y ⟨k,m,e',he,p⟩ s1 hv=>?_⟩;subst m;obtain⟨u,hu,c⟩:=(hd.keep s1.c9).bO he;exact⟨a,xs,k,u,rfl,hv.cz, .of (s1.1 _ _ h3 hx),hu,z f _ H1 _ p s1 c⟩
theorem Ue(h:Ev G ρ ta λ_ x=>∃b,x= .bool b/\if b=true then Ev G ρ tb Φ else Φ true (.bool false)):Ev G ρ (G9 ta tb) Φ:=λnb σ H Q W z=>
 h nb σ H _ W λf v H1 d ⟨b,e,q⟩ s1 hv=>by
  subst e;refine⟨b,by unfold ah at hv;exact hv,?_⟩;cases b with
  |true=>rw[if_pos rfl] at q⊢;exact q nb σ H1 _ (W.step s1) λf v H' d p st=>z f v H' d p (s1.trans st)
  |false=>rw[if_neg bT] at q⊢;exact z true _ H1 _ q s1 (.bl false)
theorem UQ{c:TT}(h:Tv G ρ c λb=>if b=true then Ev G ρ ta Φ else Ev G ρ tb Φ):Ev G ρ (HL c ta tb) Φ:=λnb σ H Q W z=>
 h nb σ H _ W λb H1 q s1=>by
  cases b with
  |true=>rw[if_pos rfl] at q⊢;exact q nb σ H1 _ (W.step s1) λf v H' d p st=>z f v H' d p (s1.trans st)
  |false=>rw[if_neg bT] at q⊢;exact q nb σ H1 _ (W.step s1) λf v H' d p st=>z f v H' d p (s1.trans st)
end Ev
namespace Tv
variable{Θ:Bool->Prop}{t u:TT}
theorem test(h:Ev G ρ te λ_ x=>∃b,x= .bool b/\Θ b):Tv G ρ (BA te) Θ:=λnb σ H Q W z=>
 h nb σ H _ W λf v H1 d ⟨b,e,q⟩ s1 hv=>by subst e;exact⟨b,by unfold ah at hv;exact hv,z b H1 q s1⟩
theorem and(h:Tv G ρ t λb=>if b=true then Tv G ρ u Θ else Θ false):Tv G ρ (zL t u) Θ:=λnb σ H Q W z=>
 h nb σ H _ W λb H1 q s1=>by
  cases b with
  |true=>rw[if_pos rfl] at q⊢;exact q nb σ H1 _ (W.step s1) λb H' p st=>z b H' p (s1.trans st)
  |false=>rw[if_neg bT] at q⊢;exact z false H1 q s1
theorem or(h:Tv G ρ t λb=>if b=true then Θ true else Tv G ρ u Θ):Tv G ρ (CI t u) Θ:=λnb σ H Q W z=>
 h nb σ H _ W λb H1 q s1=>by
  cases b with
  |false=>rw[if_neg bT] at q⊢;exact q nb σ H1 _ (W.step s1) λb H' p st=>z b H' p (s1.trans st)
  |true=>rw[if_pos rfl] at q⊢;exact z true H1 q s1
theorem not(h:Tv G ρ t λb=>Θ (!b)):Tv G ρ (z9 t) Θ:=λnb σ H Q W z=>h nb σ H _ W λb H1 q s1=>z _ H1 q s1
theorem tF(h:Θ true):Tv G ρ oB Θ:=λnb σ H Q W z=>z true H h (.refl W.ao)
end Tv
def zg(K:PySem.W.Frag)(ta:TE):TT:=λσ H Q=>ta σ H λx H1=>∃k,CT K x H1 k/\Q k H1
theorem Tv.t7{Θ:Bool->Prop}(h:Ev G ρ te λ_ x=>∃b,x= .bool b/\Θ b):Tv G ρ (zg K te) Θ:=λnb σ H Q W z=>
 h nb σ H _ W λf v H1 d ⟨b,e,q⟩ s1 hv=>by subst e;exact⟨b,by unfold ah at hv;subst hv;rfl,z b H1 q s1⟩
namespace Av
variable{Θ:List Fd->Prop}
theorem nil(h:Θ []):Av G ρ bK Θ:=λnb σ H Q W z=>z [] [] H h (.refl W.ao) rfl
theorem cons(h:Ev G ρ te λf d=>Av G ρ t λes=>Θ ((f,d)::es)):Av G ρ (aX te t) Θ:=λnb σ H Q W z=>
 h nb σ H _ W λf v H1 d j s1 J=>j nb σ H1 _ (W.step s1) λes vs H2 p2 s2 M=>z _ _ H2 p2 (s1.trans s2) ⟨v,vs,rfl,J.keep s2.c9,M⟩
theorem Yd{is:List Int}(h:Θ (is.map λi=>(true, .int i))):Av G ρ (xM is) Θ:=λnb σ H Q W z=>z _ _ H h (.refl W.ao) (by
 clear h;induction is with
 |nil=>rfl
 |cons i r ih=>exact⟨_,_,rfl, .int i,ih⟩)
end Av
noncomputable def jb(es:List Fd):Bool:=es.all (·.1)
theorem jG.all{nb:aw->Prop}{H:Hp}:∀{es:List Fd} {vs:List V} {f:Bool},jG G nb H es vs->(f=true->jb es=true)->af (G.S nb f) H (es.map (·.2)) vs
  |[],_,_,h,_=>by unfold jG at h;subst h;exact .nil
  | e :: es, _, f, h, hf => by
    obtain⟨v,ws,rfl,h1,h2⟩:=h;refine .cons (h1.av (bM (λz=>?_) λ_ z=>z)) (h2.all λz=>?_);· have:=hf z;simp only[jb,oW,eZ] at this;exact this.1
    · have:=hf z;simp only[jb,oW,eZ] at this;exact this.2
theorem jG.len{es:List Fd}(h:jG G nb H es vs):vs.length=es.length:=by
 have:=(h.all (f:=false) (λz=>by cases z)).length;simpa using this
theorem au.lst{Φ:Bool->List PyData->Prop}(h:Av G ρ t λes=>es.length<=10000/\Φ (jb es) (es.map (·.2))):au G ρ (pS t) Φ:=λnb σ H Q W z=>
  h nb σ H _ W λes vs H1 ⟨hl,p⟩ s1 J=>⟨fX (by rw[J.len];exact hl) ⋯,λa ha=>by
    have W1:=W.step s1;refine z _ a vs _ _ p (s1.trans (.same W1.ao (cF ha))) ?_ aT (((J.all λz=>z).fresh ha).keep (aP.of (cF ha)));cases e:H a with
    |none=>rfl
    | some o =>
      by_cases n:NB G.B a;· rw[s1.1 a o n e] at ha;cases ha
      · exact absurd ha (NB.lY s1.2 n)⟩
theorem Ev.lst(h:Av G ρ t λes=>es.length<=10000/\Φ (jb es) (.list (es.map (·.2)))):Ev G ρ (pS t) Φ:=(au.lst (Φ:=λf ds=>Φ f (.list ds)) h).ev
end
def gK(K:PySem.W.Frag):List V->Hp->VK->Prop:=λxs H Q=>∃p ys,xs=[.ref p]/\(aO K H p ys\/fY K H p ys)/\Q (.int ys.length) H
theorem jc:fV X (.builtin "len") (gK X.K):=G6
def JU:List V->Hp->VK->Prop:=λxs H Q=>∃i j,xs=[.int i, .int j]/\Q (.int (if j<i then j else i)) H
def Lp:List V->Hp->VK->Prop:=λxs H Q=>(∃i,xs=[.int i]/\Q (.int i) H)\/∃k,xs=[.bl k]/\Q (.int (if k then 1 else 0)) H
theorem Np(hc:X.calm=true):fV X (.builtin "min") JU:=Xy hc
theorem Mn:fV X (.type "int") Lp:=WT
noncomputable def kF(xs:List α)(lo hi:Option Int):List α:=(xs.drop (HT.eN xs.length 0 lo)).take (HT.eN xs.length xs.length hi-HT.eN xs.length 0 lo)
theorem af.cut{lo hi:Option Int}(h:af nb H ds xs):af nb H (kF ds lo hi) (kD xs lo hi):=by
 unfold kF kD;rw[h.length];exact(h.drop _).take _
noncomputable def dZ(ds:List PyData):Bool:=ds.all fU
section
variable{G:Gx}{ρ:Rh}{Φ Ψ:Pd}{ta tb te:TE}{t:TA}{i:Nat}{f g:Bool}{d e:PyData}{ds es:List PyData}{K:PySem.W.Frag}
theorem Wd.none_of(W:Wd G nb ρ σ H)(s1:Step G.B H H1)(ha:H1 a=none):H a=none:=by
  cases e:H a with
  |none=>rfl
  | some o =>
    by_cases n:NB G.B a;· rw[s1.1 a o n e] at ha;cases ha
    · exact absurd ha (NB.lY s1.2 n)
theorem au.fin{Q:VK}{Φ:Bool->List PyData->Prop}(W:Wd G nb ρ σ H)(s1:Step G.B H H1)(ha:H1 a=none)(hd:af (G.S nb f) H1 ds xs)(p:Φ (f||dZ ds) ds)
  (z:∀f a xs H' ds,Φ f ds->Step G.B H H'->H a=none->H' a=some (.lst xs)->af (λx=>G.S nb f x\/x=a) H' ds xs->Q (.ref a) H'):Q (.ref a) (upd H1 a (.lst xs)):=by
 refine z _ a xs _ ds p (s1.trans (.same s1.2 (cF ha))) (W.none_of s1 ha) aT ?_;cases hs:dZ ds with
 |true=>exact af.fF hs hd
 |false=>rw[nY];exact(hd.fresh ha).keep (aP.of (cF ha))
namespace Ov
variable{Θ:Option Int->Prop}
theorem none(h:Θ none):Ov G ρ C7 Θ:=λnb σ H Q W z=>z _ H h (.refl W.ao)
theorem some(h:Ev G ρ te λ_ x=>∃k,x= .int k/\Θ (some k)):Ov G ρ (AM te) Θ:=λnb σ H Q W z=>
 h nb σ H _ W λf v H1 d ⟨k,e,q⟩ s1 hv=>by subst e;exact⟨k,hv.cz,z _ H1 q s1⟩
end Ov
namespace au
variable{Θ:Bool->List PyData->Prop}
theorem sl{tl th:TO}(h:Ev G ρ te λf x=>∃ds,x= .list ds/\Ov G ρ tl λlo=>Ov G ρ th λhi=>Θ (f||dZ (kF ds lo hi)) (kF ds lo hi)):au G ρ (qH (mQ K) te tl th) Θ:=λnb σ H Q W z=>
 h nb σ H _ W λf v H1 d ⟨ds,e,q⟩ s1 hv=>q nb σ H1 _ (W.step s1) λlo H2 M s2=>M nb σ H2 _ ((W.step s1).step s2) λhi H3 q3 s3=>by
  subst e;obtain⟨a,xs,rfl,n,hx,hd⟩:=((hv.keep s2.c9).keep s3.c9).dN;exact⟨a,xs,rfl, .of hx,λp hp=>au.fin W (s1.trans (s2.trans s3)) hp hd.cut q3 z⟩
theorem listOf(h:Ev G ρ te λf x=>∃ds,(x= .list ds\/x= .tuple ds)/\Θ (f||dZ ds) ds):au G ρ (eX (jV K) (aX te bK)) Θ:=λnb σ H Q W z=>
 h nb σ H _ W λf v H1 d ⟨ds,e,q⟩ s1 hv=>by
  rcases e with e|e
  .subst e;obtain⟨a,xs,rfl,n,hx,hd⟩:=hv.dN;exact⟨a,xs,rfl, .inl (.of hx),λp hp=>au.fin W s1 hp hd q z⟩
  .subst e;obtain⟨a,xs,rfl,n,hx,hd⟩:=hv.ofT;exact⟨a,xs,rfl, .inr (.of hx),λp hp=>au.fin W s1 hp hd q z⟩
theorem UW(e:ρ[i]?=some (.own a f ds))(h:Θ (f||dZ ds) ds):au G ρ (eX (jV K) (aX (bz i) bK)) Θ:=λnb σ H Q W z=>by
 obtain⟨x,e1,h1,h2,h3,xs,hx,hd⟩:=W.ok i _ e;subst h1;exact⟨.ref a,e1,a,xs,rfl, .inl (.of hx),λp hp=>au.fin W (.refl W.ao) hp hd h z⟩
theorem cat(h:Ev G ρ ta λf x=>∃ds,x= .list ds/\Ev G ρ tb λg y=>∃es,y= .list es/\ds.length+es.length<=10000/\Θ ((f && g)||dZ (ds++es)) (ds++es)):au G ρ (dG BY ta tb) Θ:=λnb σ H Q W z=>
 h nb σ H _ W λf v H1 d ⟨ds,e,q⟩ s1 hv=>q nb σ H1 _ (W.step s1) λg u H2 d2 ⟨es,e2,hl,p⟩ s2 hu=>by
  subst e e2;obtain⟨a,xs,rfl,n,hx,hd⟩:=(hv.keep s2.c9).dN;obtain⟨c,ys,rfl,m,hy,hc⟩:=hu.dN;refine⟨a,c,xs,ys,rfl,rfl,hx,hy,fX (by rw[hd.length,hc.length];exact hl) ⋯,λj hp=>au.fin (f:=f && g) W (s1.trans s2) hp ?_ p z⟩;exact af.append (hd.av (bM (λz=>(eZ _ _▸z).1) λ_ z=>z)) (hc.av (bM (λz=>(eZ _ _▸z).2) λ_ z=>z))
end au
namespace Ev
theorem sl{tl th:TO}(h:Ev G ρ te λf x=>∃ds,x= .list ds/\Ov G ρ tl λlo=>Ov G ρ th λhi=>Φ (f||dZ (kF ds lo hi)) (.list (kF ds lo hi))):Ev G ρ (qH (mQ K) te tl th) Φ:=(au.sl (Θ:=λf ds=>Φ f (.list ds)) h).ev
theorem listOf(h:Ev G ρ te λf x=>∃ds,(x= .list ds\/x= .tuple ds)/\Φ (f||dZ ds) (.list ds)):Ev G ρ (eX (jV K) (aX te bK)) Φ:=(au.listOf (Θ:=λf ds=>Φ f (.list ds)) h).ev
theorem cat(h:Ev G ρ ta λf x=>∃ds,x= .list ds/\Ev G ρ tb λg y=>∃es,y= .list es/\ds.length+es.length<=10000/\Φ ((f && g)||dZ (ds++es)) (.list (ds++es))):Ev G ρ (dG BY ta tb) Φ:=(au.cat (Θ:=λf ds=>Φ f (.list ds)) h).ev
theorem N7(e:ρ[i]?=some (.own a f ds))(h:Φ true (.int ds.length)):Ev G ρ (eX (gK K) (aX (bz i) bK)) Φ:=λnb σ H Q W z=>by
 obtain⟨x,e1,h1,h2,h3,xs,hx,hd⟩:=W.ok i _ e;subst h1;exact⟨.ref a,e1,a,xs,rfl, .inl (.of hx),by rw[hd.length];exact z true _ H _ h (.refl W.ao) (.int _)⟩
theorem min2(h:Ev G ρ ta λ_ x=>∃i,x= .int i/\Ev G ρ tb λ_ y=>∃j,y= .int j/\Φ true (.int (if j<i then j else i))):Ev G ρ (eX JU (aX ta (aX tb bK))) Φ:=λnb σ H Q W z=>
 h nb σ H _ W λf v H1 d ⟨i,e,q⟩ s1 hv=>q nb σ H1 _ (W.step s1) λg u H2 d2 ⟨j,e2,p⟩ s2 hu=>by
  subst e e2;exact⟨i,j,by rw[hv.cz,hu.cz],z true _ H2 _ p (s1.trans s2) (.int _)⟩
theorem Td(h:Ev G ρ ta λ_ x=>∃b,x= .bool b/\Φ true (.int (if b then 1 else 0))):Ev G ρ (eX Lp (aX ta bK)) Φ:=λnb σ H Q W z=>
 h nb σ H _ W λf v H1 d ⟨b,e,q⟩ s1 hv=>by subst e;unfold ah at hv;subst hv;exact .inr ⟨b,rfl,z true _ H1 _ q s1 (.int _)⟩
end Ev
abbrev DF:=List PyData->Pd->Prop
def cQ(n:Nat)(F:DF):Sp:=λvs H Q _=>vs.length=n/\∃(nb:aw->Prop) (ds:List PyData),gy nb H/\af nb H ds vs/\F ds λf d=>∀v H',bU H H'->ah (λa=>nb a\/(f=true/\H a≠none)) H' d v->Q v H'
def dM(n:Nat)(F:DF):Sp:=λvs H Q _=>vs.length=n/\∃(b l:aw) (ws:List V) (nb:aw->Prop) (ds:List PyData),vs= .ref b::ws/\dO H b l/\gy nb H/\nb b/\af nb H ds ws/\
 F ds λf d=>∀v H',aP (Nb b) H H'->dO H' b l->ah (λa=>nb a\/(f=true/\H a≠none)) H' d v->Q v H'
def dJ(F:DF):Prop:=∀ds (Φ Ψ:Pd),F ds Φ->(∀f d,Φ f d->Ψ f d)->F ds Ψ
theorem Ev.jj{F:DF}(hm:dJ F)(h:Av G ρ t λes=>es.length=n/\F (es.map (·.2)) λf d=>Φ (f||jb es) d):Ev G ρ (fN (cQ n F) [] E0 t) Φ:=λnb σ H Q W z=>
 h nb σ H _ W λes vs H1 ⟨hl,p⟩ s1 J=>by
  have W1:=W.step s1;rw[ic];refine⟨by rw[J.len,hl],G.S nb (jb es),es.map (·.2),W1.fL,J.all λz=>z,hm _ _ _ p λf d hp v H' sm hd=>z _ v H' d hp (s1.trans (.same W1.ao sm)) (hd.av λa q=>?_)⟩;cases f with
  |false=>rw[nV] at q;exact .inl q
  |true=>exact .inr ⟨rfl,W1.fL a q⟩
theorem Step.vM{l:aw}(M:G.B=some (b,l))(bt:aP (Nb b) H H')(c:dO H' b l):Step G.B H H':=
 ⟨λa o n e=>bt a o (n b l M) e,λw k e=>by rw[M] at e;cases e;exact c⟩
theorem Wd.xE(W:Wd G nb ρ σ H)(e:ρ[i]?=some .ao):∃b l,G.B=some (b,l)/\σ[i]?=some (some (.ref b))/\dO H b l:=by
 obtain⟨x,e1,b,l,M,rfl⟩:=W.ok i _ e;exact⟨b,l,M,e1,W.ao b l M⟩
theorem Ev.iT{F:DF}(hm:dJ F)(e:ρ[i]?=some .ao)(h:Av G ρ t λes=>es.length+1=n/\F (es.map (·.2)) λf d=>Φ (f||jb es) d):Ev G ρ (fN (dM n F) [] E0 (aX (bz i) t)) Φ:=λnb σ H Q W z=>by
 obtain⟨b,l,M,e1,B⟩:=W.xE e;refine⟨.ref b,e1,h nb σ H _ W λes vs H1 ⟨hl,p⟩ s1 J=>?_⟩;have W1:=W.step s1;show dM n F ((V.ref b::vs)++[]) H1 Q E0;rw[ic];have hb:∀f,G.S nb f b:=λf=> .inr (.inr (.inl λn=>n b l M rfl));refine⟨by rw[eY,J.len,hl],b,l,vs,G.S nb (jb es),es.map (·.2),rfl,W1.ao b l M,W1.fL,hb _,J.all λz=>z,hm _ _ _ p λf d hp v H' bt c hd=>z _ v H' d hp (s1.trans (.vM M bt c)) (hd.av λa q=>?_)⟩;cases f with
 |false=>rw[nV] at q;exact .inl q
 |true=>exact .inr ⟨rfl,W1.fL a q⟩
theorem Ev.draw(e:ρ[i]?=some .ao)(h:Ev G ρ te λ_ x=>∃m:Int,x= .int m/\0<m/\Sm m/\∀r:Int,0<=r->r<m->Φ true (.int r)):Ev G ρ (fN i6 [] E0 (aX (bz i) (aX te bK))) Φ:=λnb σ H Q W z=>by
 obtain⟨b,l,M,e1,B⟩:=W.xE e;refine⟨.ref b,e1,h nb σ H _ W λf v H1 d ⟨m,a,h1,h2,p⟩ s1 hv=>?_⟩;subst a;exact⟨b,l,m,by rw[hv.cz];rfl,s1.2 b l M,h1,h2,λr H' O N bt c=>z true _ H' _ (p r O N) (s1.trans (.vM M bt c)) (.int r)⟩
theorem Ev.total(h:Av G ρ t λes=>∃(p:Int) (prs:List (Int×Int)) (wd:List (Option Int)),es.map (·.2)=[.int p, .list (prs.map xk), .list (wd.map bS)]/\0<p/\(∀pr∈prs,0<=pr.1/\pr.1<wd.length/\Sm pr.2)/\(∀x,some x∈wd->Sm x)/\Φ true (.int (bQ prs wd%p))):
  Ev G ρ (fN Dv [] E0 t) Φ:=λnb σ H Q W z=>
 h nb σ H _ W λes vs H1 ⟨p,prs,wd,e,h1,h2,h3,q⟩ s1 J=>by
  have hd:=J.all (f:=false) (λz=>by cases z);rw[e] at hd;unfold af at hd;obtain⟨y,ys,rfl,d1,hd⟩:=hd;unfold af at hd;obtain⟨T,ys,rfl,d2,hd⟩:=hd;unfold af at hd;obtain⟨a,ys,rfl,c,hd⟩:=hd;unfold af at hd;subst hd;exact⟨G.S nb false,p,T,a,prs,wd,by rw[d1.cz];rfl,d2,c,h1,h2,h3,z true _ H1 _ q s1 (.int _)⟩
theorem Ev.whole(h:Ev G ρ te λ_ x=>∃n,x= .int n/\Φ true (.bool true)):Ev G ρ (fN N5 [] E0 (aX te bK)) Φ:=λnb σ H Q W z=>
 h nb σ H _ W λf v H1 d ⟨n,e,q⟩ s1 hv=>by subst e;exact⟨n,by rw[hv.cz];rfl,z true _ H1 _ q s1 (.bl _)⟩
namespace Gv
variable{Θ:Rh->Prop}
theorem name(h:Θ (ρ.set i (.d f d))):Gv G ρ (gc i) f d Θ:=λnb σ H v Q W hv z=>z _ _ h (W.n5 hv)
theorem zk(h:Θ (ρ.set i (.d false d))):Gv G ρ (gc i) f d Θ:=λnb σ H v Q W hv z=>z _ _ h (W.n5 (hv.av (bM (λz=>by cases z) λ_ z=>z)))
theorem Et(hs:fU d=true)(h:Θ (ρ.set i (.d true d))):Gv G ρ (gc i) f d Θ:=λnb σ H v Q W hv z=>z _ _ h (W.n5 (hv.fF hs))
theorem tU{n:Int}(h:Θ (ρ.set i (.d true (.int n)))):Gv G ρ (gc i) f (.int n) Θ:=Et rfl h
theorem Qu(h:Θ (ρ.set i (.d true .none))):Gv G ρ (gc i) f .none Θ:=Et rfl h
theorem tup{n:Nat}{u:iB}(hl:ds.length=n)(h:nD G ρ u f ds Θ):Gv G ρ (wj K n u) f (.tuple ds) Θ:=λnb σ H v Q W hv z=>by
 obtain⟨a,xs,rfl,m,hx,hd⟩:=hv.ofT;exact⟨a,xs,rfl, .of hx,by rw[hd.length];exact hl,h nb σ H xs Q W hd z⟩
theorem OZ(h:Θ ρ):nD G ρ zW f [] Θ:=λnb σ H vs Q W hv z=>by unfold af at hv;exact⟨hv,z _ _ h W⟩
theorem Qj{u:TG}{us:iB}(h:Gv G ρ u f d λp=>nD G p us f ds Θ):nD G ρ (zG u us) f (d::ds) Θ:=λnb σ H vs Q W hv z=>by
 unfold af at hv;obtain⟨y,ys,rfl,h1,h2⟩:=hv;exact⟨y,ys,rfl,h nb σ H y _ W h1 λL C q W'=>q nb L H ys Q W' h2 z⟩
end Gv
namespace Sv
variable{E:DE}{s u:TS}
theorem seq(h:Sv G ρ s {E with nx:=λp=>Sv G p u E}):Sv G ρ (rN s u) E:=λnb σ H D W K=>h nb σ H _ W ⟨λay C L H' q W'=>q ay L H' D W' K,K.bk,K.ct,K.rt,K.rw⟩
theorem next(h:E.nx ρ):Sv G ρ Cz E:=λnb σ H D W K=>K.nx nb ρ σ H h W
theorem brk(h:E.bk ρ):Sv G ρ Xk E:=λnb σ H D W K=>K.bk nb ρ σ H h W
theorem cont(h:E.ct ρ):Sv G ρ SW E:=λnb σ H D W K=>K.ct nb ρ σ H h W
theorem asg{g:TG}(h:Ev G ρ te λf d=>Gv G ρ g f d E.nx):Sv G ρ (fP te g) E:=λnb σ H D W K=>h nb σ H _ W λf v H1 d q s1 hv=>q nb σ H1 v _ (W.step s1) hv λL C p W'=>K.nx nb C L H1 p W'
theorem Xz(h:Ev G ρ te λ_ d=>E.nx (ρ.set i (.d false d))):Sv G ρ (IV i te) E:=λnb σ H D W K=>h nb σ H _ W λf v H1 d q s1 hv=>K.nx nb _ _ H1 q ((W.step s1).n5 (hv.av (bM (λz=>by cases z) λ_ z=>z)))
theorem drop(h:Ev G ρ te λ_ _=>E.nx ρ):Sv G ρ (o8 te) E:=λnb σ H D W K=>h nb σ H _ W λf v H1 d q s1 hv=>K.nx nb ρ σ H1 q (W.step s1)
theorem ret(h:Ev G ρ te E.rt):Sv G ρ (oU te) E:=λnb σ H D W K=>h nb σ H _ W λf v H1 d q s1 hv=>K.rt nb ρ σ f v H1 d q (W.step s1) (hv.av (bM (λz=>z) λ_ z=>z.elim))
theorem nX{c:TT}(h:Tv G ρ c λb=>if b=true then Sv G ρ s E else Sv G ρ u E):Sv G ρ (ue c s u) E:=λnb σ H D W K=>h nb σ H _ W λb H1 q s1=>by
 cases b with
 |true=>rw[if_pos rfl] at q⊢;exact q nb σ H1 D (W.step s1) K
 |false=>rw[if_neg bT] at q⊢;exact q nb σ H1 D (W.step s1) K
theorem A8(W:Wd G nb ρ σ H)(s1:Step G.B H H1)(ha:H a=none)(e:H1 a=some (.lst xs))(hd:af (λx=>G.S nb f x\/x=a) H1 ds xs):
    Wd G (λx=>nb x\/x=a) (ρ.set i (.own a f ds)) (σ.set i (some (.ref a))) H1:=by
  have hN:NB G.B a:=λb l e z=>by
    subst z;obtain⟨_,_,_,_,_,h1,_⟩:=W.ao _ _ e;rw[h1] at ha;cases ha
  have hA:∀f x,G.S (λx=>nb x\/x=a) f x->(G.S nb f x\/x=a):=λf x z=>by
    rcases z with (z|z)|z|z|z
    · exact .inl (.inl z)
    · exact .inr z
    · exact .inl (.inr (.inl z))
    · exact .inl (.inr (.inr (.inl z)))
    · exact .inl (.inr (.inr (.inr z)))
  have W1:=W.step s1;have W2:Wd G (λx=>nb x\/x=a) ρ σ H1:=by
    refine⟨W1.ao,λx n=>?_,W1.old,λx n q=>?_,W.gA,W.len,W.gB,λh m=>(((W.ez h m).fresh ha).keep (s1.but λx z=> .inl (.inr (.inr (.inl z))))).av (hA h.1),λj s e'=>?_,W.apart,W.fQ,W.dw⟩
    · rcases n with n|n
      · exact W1.live x n
      · subst n;rw[e];exact dS _
    · rcases n with n|n
      · exact W.cP x n q
      · subst n
        cases z:G.H0 x with
        |none=>rfl
        |some o=>rw[W.old x o q z] at ha;cases ha
    · obtain⟨x,e1,h⟩:=W.ok j s e'
      refine⟨x,e1,?_⟩;cases s with
      |no=>trivial
      |d f d=>obtain⟨v,e,h⟩:=h;exact⟨v,e,((h.fresh ha).keep (s1.but λx z=> .inl (.inr (.inr (.inl z))))).av (hA f)⟩
      |own c f es=>obtain⟨e,n,q,xs,hx,hd⟩:=h;exact⟨e, .inl n,q,xs,s1.1 _ _ q hx,((hd.fresh ha).keep (s1.but λx z=> .inl (.inr (.inr (.inl z))))).av (hA f)⟩
      |ao=>exact h
      |raw v=>exact h
      |bD c f es=>obtain⟨e,n,q,xs,hx,hd⟩:=h;exact⟨e, .inl n,q,xs,s1.1 _ _ q hx,((hd.fresh ha).keep (s1.but λx z=> .inl (.inr (.inr (.inl z))))).av (hA f)⟩
      | cu c =>
        obtain⟨e,n,q⟩:=h;refine⟨e,λa ha=>⟨.inl (n a ha).1,(n a ha).2⟩,c.av (hA c.f) (c.keep (.of λx o hx e=>s1.1 x o ?_ e) (c.fresh ha q))⟩;rcases hx with hx|hx
        · exact iS λz=>hx (.inl (.inr (.inr (.inl z))))
        · exact(n x hx).2
  refine W2.set ⟨rfl, .inr rfl,hN,xs,e,hd.av (hA f)⟩ ?_ (λ_ _ _ z=>by cases z) (λx hx j t hj ht hc=>?_)
  rotate_left
  · have hx:x=a:=aN.mp hx
    subst hx;rcases hc with ⟨c,z⟩|⟨c,rfl⟩
    · cases z
    · exact λz=>W.live x ((W.ok j _ ht).choose_spec.2.2.1 x z).1 ha
  rintro a' f' ds' ⟨rfl,rfl,rfl⟩ j c g cs hj hc z;subst z;obtain⟨x,e1,h1,h2,h3,ys,hy,_⟩:=W.ok j _ hc;rw[hy] at ha;cases ha
theorem GS(h:au G ρ te λf ds=>∀a,E.nx (ρ.set i (.own a f ds))):Sv G ρ (fP te (gc i)) E:=λnb σ H D W K=>h nb σ H _ W λf a xs H1 ds q s1 ha e hd=>K.nx _ _ _ H1 (q a) (A8 W s1 ha e hd)
theorem DQ(W:Wd G nb ρ σ H)(e:ρ[i]?=some (.own a f ds))(hd:af (G.S nb g) H es xs):Wd G nb (ρ.set i (.own a g es)) σ (upd H a (.lst xs)):=by
  obtain⟨x,e1,h1,h2,h3,ys,hy,_⟩:=W.ok i _ e;subst h1;have hil:i<ρ.length:=(bH.mp e).1;have W0:Wd G nb (ρ.set i .no) (σ.set i (some (.ref a))) H:=W.set trivial λ_ _ _ z=>by cases z
  have W1:Wd G nb (ρ.set i .no) (σ.set i (some (.ref a))) (upd H a (.lst xs)):=W0.write h2 h3 (λj c d cs hc=>by
    by_cases hij:i=j;· subst hij;rw[cD hil] at hc;cases hc
    · rw[bu hij] at hc
      exact(W.apart i j _ _ _ _ _ _ hij e hc).symm
   ) (λj c d cs hc z => by
      subst z;have hij:i≠j:=λz=>by subst z;rw[cD hil] at hc;cases hc
      rw[bu hij] at hc;obtain⟨_,_,_,_,_,ps,hp,_⟩:=W.ok j _ hc;rw[hy] at hp;cases hp) (λj c hc z=>by
      have hij:i≠j:=λz=>by subst z;rw[cD hil] at hc;cases hc
      rw[bu hij] at hc;exact W.dw j i c _ (bJ hij) hc e a z (aN.mpr rfl))
  have W2:=W1.set (i:=i) (s:= .own a g es) (x:=some (.ref a)) ⟨rfl,h2,h3,xs,aT,hd.keep (aP.set (.inl h2))⟩ (by
    rintro a' d ds' ⟨rfl,rfl,rfl⟩ j c g' cs hj hc;rw[bu (bJ hj)] at hc;exact W.apart i j _ _ _ _ _ _ (bJ hj) e hc) (λ_ _ _ z=>by cases z) (λx hx j t hj ht hc z=>by
    rw[bu (bJ hj)] at ht;have hx:x=a:=aN.mp hx;subst hx;rcases hc with ⟨c,q⟩|⟨c,rfl⟩
    · cases q
    · exact W.dw j i c _ hj ht e x z (aN.mpr rfl))
  rw[jx,jx] at W2;have:σ.set i (some (.ref a))=σ:=by
    apply lD;intro j;by_cases hij:i=j;· subst hij;rw[cD (by rw[W.len];exact hil),e1]
    · rw[bu hij]
  rwa[this] at W2
theorem append(e:ρ[i]?=some (.own a f ds))(h:Ev G ρ te λg d=>ds.length<10000/\E.nx (ρ.set i (.own a (f && g) (ds++[d])))):Sv G ρ (o8 (z4 K "list" Ge (bz i) (aX te bK))) E:=λnb σ H D W KK=>by
 obtain⟨x,e1,h1,h2,h3,xs,hx,hd⟩:=W.ok i _ e;subst h1;refine⟨.ref a,e1, .inl ⟨rfl,_,aO.of hx⟩,h nb σ H _ W λg v H1 d ⟨hl,q⟩ s1 hv=>?_⟩;have W1:=W.step s1;have GI:=s1.1 _ _ h3 hx;refine⟨a,xs,v,rfl,rfl,GI,eG (by rw[hd.length];exact hl) ⋯,KK.nx nb _ _ _ q (DQ W1 e ?_)⟩;exact af.snoc (hv.av (bM (λz=>(eZ _ _▸z).2) λ_ z=>z)) ((hd.keep s1.c9).av (bM (λz=>(eZ _ _▸z).1) λ_ z=>z))
theorem af.set'{nb:aw->Prop}{H:Hp}{x:V}(hd:ah nb H d x):∀{ds:List PyData} {xs:List V} (j:Nat),af nb H ds xs->af nb H (ds.set j d) (xs.set j x)
 |[],_,j,h=>by unfold af at h;subst h;exact .nil
 |e::ds,_,0,h=>by unfold af at h;obtain⟨y,ys,rfl,h1,h2⟩:=h;exact .cons hd h2
 |e::ds,_,j+1,h=>by unfold af at h;obtain⟨y,ys,rfl,h1,h2⟩:=h;exact .cons h1 (af.set' hd j h2)
theorem AU(e:ρ[i]?=some (.own a f ds))(h:Ev G ρ te λg d=>Ev G ρ tb λ_ y=>∃k j,y= .int k/\gU ds.length k=some j/\E.nx (ρ.set i (.own a (f && g) (ds.set j d)))):Sv G ρ (fP te (nU (bz i) tb qF)) E:=λnb σ H D W KK=>
 h nb σ H _ W λg v H1 d q s1 hv=>by
  obtain⟨x,e1,h1,h2,h3,xs,hx,hd⟩:=(W.step s1).ok i _ e;subst h1;refine⟨.ref a,e1,q nb σ H1 _ (W.step s1) λg' u H2 y ⟨k,j,m,hj,p⟩ s2 hu=>?_⟩;subst m;have W2:=(W.step s1).step s2;refine⟨a,xs,k,j,rfl,hu.cz,s2.1 _ _ h3 hx,by rw[hd.length];exact hj,KK.nx nb _ _ _ p (DQ W2 e ?_)⟩;exact af.set' ((hv.keep s2.c9).av (bM (λz=>(eZ _ _▸z).2) λ_ z=>z)) j ((hd.keep s2.c9).av (bM (λz=>(eZ _ _▸z).1) λ_ z=>z))
theorem share(W:Wd G nb ρ σ H)(e:ρ[i]?=some (.own a f ds)):Wd G (λx=>nb x/\x≠a) (ρ.set i (.d f (.list ds))) σ H:=by
  obtain⟨x,e1,h1,h2,h3,xs,hx,hd⟩:=W.ok i _ e;subst h1;have hil:i<ρ.length:=(bH.mp e).1;have W0:Wd G nb (ρ.set i .no) (σ.set i (some (.ref a))) H:=W.set trivial λ_ _ _ z=>by cases z
  have W1:Wd G (λx=>nb x/\x≠a) (ρ.set i .no) (σ.set i (some (.ref a))) H:=by
    refine⟨W0.ao,λx n=>W0.live x n.1,W0.old,λx n=>W0.cP x n.1,W0.gA,W0.len,W0.gB,λh m=>(W0.ez h m).av (bM (λz=>z) λ_ z=>z.1),λj s e'=>?_,W0.apart,W0.fQ,W0.dw⟩;obtain⟨x,jU,h⟩:=W0.ok j s e';refine⟨x,jU,?_⟩;have hij:s≠ .no->i≠j:=λn z=>by subst z;rw[cD hil] at e';cases e';exact n rfl
    cases s with
    |no=>trivial
    |d f d=>obtain⟨v,e,h⟩:=h;exact⟨v,e,h.av (bM (λz=>z) λ_ z=>z.1)⟩
    | own c f es =>
      obtain⟨e2,n,q,xs,hx,hd⟩:=h;have hij:=hij (by intro z;cases z);rw[bu hij] at e';exact⟨e2,⟨n,(W.apart i j _ _ _ _ _ _ hij e e').symm⟩,q,xs,hx,hd.av (bM (λz=>z) λ_ z=>z.1)⟩
    |ao=>exact h
    |raw v=>exact h
    | bD c f es =>
      obtain⟨e2,n,q,ps,hp,hd⟩:=h;have X:c≠a:=λz=>by subst z;rw[hx] at hp;cases hp
      exact⟨e2,⟨n,X⟩,q,ps,hp,hd.av (bM (λz=>z) λ_ z=>z.1)⟩
    | cu c =>
      obtain⟨e2,n,q⟩:=h;have hij:=hij (by intro z;cases z);rw[bu hij] at e';exact⟨e2,λx hx=>⟨⟨(n x hx).1,λz=>W.dw j i c _ (bJ hij) e' e x hx (by rw[z];exact aN.mpr rfl)⟩,(n x hx).2⟩,c.av (bM (λz=>z) λ_ z=>z.1) q⟩
  have W2:=W1.n5 (i:=i) (f:=f) (d:= .list ds) (v:= .ref a) (.lst (λz=>by
    rcases z with z|z|z|z
    · exact z.2 rfl
    · exact W.gA a z (W.cP a h2 h3)
    · exact z h3
    · exact z.2 (W.cP a h2 h3)) hx (hd.av (bM (λz=>z) λ_ z=>z.1)))
  rw[jx,jx] at W2;have:σ.set i (some (.ref a))=σ:=by
    apply lD;intro j;by_cases hij:i=j;· subst hij;rw[cD (by rw[W.len];exact hil),e1]
    · rw[bu hij]
  rwa[this] at W2
theorem RD(i:Nat)(e:ρ[i]?=some (.own a f ds))(h:Sv G (ρ.set i (.d f (.list ds))) s E):Sv G ρ s E:=λnb σ H D W K=>h _ σ H D (share W e) K
theorem wk{C:Rh}(w:Wk C ρ)(h:Sv G C s E):Sv G ρ s E:=λnb σ H D W K=>h nb σ H D (W.wk w) K
end Sv
end
noncomputable abbrev Gx.hd(G:Gx)(f:Bool)(d:PyData)(v:V):Gx:={G with hold:=(f, .d d,v)::G.hold}
section
variable{G:Gx}{ρ bL:Rh}{Φ Ψ:Pd}{ta tb te:TE}{t:TA}{i:Nat}{f g:Bool}{d e:PyData}{ds es:List PyData}{K:PySem.W.Frag}
theorem Wd.hd{nb:aw->Prop}{σ:qb}{H:Hp}{v:V}(W:Wd G nb ρ σ H)(h:ah (G.S nb f) H d v):Wd (G.hd f d v) nb ρ σ H:=
 ⟨W.ao,W.live,W.old,W.cP,W.gA,W.len,W.gB,λx m=>by
  rcases aA.mp m with e|m
  .subst e;exact h
  .exact W.ez x m,λi s e=>by
   obtain⟨x,e1,h⟩:=W.ok i s e;refine⟨x,e1,?_⟩;cases s<;>exact h,W.apart,W.fQ,W.dw⟩
theorem Wd.mO{v:V}(W:Wd (G.hd f d v) nb ρ σ H):Wd G nb ρ σ H/\ah (G.S nb f) H d v:=
 ⟨⟨W.ao,W.live,W.old,W.cP,W.gA,W.len,W.gB,λx m=>W.ez x (bA _ m),λi s e=>by
   obtain⟨x,e1,h⟩:=W.ok i s e;refine⟨x,e1,?_⟩;cases s<;>exact h,W.apart,W.fQ,W.dw⟩,W.ez _ (bY ..)⟩
namespace Sv
variable{E:DE}{s:TS}{gt:TG}
def Aa(G:Gx)(ρ:Rh)(n:Nat)(it:Nat->PyData->Prop)(fi:Bool)(gt:TG)(s:TS)(E:DE):Prop:=
 ∃I:Nat->Rh->Prop,I 0 ρ/\(∀i d C,it i d->I i C->Gv G C gt fi d λg=>Sv G g s {nx:=I (i+1),rt:=E.rt,bk:=E.nx,ct:=I (i+1),rw:=E.rw})/\∀C,I n C->E.nx C
theorem OQ{lo:Int}(W:Wd G nb ρ σ H)(KK:yQ G E D)(h:Aa G ρ n (λi d=>i<n/\d= .int (lo+i)) true gt s E):
  ∃W:Nat->Nat->qb->Hp->Prop,(∃m,W 0 m σ H)/\∀i m σ H,W i m σ H->
   ((i8 lo n).stop i H/\D.nx σ H)\/((i8 lo n).go i H/\∃N:qb->Hp->Prop,(∀L H',N L H'->∃m',m'<m/\W (i+1) m' L H')/\∀x H',(i8 lo n).oh i H x H'->gt x σ H' λk H2=>s {D with nx:=N,ct:=N,bk:=D.nx} k H2):=by
 obtain⟨I,h0,ht,he⟩:=h;refine En (λi σ H=>∃nb ρ',I i ρ'/\Wd G nb ρ' σ H) ⟨nb,ρ,h0,W⟩ ?_ ?_
 .rintro i σ H hi ⟨nb,ρ',hI,W⟩;refine ht i _ ρ' ⟨hi,rfl⟩ hI nb σ H _ _ W (.int _) λk g q W2=>q nb k H _ W2 ?_;exact⟨λnb ρ σ H q W=>⟨nb,ρ,q,W⟩,KK.nx,λnb ρ σ H q W=>⟨nb,ρ,q,W⟩,KK.rt,KK.rw⟩
 .rintro σ H ⟨nb,ρ',hI,W⟩;exact KK.nx nb ρ' σ H (he ρ' hI) W
theorem uQ(h:Ev G ρ te λ_ x=>∃n:Int,x= .int n/\ -(2^62)<=n/\n<2^62/\Aa G ρ n.toNat (λi d=>i<n.toNat/\d= .int (0+i)) true gt s E):Sv G ρ (pJ (uD (aX te bK)) gt s) E:=λnb σ H D W KK=>
 h nb σ H _ W λf v H1 x ⟨n,ex,h1,h2,q⟩ s1 hv=>by
  subst ex;rw[hv.cz];exact⟨n,rfl,h1,h2,OQ (W.step s1) KK q⟩
theorem forL(h:Ev G ρ te λf x=>∃ds,x= .list ds/\∀v,Aa (G.hd f (.list ds) v) ρ ds.length (λi d=>ds[i]?=some d) f gt s E):Sv G ρ (pJ (mL K te) gt s) E:=λnb σ H D W KK=>
 h nb σ H _ W λf v H1 x ⟨ds,ex,q⟩ s1 hv=>by
  subst ex;obtain⟨I,h0,ht,he⟩:=q v;have W1:=(W.step s1).hd hv;obtain⟨a,xs,rfl,n,hx,hd⟩:=hv.dN;have key:∀{nb C σ H},Wd (G.hd f (.list ds) (.ref a)) nb C σ H->∃xs,H a=some (.lst xs)/\af (G.S nb f) H ds xs:=λW=>by
   obtain⟨u,l,e',_,h',d'⟩:=W.mO.2.dN;cases e';exact⟨l,h',d'⟩
  refine⟨a,rfl,⟨xs, .of hx⟩,?_⟩;refine⟨λi m σ H=>m=ds.length-i/\i<=ds.length/\∃nb C,I i C/\Wd (G.hd f (.list ds) (.ref a)) nb C σ H,⟨ds.length,by simp,eW _,nb,ρ,h0,W1⟩,?_⟩;rintro i m σ H ⟨rfl,hi,nb,C,hI,W⟩;obtain⟨ys,hy,c⟩:=key W;have hl:=c.length;by_cases hlt:i<ds.length
  .refine .inr ⟨⟨ys,ys[i]'∅, .of hy,aQ _⟩,λσ H=>∃nb C,I (i+1) C/\Wd (G.hd f (.list ds) (.ref a)) nb C σ H,λL H' q=>⟨ds.length-(i+1),∅,rfl,hlt,q⟩,λx H' y=>?_⟩;obtain⟨e,y⟩:=y;subst e;have hx:=y ys (.of hy);obtain⟨J,M,dx⟩:=c.get (aQ hlt);rw[hx] at M;cases M
   refine ht i _ C (aQ hlt) hI nb σ _ _ _ W dx λk g q W2=>q nb k _ _ W2 ?_;exact⟨λnb ρ σ H q W=>⟨nb,ρ,q,W⟩,λnb ρ σ H q W=>KK.nx nb ρ σ H q W.mO.1,λnb ρ σ H q W=>⟨nb,ρ,q,W⟩,λnb ρ σ f v H d q W hv=>KK.rt nb ρ σ f v H d q W.mO.1 hv,λnb ρ σ v H q W=>KK.rw nb ρ σ v H q W.mO.1⟩
  .have e:i=ds.length:=∅
   subst e;exact .inl ⟨⟨ys, .of hy,∅⟩,KK.nx nb C σ H (he C hI) W.mO.1⟩
theorem OR{c:TT}(I:Rh->Prop)(a:Rh->Nat)(h0:I ρ)(h:∀C,I C->Tv G C c λb=>if b=true then Sv G C s {nx:=λg=>I g/\a g<a C,rt:=E.rt,bk:=E.nx,ct:=λg=>I g/\a g<a C,rw:=E.rw} else E.nx C):Sv G ρ (Ad c s) E:=λnb σ H D W KK=>by
  refine⟨λm σ H=>∃nb C,I C/\Wd G nb C σ H/\m=a C,⟨_,nb,ρ,h0,W,rfl⟩,?_⟩;rintro m σ H ⟨nb,C,hI,W,rfl⟩;refine h C hI nb σ H _ W λb H1 q s1=>?_;cases b with
  | true =>
    rw[if_pos rfl] at q⊢;refine⟨λL H'=>∃nb g,(I g/\a g<a C)/\Wd G nb g L H',λL H' ⟨nb,g,⟨J,M⟩,W2⟩=>⟨a g,M,nb,g,J,W2,rfl⟩,q nb σ H1 _ (W.step s1) ?_⟩;exact⟨λnb ρ σ H q W=>⟨nb,ρ,q,W⟩,KK.nx,λnb ρ σ H q W=>⟨nb,ρ,q,W⟩,KK.rt,KK.rw⟩
  |false=>rw[if_neg bT] at q⊢;exact KK.nx nb C σ H1 q (W.step s1)
end Sv
noncomputable def kT(mp:List (Option Nat))(ρ:Rh):Rh:=mp.map λo=>match o with|none=> .no|some j=>match ρ[j]? with|some s=>s|none=> .no
theorem zH(h:(mp.filterMap id).Nodup):∀{i j k:Nat},mp[i]?=some (some k)->mp[j]?=some (some k)->i=j:=by
  induction mp with
  |nil=>intro i j k e;simp at e
  | cons o r ih =>
    intro i j k e1 e2;have hr:(r.filterMap id).Nodup:=by
      cases o with
      |none=>simpa using h
      |some x=>rw[Lw (by rfl)] at h;exact(dU.mp h).2
    have hn:∀{m:Nat},r[m]?=some (some k)->o≠some k:=λ{m} hm e=>by
      subst e;rw[Lw (by rfl)] at h;exact(dU.mp h).1 (AR.mpr ⟨some k,c8 hm,rfl⟩)
    cases i with
    | zero =>
      cases j with
      |zero=>rfl
      |succ j=>simp at e1 e2;exact absurd e1 (hn e2)
    | succ i =>
      cases j with
      |zero=>simp at e1 e2;exact absurd e2 (hn e1)
      |succ j=>simp at e1 e2;rw[ih hr e1 e2]
theorem Wd.fT{nb:aw->Prop}{σ:qb}{H:Hp}{mp:List (Option Nat)}(W:Wd G nb ρ σ H)(hm:(mp.filterMap id).Nodup):Wd G nb (kT mp ρ) (fT mp σ) H:=by
  have B:∀{i:Nat} {s:Sl},(kT mp ρ)[i]?=some s->s= .no\/∃k,mp[i]?=some (some k)/\ρ[k]?=some s:=λ{i s} e=>by
    unfold kT at e;rw[cB] at e;obtain⟨o,U,e⟩:=jJ.mp e;cases o with
    |none=>exact .inl e.symm
    | some k =>
      cases hk:ρ[k]? with
      |none=>simp only[hk] at e;exact .inl e.symm
      |some s'=>simp only[hk] at e;subst e;exact .inr ⟨k,U,hk⟩
  refine⟨W.ao,W.live,W.old,W.cP,W.gA,by unfold L2.fT kT;rw[ak,ak],W.gB,W.ez,λi s e=>?_,λi j a f as c g cs hij e1 e2=>?_,λi j a f as c g cs hij e1 e2=>?_,λi j c t hij e1 e2 a ha=>?_⟩
  · have hi:i<mp.length:=by have:=(bH.mp e).1;unfold kT at this;rwa[ak] at this
    rcases B e with rfl|⟨k,hk,hs⟩
    · exact⟨_,by unfold L2.fT;rw[cB,aQ hi];rfl,trivial⟩
    · obtain⟨x,e1,h⟩:=W.ok k s hs
      refine⟨x,?_,h⟩;unfold L2.fT;rw[cB,hk];simp only[ox,e1]
  · rcases B e1 with z|⟨k,hk,hs⟩
    · cases z
    rcases B e2 with z|⟨k',hk',hs'⟩
    · cases z
    exact W.apart k k' a f as c g cs (λz=>by subst z;exact hij (zH hm hk hk')) hs hs'
  · rcases B e1 with z|⟨k,hk,hs⟩
    · cases z
    rcases B e2 with z|⟨k',hk',hs'⟩
    · cases z
    exact W.fQ k k' a f as c g cs (λz=>by subst z;exact hij (zH hm hk hk')) hs hs'
  · rcases B e1 with z|⟨k,hk,hs⟩
    · cases z
    rcases B e2 with z|⟨k',hk',hs'⟩
    · subst z;exact λz=>by cases z
    exact W.dw k k' c t (λz=>by subst z;exact hij (zH hm hk hk')) hs hs' a ha
def Hx(ρ:Rh)(acc:aw):Prop:=(∀(j:Nat) a f ds,ρ[j]?=some (.own a f ds)->a≠acc)/\∀(j:Nat) c,ρ[j]?=some (.cu c)->acc∉c.F
def iw(G:Gx)(bL:Rh)(n:Nat)(it:Nat->PyData->Prop)(fi:Bool)(gt:TG)(tc:TT)(te:TE)(Θ:Bool->List PyData->Prop):Prop:=
 ∃(fl:Bool) (I:Nat->List PyData->Prop),I 0 []/\(∀i d ds,it i d->ds.length<=i->I i ds->Gv G bL gt fi d λp=>Wk bL p/\Tv G p tc λb=>if b=true then Ev G p te λf e=>(fl=true->f=true)/\I (i+1) (ds++[e]) else I (i+1) ds)/\
  ∀ds,ds.length<=n->I n ds->Θ (fl||dZ ds) ds
theorem Dl{gt:TG}{x:V}{fi:Bool}{N:qb->Hp->Prop}{ds:List PyData}(hn:n<=10000)(hi:i<n)
    (W:Wd G nb bL σ H) (ha:nb acc) (hN:NB G.B acc) (hno:Hx bL acc) (st:Step G.B H1 H) (g:H1 acc=none) (hx:H acc=some (.lst xs)) (hd:af (G.S nb fl) H ds xs) (hl:ds.length<=i) (m:ah (G.S nb fi) H d x)
    (h:Gv G bL gt fi d λp=>Wk bL p/\Tv G p tc λb=>if b=true then Ev G p te λf e=>(fl=true->f=true)/\I (i+1) (ds++[e]) else I (i+1) ds)
    (z:∀σ' H' ds' xs',Wd G nb bL σ' H'->Step G.B H1 H'->H' acc=some (.lst xs')->af (G.S nb fl) H' ds' xs'->ds'.length<=i+1->I (i+1) ds'->N σ' H'):
    gt x σ H λk H2=>tc k H2 λb H3=>if b=true then te k H3 λv H4=>∃ys,H4 acc=some (.lst ys)/\ys.length<sizeLine/\N k (upd H4 acc (.lst (ys++[v]))) else N k H3:=by
  refine h nb σ H x _ W m λk p ⟨wk,q⟩ W2=>q nb k H _ W2 λb H3 q3 s3=>?_;have HX:=s3.1 _ _ hN hx;have FP:=hd.keep (s3.c9 (nb:=nb) (f:=fl));cases b with
  | false =>
    rw[if_neg bT] at q3⊢;exact z k H3 ds xs ((W2.step s3).wk wk) (st.trans s3) HX FP ∅ q3
  | true =>
    rw[if_pos rfl] at q3⊢;refine q3 nb k H3 _ (W2.step s3) λf v H4 e ⟨hf,hI⟩ s4 hv=>?_;have rm:=s4.1 _ _ hN HX;have WV:=FP.keep (s4.c9 (nb:=nb) (f:=fl));have hlen:=hd.length;refine⟨xs,rm,eG (show xs.length<10001 by omega) ⋯,?_⟩;have W4:Wd G nb bL k H4:=((W2.step s3).step s4).wk wk;have bt:aP (G.S nb fl) H4 (upd H4 acc (.lst (xs++[v]))):=aP.set (.inl ha)
    have E:Wd G nb bL k (upd H4 acc (.lst (xs++[v]))):=W4.write ha hN hno.1 (λj a f ds e z=>by
      subst z;obtain⟨_,_,_,_,_,ps,hp,_⟩:=W4.ok j _ e;rw[rm] at hp;cases hp) hno.2
    refine z k _ (ds++[e]) (xs++[v]) E ⟨λa o n q=>?_,E.ao⟩ aT (af.snoc ((hv.av (bM hf λ_ z=>z)).keep bt) (WV.keep bt)) (by rw[gx,j8];omega) hI;have T:a≠acc:=λz=>by subst z;rw[g] at q;cases q
    rw[aM T];exact(st.trans (s3.trans s4)).1 a o n q
theorem yv(W:Wd G nb ρ σ H)(ha:H a=none):Hx ρ a:=by
 refine⟨λj c f ds e z=>?_,λj c e z=>?_⟩
 .subst z;obtain⟨x,e1,h1,h2,h3,ys,hy,_⟩:=W.ok j _ e;rw[hy] at ha;cases ha
 .obtain⟨x,e1,h1,h2,h3⟩:=W.ok j _ e;exact W.live a (h2 a z).1 ha
theorem Ve{f:Bool}:∀x,(G.S nb f x\/x=a)->G.S (λx=>nb x\/x=a) f x:=λx z=>by
 rcases z with (z|z|z|z)|z
 .exact .inl (.inl z)
 .exact .inr (.inl z)
 .exact .inr (.inr (.inl z))
 .exact .inr (.inr (.inr z))
 .exact .inl (.inr z)
theorem Ar{Q:VK}{ds:List PyData}(W:Wd G nb ρ σ H)(s1:Step G.B H H1)(g:H1 acc=none)(s2:Step G.B H1 H')(hx:H' acc=some (.lst xs))(hd:af (G.S (λx=>nb x\/x=acc) fl) H' ds xs)(p:Θ (fl||dZ ds) ds)
  (z:∀f a xs H' ds,Θ f ds->Step G.B H H'->H a=none->H' a=some (.lst xs)->af (λx=>G.S nb f x\/x=a) H' ds xs->Q (.ref a) H'):Q (.ref acc) H':=by
 refine z _ acc xs H' ds p (s1.trans s2) (W.none_of s1 g) hx ?_;cases hs:dZ ds with
 |true=>exact af.fF hs hd
 |false=>rw[nY];exact hd.av Ve
theorem NB.new{B:Bg}(h:jB B H)(ha:H a=none):NB B a:=iS λz=>NB.lY h z ha
namespace au
variable{Θ:Bool->List PyData->Prop}{gt:TG}{tc:TT}{mp:List (Option Nat)}
theorem VA{lo:Int}{Q:VK}(W:Wd G nb ρ σ H)(s1:Step G.B H H1)(hm:(mp.filterMap id).Nodup)(r:kT mp ρ=bL)(hn:n<=10000)(h:iw G bL n (λi d=>i<n/\d= .int (lo+i)) true gt tc te Θ)
  (z:∀f a xs H' ds,Θ f ds->Step G.B H H'->H a=none->H' a=some (.lst xs)->af (λx=>G.S nb f x\/x=a) H' ds xs->Q (.ref a) H') (acc:aw) (g:H1 acc=none):pY (i8 lo n) gt tc te acc (λH'=>Q (.ref acc) H') (fT mp σ) (upd H1 acc (.lst [])):=by
 obtain⟨fl,I,h0,ht,he⟩:=h;have W0:Wd G nb bL (L2.fT mp σ) H1:=by rw[<-r];exact(W.step s1).fT hm
 have W1:=W0.more g (o:= .lst []);have hN:=NB.new s1.2 g;have hno:=yv W0 g;have cG:Step G.B H1 (upd H1 acc (.lst [])):= .same s1.2 (cF g);refine R.Gi (λi σ H=>∃ds xs,Wd G (λx=>nb x\/x=acc) bL σ H/\Step G.B H1 H/\H acc=some (.lst xs)/\af (G.S (λx=>nb x\/x=acc) fl) H ds xs/\ds.length<=i/\I i ds) ⟨[],[],W1,cG,aT, .nil,aF _,h0⟩ ?_ ?_
 .rintro i σ H hi ⟨ds,xs,W,st,hx,hd,hl,hI⟩;exact Dl hn hi W (.inr rfl) hN hno st g hx hd hl (.int _) (ht i _ ds ⟨hi,rfl⟩ hl hI) λL H' k l W' st' M j b s=>⟨k,l,W',st',M,j,b,s⟩
 .rintro σ H' ⟨ds,xs,W',st,hx,hd,hl,hI⟩;exact Ar W s1 g st hx hd (he ds hl hI) z
theorem nq(hm:(mp.filterMap id).Nodup)(r:kT mp ρ=bL)(h:Ev G ρ t0 λ_ x=>∃n:Int,x= .int n/\ -10000<=n/\n<=10000/\iw G bL n.toNat (λi d=>i<n.toNat/\d= .int (0+i)) true gt tc te Θ):au G ρ (k8 (uD (aX t0 bK)) gt tc te mp) Θ:=λnb σ H Q W z=>
 h nb σ H _ W λf v H1 x ⟨n,ex,h1,h2,q⟩ s1 hv=>by
  subst ex;rw[hv.cz];exact⟨n,rfl,∅,∅,VA W s1 hm r ∅ q z⟩
theorem i9(hm:(mp.filterMap id).Nodup)(r:kT mp ρ=bL)(h:Ev G ρ t0 λfi x=>∃es,x= .list es/\es.length<=10000/\∀v,iw (G.hd fi (.list es) v) bL es.length (λi d=>es[i]?=some d) fi gt tc te Θ):au G ρ (k8 (mL K t0) gt tc te mp) Θ:=λnb σ H Q W z=>
 h nb σ H _ W λfi v H1 x ⟨es,ex,hn,q⟩ s1 hv=>by
  subst ex;obtain⟨fl,I,h0,ht,he⟩:=q v;have W0:=(W.step s1).hd hv;obtain⟨a,xs,rfl,n,hx,hd⟩:=hv.dN;refine⟨a,rfl,⟨xs, .of hx⟩,λacc g=>?_⟩;have w:Wd (G.hd fi (.list es) (.ref a)) nb bL (L2.fT mp σ) H1:=by rw[<-r];exact W0.fT hm
  have W1:=w.more g (o:= .lst []);have hN:=NB.new s1.2 g;have hno:=yv w g;have cG:Step G.B H1 (upd H1 acc (.lst [])):= .same s1.2 (cF g);have t:NB G.B a:=iS λz=>n (.inr (.inr (.inl z)));refine R.Di (xs:=xs) (λi σ H=>∃ds ys,Wd (G.hd fi (.list es) (.ref a)) (λx=>nb x\/x=acc) bL σ H/\Step G.B H1 H/\H acc=some (.lst ys)/\af (G.S (λx=>nb x\/x=acc) fl) H ds ys/\ds.length<=i/\I i ds) ⟨[],[],W1,cG,aT, .nil,aF _,h0⟩ ?_ ?_ ?_
  .rintro i σ H hi ⟨ds,ys,W,st,_⟩;exact .of (st.1 _ _ t hx)
  .rintro i x σ H hi ⟨ds,ys,W,st,hy,j,hl,hI⟩;obtain⟨u,l,e',_,h',d'⟩:=W.mO.2.dN;cases e';rw[st.1 _ _ t hx] at h';cases h'
   have hil:i<es.length:=by have:=(bH.mp hi).1;have:=d'.length;omega
   obtain⟨J,M,dx⟩:=d'.get (aQ hil);rw[hi] at M;cases M
   exact Dl (G:=G.hd fi (.list es) (.ref a)) hn hil W (.inr rfl) hN hno st g hy j hl dx (ht i _ ds (aQ hil) hl hI) λL H' k l W' st' M j b s=>⟨k,l,W',st',M,j,b,s⟩
  .rintro σ H' ⟨ds,ys,W',st,hy,j,hl,hI⟩;rw[hd.length] at hl hI;exact Ar W s1 g st hy j (he ds hl hI) z
end au
end
section
variable{ρ:Rh}{t:TS}{N:List Str}{vs:List V}{ds:List PyData}{nb:aw->Prop}{H:Hp}{Q:VK}{Φ:Pd}{b l:aw}
theorem j3(h:af nb H ds xs){i:Nat}{s:Sl}(e:(ds.map (Sl.d false))[i]?=some s):∃v d,xs[i]?=some v/\s= .d false d/\ah nb H d v:=by
 rw[cB] at e;obtain⟨d,hd,e⟩:=jJ.mp e;obtain⟨v,hv,q⟩:=h.get hd;exact⟨v,d,hv,e.symm,q⟩
theorem Sv.jY(hl:gy nb H)(hd:af nb H ds vs)(G:∀f d v H',Φ f d->bU H H'->ah (λa=>nb a\/(f=true/\H a≠none)) H' d v->Q v H')
  (r:ρ=ds.map (Sl.d false)++cj (N.length-ds.length) .no) (h:Sv ⟨none,H,nb,[]⟩ ρ t {nx:=λ_=>Φ true .none,rt:=Φ}):t {nx:=λ_ H'=>Q .aD H',rt:=Q} (start N vs) H:=by
 have hlen:=hd.length;have sm:∀{ay C L H'},Wd ⟨none,H,nb,[]⟩ ay C L H'->bU H H':=λW a o e=>W.old a o (λ_ _ z=>(by cases z)) e;refine h (λ_=>False) _ H _ ⟨λ_ _ z=>(by cases z),λ_ z=>z.elim,λ_ _ _ e=>e,λ_ z=>z.elim,hl,?_,λ_ _ z=>(by cases z),λ_ m=>(by cases m),λi s e=>?_,?_,?_,?_⟩ ⟨λay C L H' q W=>G _ _ _ _ q (sm W) .aD,λ_ _ _ _ q _=>q.elim,λ_ _ _ _ q _=>q.elim,λay C L f v H' d q W hv=>G f d v H' q (sm W) (hv.av λa z=>?_),λ_ _ _ _ _ q _=>q.elim⟩;·rw[r];unfold start;simp[hlen]
 .rw[r] at e;unfold start;by_cases hi:i<ds.length
  .rw[fG (by rw[ak];exact hi)] at e;obtain⟨v,d,hv,rfl,q⟩:=j3 hd e;refine⟨some v,?_,v,rfl,q.av λa z=>?_⟩;·rw[fG (by rw[ak,hlen];exact hi),cB,hv];rfl
   .rcases z with z|z|z|z
    .exact z.elim
    .exact z
    .exact absurd (λ_ _ z=>(by cases z)) z
    .cases z.1
  .rw[gb (by rw[ak];omega),fZ] at e;split at e
   .rename_i h'
    cases e;refine⟨none,?_,trivial⟩;rw[ak] at h';rw[gb (by rw[ak];omega),fZ,if_pos (by rw[ak,hlen];exact h')]
   .cases e
 .intro i j a f as c g cs hij e1;rw[r] at e1;by_cases hi:i<ds.length
  .rw[fG (by rw[ak];exact hi)] at e1;obtain⟨_,_,_,z,_⟩:=j3 hd e1;cases z
  .rw[gb (by rw[ak];omega),fZ] at e1;split at e1<;>cases e1
 .intro i j a f as c g cs hij e1;rw[r] at e1;by_cases hi:i<ds.length
  .rw[fG (by rw[ak];exact hi)] at e1;obtain⟨_,_,_,z,_⟩:=j3 hd e1;cases z
  .rw[gb (by rw[ak];omega),fZ] at e1;split at e1<;>cases e1
 .intro i j c t hij e1;rw[r] at e1;by_cases hi:i<ds.length
  .rw[fG (by rw[ak];exact hi)] at e1;obtain⟨_,_,_,z,_⟩:=j3 hd e1;cases z
  .rw[gb (by rw[ak];omega),fZ] at e1;split at e1<;>cases e1
 .rcases z with z|z
  .exact .inr (.inl z)
  .exact .inr (.inr (.inr z))
theorem Sv.kg(M:dO H b l)(hl:gy nb H)(hb:nb b)(hd:af nb H ds vs)(G:∀f d v H',Φ f d->aP (Nb b) H H'->dO H' b l->ah (λa=>nb a\/(f=true/\H a≠none)) H' d v->Q v H')
    (r:ρ= .ao::ds.map (Sl.d false)++cj (N.length-(ds.length+1)) .no) (h:Sv ⟨some (b,l),H,nb,[]⟩ ρ t {nx:=λ_=>Φ true .none,rt:=Φ}):t {nx:=λ_ H'=>Q .aD H',rt:=Q} (start N (.ref b::vs)) H:=by
  have hlen:=hd.length;have y:∀a,a≠b->NB (some (b,l)) a:=λa n w k e=>by cases e;exact n
  have u:∀a,¬NB (some (b,l)) a->a=b:=λa n=>iS λz=>n (y a z);have bt:∀{ay C L H'},Wd ⟨some (b,l),H,nb,[]⟩ ay C L H'->aP (Nb b) H H':=λW a o n e=>W.old a o (y a n) e;have p:∀{ay C L H'},Wd ⟨some (b,l),H,nb,[]⟩ ay C L H'->dO H' b l:=λW=>W.ao b l rfl;refine h (λ_=>False) _ H _ ⟨λw k e=>(by cases e;exact M),λ_ z=>z.elim,λ_ _ _ e=>e,λ_ z=>z.elim,hl,?_,λw k e=>(by cases e;exact M),λ_ m=>(by cases m),λi s e=>?_,?_,?_,?_⟩ ⟨λay C L H' q W=>G _ _ _ _ q (bt W) (p W) .aD,λ_ _ _ _ q _=>q.elim,λ_ _ _ _ q _=>q.elim,λay C L f v H' d q W hv=>G f d v H' q (bt W) (p W) (hv.av λa z=>?_),λ_ _ _ _ _ q _=>q.elim⟩;· rw[r];unfold start;simp[hlen]
  · rw[r] at e
    unfold start;cases i with
    |zero=>simp at e;subst e;exact⟨some (.ref b),by simp,b,l,rfl,rfl⟩
    | succ i =>
      simp only[j5,jS,bw,eY] at e⊢;by_cases hi:i<ds.length
      · rw[fG (by rw[ak];exact hi)] at e
        obtain⟨v,d,hv,rfl,q⟩:=j3 hd e;refine⟨some v,?_,v,rfl,q.av λa z=>?_⟩;· rw[fG (by rw[ak,hlen];exact hi),cB,hv];rfl
        · rcases z with z|z|z|z
          · exact z.elim
          · exact z
          · rw[u a z];exact hb
          · cases z.1
      · rw[gb (by rw[ak];omega),fZ] at e
        split at e
        · rename_i h'
          cases e;refine⟨none,?_,trivial⟩;rw[ak] at h';rw[gb (by rw[ak];omega),fZ,if_pos (by rw[ak,hlen];exact h')]
        · cases e
  · intro i j a f as c g cs hij e1
    rw[r] at e1;cases i with
    |zero=>simp at e1
    | succ i =>
      simp only[j5,jS] at e1;by_cases hi:i<ds.length
      · rw[fG (by rw[ak];exact hi)] at e1
        obtain⟨_,_,_,z,_⟩:=j3 hd e1;cases z
      · rw[gb (by rw[ak];omega),fZ] at e1
        split at e1<;>cases e1
  · intro i j a f as c g cs hij e1
    rw[r] at e1;cases i with
    |zero=>simp at e1
    | succ i =>
      simp only[j5,jS] at e1;by_cases hi:i<ds.length
      · rw[fG (by rw[ak];exact hi)] at e1
        obtain⟨_,_,_,z,_⟩:=j3 hd e1;cases z
      · rw[gb (by rw[ak];omega),fZ] at e1
        split at e1<;>cases e1
  · intro i j c t hij e1
    rw[r] at e1;cases i with
    |zero=>simp at e1
    | succ i =>
      simp only[j5,jS] at e1;by_cases hi:i<ds.length
      · rw[fG (by rw[ak];exact hi)] at e1
        obtain⟨_,_,_,z,_⟩:=j3 hd e1;cases z
      · rw[gb (by rw[ak];omega),fZ] at e1
        split at e1<;>cases e1
  · rcases z with z|z
    · exact .inr (.inl z)
    · exact .inr (.inr (.inr z))
noncomputable def zu(b l:aw)(H:Hp):Gx:=⟨some (b,l),H,λ_=>False,[]⟩
theorem Yk(M:dO H b l):Wd (zu b l H) (λ_=>False) (.raw (.ref a):: .ao::cj m .no) (some (.ref a)::some (.ref b)::cj m none) H:=by
  refine⟨λw k e=>(by cases e;exact M),λ_ z=>z.elim,λ_ _ _ e=>e,λ_ z=>z.elim,λ_ z=>z.elim,by simp,λw k e=>(by cases e;exact M),λ_ m=>(by cases m),λi s e=>?_,?_,?_,?_⟩
  · match i with
    |0=>simp at e;subst e;exact⟨_,rfl,rfl⟩
    |1=>simp at e;subst e;exact⟨some (.ref b),rfl,b,l,rfl,rfl⟩
    | i + 2 =>
      simp only[jS,fZ] at e⊢;split at e;· rename_i h;cases e;exact⟨none,if_pos h,trivial⟩
      · cases e
  · intro i j a f as c g cs hij e1
    match i with
    |0=>simp at e1
    |1=>simp at e1
    | i + 2 =>
      simp only[jS,fZ] at e1;split at e1<;>cases e1
  · intro i j a f as c g cs hij e1
    match i with
    |0=>simp at e1
    |1=>simp at e1
    | i + 2 =>
      simp only[jS,fZ] at e1;split at e1<;>cases e1
  · intro i j c t hij e1
    match i with
    |0=>simp at e1
    |1=>simp at e1
    | i + 2 =>
      simp only[jS,fZ] at e1;split at e1<;>cases e1
theorem Nh(h2:∀H,D.rt (.bl true) H):yQ (zu b l H) {nx:=λ_=>False,rt:=λ_ d=>d= .bool true} D:=
 ⟨λ_ _ _ _ q _=>q.elim,λ_ _ _ _ q _=>q.elim,λ_ _ _ _ q _=>q.elim,λ_ _ _ f v H d q _ hv=>by subst q;unfold ah at hv;subst hv;exact h2 H,λ_ _ _ _ _ q _=>q.elim⟩
end
namespace R
theorem di{P:Int->Prop}{i:Int}(h:P i):∃j,bj i= .int j/\P j:=⟨i,rfl,h⟩
theorem db{P:Bool->Prop}{i:Bool}(h:P i):∃j,uk i= .bool j/\P j:=⟨i,rfl,h⟩
theorem dl{P:List PyData->Prop}{i:List PyData}(h:P i):∃j,gO i= .list j/\P j:=⟨i,rfl,h⟩
theorem dt{P:List PyData->Prop}{i:List PyData}(h:P i):∃j,i0 i= .tuple j/\P j:=⟨i,rfl,h⟩
theorem WK{P:List PyData->Prop}{i:List PyData}(h:P i):∃j,(gO i= .list j\/gO i= .tuple j)/\P j:=⟨i, .inl rfl,h⟩
theorem Tw{P:List PyData->Prop}{i:List PyData}(h:P i):∃j,(i0 i= .list j\/i0 i= .tuple j)/\P j:=⟨i, .inr rfl,h⟩
theorem S7{P:Bool->Prop}{i j:Int}(h:P (decide (i=j))):∃b,gE (.int i) (.int j) b/\P b:=⟨_, .ii i j,h⟩
theorem M3{P:Bool->Prop}{x y:Bool}(h:P (x==y)):∃b,gE (.bool x) (.bool y) b/\P b:=⟨_, .bb x y,h⟩
theorem at_{k:Int}{e:PyData}{P:PyData->Prop}(h:bO ds k=some e)(q:P e):∃e,bO ds k=some e/\P e:=⟨e,h,q⟩
theorem TL{A:Prop}(q:A):([]:List Fd).length<=10000/\A:=⟨⋯,q⟩
theorem MK{C A:Prop}(c:C)(q:A):C/\A:=⟨c,q⟩
end R
theorem kL{F:DF}{Q:VK}{E:XK}(h:cQ n F vs H Q E):∃(nb:aw->Prop) (ds:List PyData) (Φ:Pd),gy nb H/\af nb H ds vs/\(∀f d v H',Φ f d->bU H H'->ah (λa=>nb a\/(f=true/\H a≠none)) H' d v->Q v H')/\F ds Φ:=by
 obtain⟨_,nb,ds,h1,h2,h3⟩:=h;exact⟨nb,ds,_,h1,h2,λf d v H' q=>q v H',h3⟩
theorem kU{F:DF}{Q:VK}{E:XK}(h:dM n F vs H Q E):∃(b l:aw) (ws:List V) (nb:aw->Prop) (ds:List PyData) (Φ:Pd),vs= .ref b::ws/\dO H b l/\gy nb H/\nb b/\af nb H ds ws/\(∀f d v H',Φ f d->aP (Nb b) H H'->dO H' b l->ah (λa=>nb a\/(f=true/\H a≠none)) H' d v->Q v H')/\F ds Φ:=by
 obtain⟨_,b,l,ws,nb,ds,e,M,h1,hb,h2,h3⟩:=h;exact⟨b,l,ws,nb,ds,_,e,M,h1,hb,h2,λf d v H' q=>q v H',h3⟩
noncomputable abbrev aC:=List (Int×Int)
noncomputable abbrev Wo:=List (Option Int)
noncomputable abbrev cN(prs:aC):PyData:= .list (prs.map xk)
noncomputable abbrev eV(wd:Wo):PyData:= .list (wd.map bS)
noncomputable abbrev cO(p n:Int)(cs:List aC):PyData:= .tuple [.int p, .int n, .list (cs.map cN)]
def p9(prs:aC)(m:Nat):Prop:=∀pr∈prs,0<=pr.1/\pr.1<m/\Sm pr.2
def ja(wd:Wo):Prop:=∀x,some x∈wd->Sm x
theorem su{c:Type}{xs:List α}(φ:α->c){k:Int}{m:Nat}(h0:0<=k)(h1:k<m)(hm:m=xs.length):∃x,xs[k.toNat]?=some x/\bO (xs.map φ) k=some (φ x):=by
 have hk:k.toNat<xs.length:=∅
 exact⟨xs[k.toNat],aQ hk,lF h0 (by rw[cB,aQ hk];rfl)⟩
theorem gQ{α c:Type}{xs:List α}{φ:α->c}{d:c}(h:(xs.map φ)[i]?=some d):∃x,xs[i]?=some x/\d=φ x:=by
 rw[cB] at h;obtain⟨x,hx,e⟩:=jJ.mp h;exact⟨x,hx,e.symm⟩
theorem xn{α:Type}{xs:List α}{x:α}(h:xs[i]?=some x):xs.take (i+1)=xs.take i++[x]:=by
 rw[B4,h];rfl
theorem tK(o:Option Int):tP (bS o)=o.isNone:=by cases o<;>rfl
structure Eu(p b L lt r t:Int):Prop where
 l0:0<L
 r0:0<=r
 lp:L<=p
 rp:r<=p
 lc:∃k,L=lt*b+p*k
 rc:∃k,r=t*b+p*k
 dv:∀d,d∣L->d∣r->d∣p/\d∣b%p
 sz:(t.natAbs:Int)*L+(lt.natAbs:Int)*r<=p
theorem Eu.start{b:Int}(hp:2<=p):Eu p b p 0 (b%p) 1:=by
 have m1:=gP b (show p≠0 by omega);have m2:=gM b (show 0<p by omega);refine⟨∅,m1,Int.le_refl _,∅,⟨1,by rw[tu,Int.zero_add,B7]⟩,⟨-(b/p),?_⟩,λd h1 h2=>⟨h1,h2⟩,?_⟩
 .have:=qo b p;rw[uM,uU];omega
 .show(1:Int)*p+0*(b%p)<=p;rw[uM,tu];omega
theorem Eu.tb{b L lt r t:Int}(h:Eu p b L lt r t): -p<=t/\t<=p:=by
 have h1:(t.natAbs:Int)*1<=(t.natAbs:Int)*L:=rQ (by have:=h.l0;omega) ∅;have h2:0<=(lt.natAbs:Int)*r:=pq ∅ h.r0;have:=h.sz;omega
theorem Eu.next{b L lt r t:Int}(h:Eu p b L lt r t)(hr:0<r):Eu p b r t (L-L/r*r) (lt-L/r*t)/\L-L/r*r<r:=by
 have e:=qo L r;have m1:=gP L (show r≠0 by omega);have m2:=gM L hr;have e':L-L/r*r=L%r:=by rw[oS (L/r) r];omega
 have q0:0<=L/r:=xP (by have:=h.l0;omega) ∅;obtain⟨k1,c1⟩:=h.lc;obtain⟨k2,c2⟩:=h.rc;refine⟨⟨hr,∅,h.rp,by have:=h.rp;omega,h.rc,⟨k1-L/r*k2,?_⟩,λd d1 d2=>?_,?_⟩,∅⟩
 .rw[u3,nW];generalize L/r=q at*;have z:q*r=q*(t*b)+q*(p*k2):=by rw[<-Dh,<-c2]
  have z1:q*(t*b)=q*t*b:=(lW q t b).symm;have z2:q*(p*k2)=p*(q*k2):=by rw[<-lW,oS q p,lW]
  omega
 .have c:d∣L:=by
   have z:d∣(L-L/r*r)+L/r*r:=Int.dvd_add d2 (Int.dvd_mul_of_dvd_right d1);have z2:(L-L/r*r)+L/r*r=L:=∅
   rwa[z2] at z
  exact h.dv d c d1
 .generalize L/r=q at*;have a1:((lt-q*t).natAbs:Int)<=(lt.natAbs:Int)+q*(t.natAbs:Int):=by
   have b1:(lt-q*t).natAbs<=lt.natAbs+(q*t).natAbs:=∅
   have b2:((q*t).natAbs:Int)=q*(t.natAbs:Int):=by
    rw[Cs];have:(q.natAbs:Int)=q:=∅
    rw[oy,this]
   omega
  have a2:((lt-q*t).natAbs:Int)*r<=((lt.natAbs:Int)+q*(t.natAbs:Int))*r:=Int.mul_le_mul_of_nonneg_right a1 ∅;have g:((lt.natAbs:Int)+q*(t.natAbs:Int))*r=(lt.natAbs:Int)*r+q*(t.natAbs:Int)*r:=Int.add_mul _ _ _;have a:(t.natAbs:Int)*(L-q*r)=(t.natAbs:Int)*L-q*(t.natAbs:Int)*r:=by
   rw[nW,<-lW,oS (t.natAbs:Int) q]
  have:=h.sz;omega
theorem HC{α:Type}{us:List α}(h:us.length=1):∃a,us=[a]:=by
  cases us with
  |nil=>cases h
  | cons a us =>
    cases us with
    |nil=>exact⟨a,rfl⟩
    |cons _ _=>cases h
theorem ln2{α:Type}{us:List α}(h:us.length=2):∃a b,us=[a,b]:=by
  cases us with
  |nil=>cases h
  | cons a us =>
    obtain⟨b,rfl⟩:=HC (us:=us) (vf h);exact⟨a,b,rfl⟩
theorem EL{α:Type}{us:List α}(h:us.length=3):∃a b c,us=[a,b,c]:=by
  cases us with
  |nil=>cases h
  | cons a us =>
    obtain⟨b,c,rfl⟩:=ln2 (us:=us) (vf h);exact⟨a,b,c,rfl⟩
theorem Jx{α:Type}{us:List α}(h:us.length=4):∃a b c d,us=[a,b,c,d]:=by
  cases us with
  |nil=>cases h
  | cons a us =>
    obtain⟨b,c,d,rfl⟩:=EL (us:=us) (vf h);exact⟨a,b,c,d,rfl⟩
theorem M4{α:Type}{us:List α}(h:us.length=5):∃a b c d e,us=[a,b,c,d,e]:=by
  cases us with
  |nil=>cases h
  | cons a us =>
    obtain⟨b,c,d,e,rfl⟩:=Jx (us:=us) (vf h);exact⟨a,b,c,d,e,rfl⟩
def kc(xs:Array Nat):Prop:=∀(i j x y:Nat),i<j->xs[i]?=some x->xs[j]?=some y->x<y
theorem U8{xs:Array Nat}{q:Nat}(hr:kc xs):∀(f lo hi:Nat),hi<=xs.size->lo<=hi->hi-lo<=f->(∀i x,i<lo->xs[i]?=some x->x<q)->(∀i x,hi<=i->xs[i]?=some x->q<=x)->
    lo<=eM xs q f lo hi/\eM xs q f lo hi<=hi/\(∀i x,i<eM xs q f lo hi->xs[i]?=some x->x<q)/\(∀i x,eM xs q f lo hi<=i->xs[i]?=some x->q<=x):=by
  intro f;induction f with
  | zero =>
    intro lo hi h1 h2 h3 h4 h5;have e:lo=hi:=∅
    subst e;exact⟨aF _,aF _,h4,h5⟩
  | succ f ih =>
    intro lo hi h1 h2 h3 h4 h5;unfold eM;by_cases hlt:lo<hi
    · rw[if_pos hlt]
      have hm:(lo+hi)/2<xs.size:=∅
      have hg:xs[(lo+hi)/2]?=some xs[(lo+hi)/2]:=kJ hm;have y:xs.getD ((lo+hi)/2) q=xs[(lo+hi)/2]:=by rw[D6,hg];rfl
      dsimp only;rw[y];by_cases hc:xs[(lo+hi)/2]<q
      · rw[if_pos hc]
        obtain⟨a1,a2,g,a⟩:=ih ((lo+hi)/2+1) hi h1 ∅ ∅ (λi x c e=>by
          rcases so i ((lo+hi)/2) with z|z
          · exact rM (hr i _ x _ z e hg) hc
          · have:i=(lo+hi)/2:=∅
            subst this;rw[hg] at e;cases e;exact hc) h5
        exact⟨∅,a2,g,a⟩
      · rw[if_neg hc]
        obtain⟨a1,a2,g,a⟩:=ih lo ((lo+hi)/2) ∅ ∅ ∅ h4 (λi x c e=>by
          rcases so ((lo+hi)/2) i with z|z
          · exact j4 (uA (Bs hc) (hr _ i _ x z hg e))
          · have:i=(lo+hi)/2:=∅
            subst this;rw[hg] at e;cases e;exact Bs hc)
        exact⟨a1,∅,g,a⟩
    · rw[if_neg hlt]
      have e:lo=hi:=∅
      subst e;exact⟨aF _,aF _,h4,h5⟩
theorem below_at{xs:Array Nat}{q:Nat}(hr:kc xs):SetTable.below xs q<=xs.size/\(∀i x,i<SetTable.below xs q->xs[i]?=some x->x<q)/\(∀i x,SetTable.below xs q<=i->xs[i]?=some x->q<=x):=by
 obtain⟨_,h2,h3,h4⟩:=U8 (q:=q) hr xs.size 0 xs.size (aF _) (eW _) ∅ (λi x h=>absurd h (Nat.not_lt_zero _)) (λi x h e=>by
  have:=(rV.mp e).1;omega)
 exact⟨h2,h3,h4⟩
theorem V7{α:Type}{xs:Array α}{p:Nat}{x:α}(hp:p<=xs.size)(i:Nat):(hH xs p x)[i]?=if i<p then xs[i]? else if i=p then some x else xs[i-1]?:=by
 unfold hH;rw[Le];have e1:((xs.extract 0 p).push x).size=p+1:=by rw[sS,fB];omega
 rw[e1];by_cases h1:i<p
 .rw[if_pos (show i<p+1 by omega),if_pos h1,zC,if_neg (by rw[fB];omega),IJ ∅];simp
 .rw[if_neg h1];by_cases h2:i=p;·rw[if_pos (show i<p+1 by omega),if_pos h2,zC,if_pos (by rw[fB];omega)]
  .rw[if_neg (show¬i<p+1 by omega),if_neg h2];by_cases h3:i-(p+1)<xs.size-p;·rw[IJ ∅,<-kJ,show p+(i-(p+1))=i-1 by omega]
   .rw[Ak (by rw[fB];omega),Ak ∅]
theorem kc.insert{xs:Array Nat}{q:Nat}(hr:kc xs)(hq:xs[SetTable.below xs q]?≠some q):kc (hH xs (SetTable.below xs q) q):=by
 obtain⟨h1,h2,h3⟩:=below_at (q:=q) hr;have d:∀i x,SetTable.below xs q<=i->xs[i]?=some x->q<x:=λi x hi e=>by
  rcases DG (h3 i x hi e) with z|z
  .exact z
  .subst z;rcases DG hi with z|z
   .have hb:SetTable.below xs q<xs.size:=eG z (j4 (rV.mp e).1);have hg:xs[SetTable.below xs q]?=some xs[SetTable.below xs q]:=kJ hb;have:=hr _ i _ q z hg e;have:=h3 _ _ (aF _) hg;omega
   .rw[<-z] at e;exact absurd e hq
 intro i j x y hij ex m;rw[V7 h1] at ex m;by_cases a:i<SetTable.below xs q
 .rw[if_pos a] at ex;by_cases b:j<SetTable.below xs q;·rw[if_pos b] at m;exact hr i j x y hij ex m
  .rw[if_neg b] at m;by_cases c:j=SetTable.below xs q;·rw[if_pos c] at m;cases m;exact h2 i x a ex
   .rw[if_neg c] at m;exact hr i (j-1) x y ∅ ex m
 .rw[if_neg a] at ex;by_cases c:i=SetTable.below xs q
  .rw[if_pos c] at ex;cases ex
   rw[if_neg ∅,if_neg ∅] at m;exact d (j-1) y ∅ m
  .rw[if_neg c] at ex;rw[if_neg ∅,if_neg ∅] at m;exact hr (i-1) (j-1) x y ∅ ex m
theorem Qx{t:el}{h:Int}:∀(f:Nat) (p:px) (j:Nat) (a:Option Nat),(∀d,p.dummy=some d->t.slot d= .dummy)->hJ t ha h f p=some (.empty j a)->t.slot j= .empty/\∀d,a=some d->t.slot d= .dummy:=by
  intro f;induction f with
  |zero=>intro p j a _ e;unfold hJ at e;cases e
  | succ f ih =>
    intro p j a hd e;have b:∀p:px,(t.advance p).dummy=p.dummy:=λp=>by unfold SetTable.advance;split<;>rfl
    unfold hJ at e;cases hs:t.slot p.j with
    |empty=>rw[hs] at e;cases e;exact⟨hs,hd⟩
    |dummy=>rw[hs] at e;exact ih _ j a (λd h'=>by rw[b] at h';cases h';exact hs) e
    | live i =>
      rw[hs] at e;dsimp only at e;split at e;· cases e
      · exact ih _ j a (λd h'=>by rw[b] at h';exact hd d h') e
theorem JK{t:el}{h:Int}{wd:Bool}(e:t.freeSlot h=some (j,wd)):∀i,t.slot j≠ .live i:=by
 unfold SetTable.freeSlot SetTable.probe at e;intro i z;split at e
 .rename_i j0 dm he
  obtain⟨h1,h2⟩:=Qx (10*SetTable.turns t.mask) (t.probeStart h) j0 dm (λd h'=>by unfold SetTable.probeStart at h';cases h') he;cases dm with
  |none=>cases e;simp at z;rw[h1] at z;cases z
  |some d=>cases e;simp at z;rw[h2 d rfl] at z;cases z
 .cases e
structure eg(bt:Bool)(t:el):Prop where
 led:bt=false->t.led=true
 Cj:t.plain=true->kc t.place
theorem eg.standIn{bt:Bool}{t:el}(h:eg bt t)(n:Nat):eg bt (t.standIn n):=⟨h.led,λz=>by cases z⟩
theorem eg.off{t:el}(h:eg bt t):eg bt {t with plain:=false}:=⟨h.led,λz=>by cases z⟩
theorem eg.put{bt:Bool}{t:el}{j:Nat}(h:eg bt t)(hj:∀i,t.slot j≠ .live i):eg bt (t.put j).1:=by
 refine⟨h.led,λz=>?_⟩;refine kc.insert (h.Cj z) λe=>hj (SetTable.below t.place j) ?_;unfold SetTable.slot;dsimp only;rw[if_pos (by rw[e];exact beq_self_eq_true _)]
theorem eg.layNew{bt:Bool}{t:el}{es:Array (Int×ag)}{h:Int}{x:ag}(ok:eg bt t):eg bt (layNew t es h x).2.1:=by
 unfold PySem.layNew;split
 .rename_i slot wd e
  dsimp only;unfold SetTable.orStandIn;split;·exact ok.put (JK e)
  .exact(ok.put (JK e)).standIn _
 .exact ok.standIn _
theorem WJ(n:Nat)(φ:Nat->Option Nat):kc (((bp n).filterMap λj=>(φ j).map (j,·)).map (·.1)).toArray:=by
  have hp:(((bp n).filterMap λj=>(φ j).map (j,·)).map (·.1)).Pairwise (· < ·):=by
    have hs:List.Sublist (((bp n).filterMap λj=>(φ j).map (j,·)).map (·.1)) (bp n):=by
      induction bp n with
      |nil=>simp
      | cons a r ih =>
        rw[qd];cases φ a with
        |none=>exact ih.cons a
        |some y=>exact ih.cons₂ a
    exact Im.sublist hs
  intro i j x y hij ex ey;rw[E2] at ex ey;obtain⟨hi,rfl⟩:=bH.mp ex;obtain⟨hj,rfl⟩:=bH.mp ey;exact Ec.mp hp i j hi hj hij
theorem eg.X7{t:el}(ok:eg bt t):eg bt (la t es n).2.1:=by
  unfold la;split
  · rename_i t' order e
    dsimp only;split
    · unfold SetTable.relaid SetTable.laid at e
      cases hl:SetTable.layClean (SetTable.sizeAbove n-1) (es.map (·.1)) with
      |none=>rw[hl] at e;cases e
      | some owner =>
        rw[hl] at e;cases e;exact⟨ok.led,λ_=>WJ _ _⟩
    · exact ok.standIn _
  · exact ok.standIn _
theorem eg.fresh{bt:Bool}:eg bt (.fresh 0 0 (!bt)):=⟨λh=>by rw[h];rfl,λ_ i j x y _ e=>by simp[SetTable.fresh] at e⟩
def gu(bt:Bool)(h:ek)(a:aw):Prop:=∀o es ep t,h.get? a=some o->o.data= .set es ep t->eg bt t
theorem gu.of{t:el}(e:h.get? a=some o)(d:o.data= .set es ep t)(k:eg bt t):gu bt h a:=λo' es' f t' e' d'=>by
 rw[e] at e';cases e';rw[d] at d';cases d';exact k
theorem gu.keep(k:gu bt h a)(e:h.get? a=some o)(e':h'.get? a=some o):gu bt h' a:=λo1 es ep t x d=>by
 rw[e'] at x;cases x;exact k o es ep t e d
section
variable{prog:be}{w:cx}{A:cC}{E:ag->ar->Prop}{s:ar}{a:aw}{bt:Bool}
noncomputable abbrev IK(prog:be)(w:cx):=intKind prog w
theorem Ib{es':Array (Int×ag)}{t t':el}{T:Int->Bool}(g1:h.get? a=some o)(g2:o.ExactSet)(u:o.data= .set es ep t)(F:ElemsOf (IK prog w) es'.toList)
  (G:∀k,T k=true↔∃e∈es'.toList,(IK prog w).is k e.2=true) (r:es'.size<fh) (i:t'.fits es'.size=true) (tk:eg bt t'):
  (∃o',(h.update a (l4 es' t')).get? a=some o'/\o'.ExactSet/\o'.data= .set es' (ep+1) t')/\(h.update a (l4 es' t')).SetOf (IK prog w) a T es'.size/\gu bt (h.update a (l4 es' t')) a:=by
 obtain⟨J,M⟩:=SetOf_store (knd:=IK prog w) (es':=es') (t':=t') (S':=T) g1 g2 u F G r i;exact⟨⟨_,J,g2,rfl⟩,M, .of J rfl tk⟩
theorem GX{f:Bool->Sem Unit}(h:∀(b:Bool) (s₁:ar) (Q₁:Unit->ar->Prop),Q₁ () s₁->wpAny (a6 prog w) A (f b) Q₁ E s₁){o:Obj}{es:Array (Int×ag)}{ep:Nat}{t:el}
    (g1:s.heap.get? a=some o) (g2:o.ExactSet) (u:o.data= .set es ep t) {d:Array (Int×ag)} {y:el} {T:Int->Bool} (F:ElemsOf (IK prog w) d.toList) (G:∀k,T k=true↔∃e∈d.toList,(IK prog w).is k e.2=true)
    (r:d.size<fh) (i:y.fits d.size=true) (tk:eg bt y) {wd:Bool} {R:Option Bool->ar->Prop}
    (fin:∀h',eC a s.heap h'->h'.SetOf (IK prog w) a T d.size->gu bt h' a->R (some true) {s with heap:=h'}):
    wpAny (a6 prog w) A (do storeSet a d y
                               if(!wd && y.tooFull)=true then do
                                 f (la y d (et d.size)).2.2
                                 storeSet a (la y d (et d.size)).1 (la y d (et d.size)).2.1
                                 pure (some true)
                               else pure (some true)) R E s:=by
  obtain⟨⟨o1,k1,k2,k3⟩,J,M⟩:=Ib (T:=T) g1 g2 u F G r i tk;have sb:=kl s.heap a (l4 d y);refine ae (l9 g1 u ?_ (fH r));by_cases c:(!wd && y.tooFull)=true
  · rw[if_pos c]
    have pp:=relayAll_perm y d (et d.size);have pf:=relayAll_fits y d (et d.size);have pt:=tk.X7 (es:=d) (n:=et d.size);generalize la y d (et d.size)=Z at pp pf pt⊢;obtain⟨g,S,B⟩:=Z;dsimp only at pp pf pt⊢;have sz:g.size=d.size:=by have:=pp.length_eq;rwa[cX,cX] at this
    have j:∀k,T k=true↔∃e∈g.toList,(IK prog w).is k e.2=true:=λk=>(G k).trans ⟨λ⟨e,m,z⟩=>⟨e,pp.mem_iff.mpr m,z⟩,λ⟨e,m,z⟩=>⟨e,pp.mem_iff.mp m,z⟩⟩;obtain⟨_,O,N⟩:=Ib (T:=T) k1 k2 k3 (F.perm pp) j (by rw[sz];exact r) pf pt;refine ae (h _ _ _ (ae (l9 k1 k3 ?_ (fH (by rw[sz];exact r)))));rw[sz] at O;exact ax (fin _ (sb.trans (kl _ a _)) O N)
  · rw[if_neg c]
    exact ax (fin _ sb J M)
theorem U3{S:Int->Bool}{k:Int}{x:ag}{Q:Bool->ar->Prop}(hx:(IK prog w).is k x=true)(sc:x.scannable=true)(N:s.heap.SetOf (IK prog w) a S n)(hT:gu bt s.heap a)(f:n+1<fh)
    (fin:∀h',eC a s.heap h'->h'.SetOf (IK prog w) a (λj=>S j||decide (j=k)) (if S k then n else n+1)->gu bt h' a->Q (!S k) {s with heap:=h'}):
    wpAny (a6 prog w) A (setAddHashed a x ((IK prog w).hash k)) Q E s:=by
  obtain⟨o,es,ep,t,g1,g2,u,F,G,r,i,sz⟩:=N;have tk:=hT o es ep t g1 u;unfold setAddHashed setAddHashedIn;refine dk (ae (du g1 u i ?_));dsimp only;rw[if_pos (byScan_of sc r F)];unfold setAddByScan;refine ae (ae (eS (ae (wpAny_setScan_of hx g1 u i F ?_))));cases v:List.findIdx? (λe=>(IK prog w).is k e.2) es.toList with
  | some j =>
    obtain⟨hj,pj,_⟩:=List.findIdx?_eq_some_iff_getElem.mp v;have g:S k=true:=(G k).mpr ⟨_,iA hj,pj⟩
    have z:=fin s.heap (.refl a s.heap) ⟨o,es,ep,t,g1,g2,u,F,λj=>by
      rw[Bool.or_eq_true,decide_eq_true_eq,<-G j];exact⟨λq=>q.elim id λe=>e▸g, .inl⟩,r,i,by rw[if_pos g];exact sz⟩ hT
    rw[g] at z;exact ax (ax z)
  | none =>
    have no:S k=false:=by
      cases q:S k with
      |false=>rfl
      | true =>
        obtain⟨e,m,p⟩:=(G k).mp q;rw[List.findIdx?_eq_none_iff.mp v e m] at p;cases p
    have pp:=layNew_perm t es ((IK prog w).hash k) x;have pf:=layNew_fits t es ((IK prog w).hash k) x;have pt:=tk.layNew (es:=es) (h:=(IK prog w).hash k) (x:=x);dsimp only;generalize layNew t es ((IK prog w).hash k) x=Z at pp pf pt⊢;obtain⟨d,Y,wd,B⟩:=Z;dsimp only at pp pf pt⊢;rw[jT] at pp;have y:d.size=n+1:=by have:=pp.length_eq;rw[gx,cX,cX,sz] at this;exact this
    have c:∀h',eC a s.heap h'->h'.SetOf (IK prog w) a (λj=>S j||decide (j=k)) d.size->gu bt h' a->Q true {s with heap:=h'}:=λh' x1 x2 x3=>by
      have:=fin h' x1;rw[no,if_neg bT] at this;rw[y] at x2;exact this x2 x3
    have l:∀(b:Bool) (s₁:ar) (Q₁:Unit->ar->Prop),Q₁ () s₁->wpAny (a6 prog w) A (match b with|true=>rule "set.scan.the-table-gave-way" |false=>pure ()) Q₁ E s₁:=λb s₁ Q₁ q=>by
      cases b;· exact ax q
      · exact eS q
    refine ae (l _ _ _ ?_);have e1:=(F.push hx sc).perm pp;have e2:=mem_push_iff hx G pp;have e3:d.size<fh:=by rw[y];exact f
    by_cases pl:Y.plain=true
    · rw[if_pos pl,hashByValue_scannable 8 sc]
      refine ae (ax ?_);refine GX l g1 g2 u e1 e2 e3 ?_ ?_ λh' x1 x2 x3=>ax (c h' x1 x2 x3)
      · split
        · exact pf
        · exact SetTable.fits_plain_off pf
      · split
        · exact pt
        · exact pt.off
    · rw[if_neg pl]
      refine ae (ax ?_);rw[if_pos rfl];exact GX l g1 g2 u e1 e2 e3 pf pt λh' x1 x2 x3=>ax (c h' x1 x2 x3)
end
section
variable{prog:be}{w:cx}{A:cC}{R:Result->ar->Prop}{I:aw}{fp wr:List aw}{G:Array nR->Array nR->Prop}{n:Nat}{P:Nat->ag->Prop}{qb:Nat->ar->Prop}{bt:Bool}
noncomputable abbrev met(val:Nat->Int)(i:Nat):Int->Bool:=λk=>(fm val i).any (· ==k)
theorem M0(W:WalksS prog w A.in1 I fp wr G n P qb)(C:aw)(l:C∉fp)(val:Nat->Int)(hv:∀i v,P i v->∃t,v= .int (val i) t)(f:n+1<fh)(a:Nat):
    ∀(i:Nat) (s:Shared),n-i=a->i<=n->qb i s->s.heap.SetOf (IK prog w) C (met val i) (firstMet val i).length->gu bt s.heap C->
      (∀s',Moved (C::wr) G s s'->s'.heap.SetOf (IK prog w) C (met val n) (fm val n).length->gu bt s'.heap C->R (.ok (.ret .none)) s')->
      codeAny (a6 prog w) A (.builtin "set.update.loop" ⟨[.ref C, .ref I],[]⟩) R s:=by
  have h:C∉wr:=λz=>l (W.sub _ z);have up:∀b∈wr,b∈C::wr:=λb z=>bA _ z;have g:∀{s s':ar} {T:Int->Bool} {m:Nat},Moved wr G s s'->s.heap.SetOf (IK prog w) C T m->gu bt s.heap C->s'.heap.SetOf (IK prog w) C T m/\gu bt s'.heap C:=λd q c=>by
    obtain⟨o,es,ep,t,U,r⟩:=q;exact⟨⟨o,es,ep,t,d.heap C _ h U,r⟩,c.keep U (d.heap C _ h U)⟩
  induction a with
  | zero =>
    intro i s e1 e2 st q c fin;obtain rfl:i=n:=∅
    refine dA hZ ?_;rw[oM Ac _];refine ae (W.done s _ _ st λs' d=>?_);exact ax (fin s' (d.mono up) (g d q c).1 (g d q c).2)
  | succ a ih =>
    intro i s e1 e2 st q c fin;have lt:i<n:=∅
    refine dA hZ ?_;rw[oM Ac _];refine ae (W.item i s _ _ lt st λv s' Y st' d=>?_);obtain⟨tok,rfl⟩:=hv i v Y;obtain⟨D,p⟩:=g d q c;show wpAny _ A.in1 (holding [gz (val i) tok] (setAdd C (.int (val i) tok))>>=_) _ _ s';unfold setAdd;refine ae (dk (dk (ae ((IK prog w).pyHash (k:=val i) (q8 _ _ _ _) ?_))));refine U3 (bt:=bt) (s:={s' with toks:=s'.toks+1}) (q8 _ _ _ _) rfl D p (by have:=firstMet_length_le val i;omega) λh' sb M x=>?_;have q3:h'.SetOf (IK prog w) C (met val (i+1)) (fm val (i+1)).length:=SetOf_congr M (λj=>by unfold met;rw[lh,step_any]) (by rw[lh,step_length]);refine ax ⟨fo Ac _,ih (i+1) _ ∅ lt (W.frame _ s' _ _ st' (pK _) λb hb o e=>?_) q3 x λs2 u K y=>?_⟩;· rw[sb.2 b λz:b=C=>l (z▸hb)];exact e
    · refine fin s2 (Moved.trans W.gtrans ((d.mono up).then_heap (pK _) λb o hb e=>?_) u) K y
      rw[sb.2 b λz:b=C=>hb (z▸bY)];exact e
end
section
variable{prog:be}{w:cx}{A:cC}{E:ag->ar->Prop}{s:ar}
noncomputable abbrev fu(w:cx):Bool:=w.params.followText "set-order"
noncomputable abbrev kY(w:cx):Obj:={cls:= .type "set",dict:=none,data:= .set #[] 0 (.fresh 0 0 (!fu w))}
theorem Mi(a:ag){Q₁:ag->ar->Prop}(fin:Q₁ (.ref s.heap.objs.size) {s with heap:=s.heap.push (kY w)}):codeAny (a6 prog w) A (.call (.builtin "set.__new__") ⟨[.type "set",a],[]⟩) (wants Q₁ E) s:=by
 refine oC ?_;show wpAny _ A.in1 (do checkBuiltinCall "set.__new__" ⟨[.type "set",a],[]⟩;again (.builtin "set.__new__" ⟨[.type "set",a],[]⟩)) _ _ s;refine ae (wpAny_of_eq (F.newCall_set_1 a) (ax ⟨fo oE _,dA F.entry_set_new ?_⟩));rw[oM oE _];unfold hh.«set.__new__» ph;have hsub:=sub_set_self;obtain⟨hp,g,d,tk,os⟩:=s;dsimp only at fin⊢
 wp_walk
 refine eo (ax ?_);dsimp only;simp only[newObj];exact ae (wpAny_alloc (ax (ax fin)))
theorem M5{l:aw}(O:A.handled=none)(hl:s.heap.IsList l items)(hi:ee items.toList ns)(f:items.size+1<fh)
    (fin:∀(h':ek) (tk:Nat),h'.SetOf (IK prog w) s.heap.objs.size (met (λi=>ns.getD i 0) items.size) (fm (λi=>ns.getD i 0) items.size).length->gu (fu w) h' s.heap.objs.size->
      (∀b o,b<s.heap.objs.size->s.heap.get? b=some o->h'.get? b=some o)->Q (.ref s.heap.objs.size) {s with heap:=h',toks:=tk}):wpAny (a6 prog w) A (call (.type "set") [.ref l]) Q E s:=by
  obtain⟨c,tl,Y7⟩:=l7.mro;have hmade:=l7.made;have hsub:=l7.sub;have h1:=l7.notType;have h2:=l7.canCreate;have hct:=F.typeCall_set_1 (.ref l);refine q7 (oC ?_);show wpAny _ _ (callAny (.type "set") _) _ _ _;refine ax ⟨Code.quiet_builtin _ (by decide+kernel),dA F.entry_type_call ?_⟩;rw[Around.under_plain (weight_type_call_type "set" [.ref l] []) rfl]
  repeat (any_goals (first|assumption|wp_step))
  refine gd (Mi (.ref l) (E:=E) (Q₁:=λobj s₁=>obj= .ref s.heap.objs.size/\s₁={s with heap:=s.heap.push (kY w)}) ⟨rfl,rfl⟩) λr s₁ hr=>?_;cases r with
  |error e=>exact hr
  | ok fl =>
    cases fl with
    | ret obj =>
      obtain⟨rfl,rfl⟩:=hr;have N:(s.heap.push (kY w)).get? s.heap.objs.size=some (kY w):=fO _ rfl;have hT:Shared.TypeIs {s with heap:=s.heap.push (kY w)} (.ref s.heap.objs.size) "set":=⟨_,N,rfl⟩;have hli:=l7.init.lookup;have hbi:=l7.init.bind (.ref s.heap.objs.size)
      repeat (any_goals (first|assumption|wp_step))
      refine gd (codeAny_call_builtin (R:=wants (λr d=>r= .none/\∃h' tk,d={s with heap:=h',toks:=tk}/\h'.SetOf (IK prog w) s.heap.objs.size (met (λi=>ns.getD i 0) items.size) (fm (λi=>ns.getD i 0) items.size).length/\gu (fu w) h' s.heap.objs.size/\
          (∀b o,b<s.heap.objs.size->s.heap.get? b=some o->h'.get? b=some o)) E) l7.init.plain F.entry_set_init (check_set_init_1 hT ?_)) λk d n=>?_
      · obtain⟨L,m,hcl,p,hdl⟩:=hl
        obtain⟨Za,Zg,Y9,YO⟩:=L;simp only at hcl hdl;subst hcl;subst hdl;have TN:=bV (kY w) m;have YL:=F.sub_list_set;have Ys:=F.sub_list_frozenset;have T:(dE "list"==dE "dict")=false:=⋯
        have I:(s.heap.push (kY w)).IsList l items:=⟨_,TN,rfl,p,rfl⟩;unfold hh.«set.__init__» noKeywords nT;generalize t:vt=PI
        wp_walk
        subst t;refine hG I (ae (ke ?_));have h:l<s.heap.objs.size:=bF m;have y:(s.heap.push (kY w)).objs.size=s.heap.objs.size+1:=kN ..;have n1:l≠(s.heap.push (kY w)).objs.size:=by rw[y];exact dz (mh h)
        have n2:s.heap.objs.size∉[(s.heap.push (kY w)).objs.size,l]:=by
          rw[y];intro z;rcases aA.mp z with z|z
          · exact absurd z (dz (oH _))
          · exact absurd (aN.mp z) (pe h)
        have h3:A.in1.in1.in1.handled=none:=by simp[O]
        have hS':=bV ({cls:= .type "list_iterator",data:= .fields #[.ref l, .int 0 0]}:Obj) N
        refine M0 (bt:=fu w) ((wa h3 _ l n1 items).toS) s.heap.objs.size n2 (λi=>ns.getD i 0) (λi v e=>IntsAre.int_at hi i v (by rw[iW];exact e)) f (items.size-0) 0 _ ∅ (eW _)
          ⟨⟨_,fO _ rfl,rfl,rfl⟩,(I.push _)⟩ (SetOf_congr ((setObjOf_fresh (knd:=IK prog w) (!fu w)).setOf hS' (by unfold fh;omega)) (λ_=>rfl) rfl) (.of hS' rfl .fresh) ?_
        intro s' mo q tt;obtain⟨h',g',d',j,a⟩:=s';obtain rfl:g'=s.gens:=mo.gens;obtain rfl:d'=s.drawn:=mo.drawn;obtain rfl:a=s.os:=mo.os;refine ax (ax ⟨rfl,h',j,rfl,q,tt,λb o hb e=>?_⟩);refine mo.heap b o (λz=>?_) (bV _ (bV _ e));rcases aA.mp z with z|z
        · exact absurd z (dz hb)
        · rw[y] at z;exact absurd (aN.mp z) (dz (mh hb))
      · cases k with
        |error e=>exact n
        | ok g =>
          cases g with
          | ret r =>
            obtain⟨rfl,h',tk,rfl,J,M,q3⟩:=n
            repeat (any_goals (first|assumption|wp_step))
            exact fin _ _ J M q3
          |_=>exact n.elim
    |_=>exact hr.elim
end
theorem iZ:Slot "set_iterator" "__next__" "set_iterator.__next__":= .of (owner:="set_iterator") (n:="__next__") (by rw[jf,gg];kernel_rfl) (by decide+kernel) (by decide+kernel) (by decide+kernel) (by first|exact .inl (by decide+kernel)|exact .inr (by decide+kernel)) (by rw[hB];kernel_rfl)
theorem w9:vN table "set_iterator.__next__"=some hh.«set_iterator.__next__» :=entryFor_of_tree (by kernel_rfl)
theorem yN(a:ag):sv "set_iterator.__next__" ⟨[a],[]⟩:=by unfold sv;kernel_rfl
theorem FU:Slot "set" "__iter__" "set.__iter__":= .of (owner:="set") (n:="__iter__") (by rw[jf,gg];kernel_rfl) (by decide+kernel) (by decide+kernel) (by decide+kernel) (by first|exact .inl (by decide+kernel)|exact .inr (by decide+kernel)) (by rw[hB];kernel_rfl)
theorem MB:vN table "set.__iter__"=some hh.«frozenset.__iter__» :=pz (id':="frozenset.__iter__") (by kernel_rfl) rfl (by decide+kernel) (by kernel_rfl)
theorem O2(a:ag):sv "set.__iter__" ⟨[a],[]⟩:=by unfold sv;kernel_rfl
theorem qm:Slot "set_iterator" "__iter__" "set_iterator.__iter__":= .of (owner:="set_iterator") (n:="__iter__") (by rw[jf,gg];kernel_rfl) (by decide+kernel) (by decide+kernel) (by decide+kernel) (by first|exact .inl (by decide+kernel)|exact .inr (by decide+kernel)) (by rw[hB];kernel_rfl)
theorem zb:vN table "set_iterator.__iter__"=some hh.«dict_keyiterator.__iter__» :=pz (id':="dict_keyiterator.__iter__") (by kernel_rfl) rfl (by decide+kernel) (by kernel_rfl)
theorem Cw(a:ag):sv "set_iterator.__iter__" ⟨[a],[]⟩:=by unfold sv;kernel_rfl
section
variable{prog:be}{w:cx}{A:cC}{E:ag->ar->Prop}{s:ar}{a it tp:aw}{o:Obj}{es:Array (Int×ag)}{ep:Nat}{t:el}
theorem AJ{α:Type}:∀{l:List α} {i:Nat} (h:i<l.length),(l[i]::l.eraseIdx i).Perm l
  |b::r,0,_=>by simp
  | b :: r, i + 1, h => by
    have:=AJ (l:=r) (i:=i) (by simpa using h);simp only[List.getElem_cons_succ,Eb];exact(xh b _ _).trans (this.cons b)
theorem Ab(nx:Nat->Nat):∀(f k:Nat) (l:List α) (out:Array α),l.length<=f->(mM nx f k l out).toList.Perm (out.toList++l):=by
  intro f;induction f with
  | zero =>
    intro k l out h;have:l=[]:=mP.mp ∅;subst this;unfold mM;simp
  | succ f ih =>
    intro k l out h;unfold mM;cases l with
    |nil=>simp
    | cons b r =>
      have hlt:nx k%(b::r).length<(b::r).length:=uf _ (by simp);rw[aQ hlt];dsimp only;refine(ih (k+1) _ _ (by rw[CM hlt];omega)).trans ?_;rw[jT,fJ];refine kC _ ?_;exact AJ hlt
theorem KG(bt:fu w=true)(g1:s.heap.get? a=some o)(u:o.data= .set es ep t)(g:t.fits es.size=true){i sl:Nat}{Q:Option (ag×Nat)->ar->Prop}
  (h:Q (((ei (w.params.setOrder a ep) es)[i]?).map λe=>(e.2,sl)) s):wpAny (a6 prog w) A (ma a sl i ep) Q E s:=by
 unfold ma;refine ae (du g1 u g ?_);dsimp only;unfold mc;refine ae (ae (eo (ax ?_)));show wpAny _ _ (if fu w=true then _ else _) _ _ _;rw[if_pos bt];rw[if_neg (by simp)];refine ae ?_;unfold setWalk;refine ae (du g1 u g ?_);dsimp only;unfold mc;refine ae (ae (eo (ax ?_)));show wpAny _ _ (if fu w=true then _ else _) _ _ _;rw[if_pos bt];refine ae (eo (ax ?_));exact ax h
theorem Ie(bt:fu w=false)(g1:s.heap.get? a=some o)(u:o.data= .set es ep t)(g:t.fits es.size=true)(tk:eg (fu w) t)(pl:t.plain=true\/es.size<=1){i sl:Nat}{Q:Option (ag×Nat)->ar->Prop}
  (h:Q (match es[SetTable.below t.place sl]?,t.place[SetTable.below t.place sl]? with|some (_,x),some j=>some (x,j+1)|_,_=>none) s):wpAny (a6 prog w) A (ma a sl i ep) Q E s:=by
 unfold ma;refine ae (du g1 u g ?_);dsimp only;unfold mc;refine ae (ae (eo (ax ?_)));show wpAny _ _ (if fu w=true then _ else _) _ _ _;rw[bt,if_neg bT];show wpAny _ _ (if(!t.plain && decide (es.size>1))=true then _ else _) _ _ _
 rw[if_neg (by
  intro z;rw[eZ,Bool.not_eq_true',decide_eq_true_eq] at z;rcases pl with p|p
  .rw[p] at z;cases z.1
  .omega)]
 refine ae ?_;show wpAny _ _ (if(!t.led && !es.isEmpty)=true then _ else _) _ _ _;rw[if_neg (by rw[tk.led bt];simp)];refine ax ?_;exact ax h
theorem RZ(g1:s.heap.get? a=some o)(u:o.data= .set es ep t)(g:t.fits es.size=true){pl:Nat}{hx:Int}{x:ag}{Q:ag->ar->Prop}(e:es[pl]?=some (hx,x))(h:Q x s):wpAny (a6 prog w) A (mN a pl ep) Q E s:=by
 unfold mN;refine ae (du g1 u g ?_);dsimp only;rw[if_neg (by simp)];rw[e];exact ax h
def jo(h:ek)(it a:aw)(first:ag)(i n ep:Nat):Prop:=∃o,h.get? it=some o/\o.cls= .type "set_iterator" /\o.data= .fields #[first, .int i 0, .ref a, .int n 0, .int ep 0]
theorem jo.ty{first:ag}(h:jo s.heap it a first i n ep):s.TypeIs (.ref it) "set_iterator":=let ⟨o,e,c,_⟩:=h;⟨o,e,c⟩
theorem wo{first:ag}{b:ag->ar->Prop}(c:jo s.heap it a first i n ep)(g1:s.heap.get? a=some o)(u:o.data= .set es ep t)(g:t.fits es.size=true)(hn:es.size=n)
    (h:wpAny (a6 prog w) A (match first with
      | .int slot _ => (do
        match<-ma a slot.toNat i ep with
        | some (x, next) => do
          lj (.ref it) 0 (cq next)
          lj (.ref it) 1 (cq ((i:Int)+1))
          ret x
        | none => do
          lj (.ref it) 2 .none
          r3 (<-newExc (.type "StopIteration") []))
      | _ => (do
        let some places<-seqItems? first|eD "internal:set_iterator"
        match places[i]? with
        | some (.int place _) => do
          let x<-mN a place.toNat ep
          lj (.ref it) 1 (cq ((i:Int)+1))
          ret x
        |some _=>eD "internal:set_iterator"
        | none => do
          lj (.ref it) 0 (cq 0)
          lj (.ref it) 2 .none
          r3 (<-newExc (.type "StopIteration") []))) QQ b s):wpAny (a6 prog w) A (hh.«set_iterator.__next__» ⟨[.ref it],[]⟩) QQ b s:=by
  obtain⟨D,U,hc,hd⟩:=c;unfold hh.«set_iterator.__next__»;refine ae (ax ?_);refine ae (wpAny_fieldsOf U hd ?_);dsimp only;refine ae (km g1 u g ?_);rw[if_neg (by rw[hn];simp)];cases first<;>exact h
theorem yz{first:ag}{i n k:Nat}{x:ag}{D:Obj}{vs:Array ag}(U:h.get? it=some D)(hc:D.cls= .type "set_iterator")(hd:D.data= .fields vs):
  (h.update it (h6 (·.setIfInBounds k x))).get? it=some (h6 (·.setIfInBounds k x) D)/\(h6 (·.setIfInBounds k x) D).cls= .type "set_iterator" /\(h6 (·.setIfInBounds k x) D).data= .fields (vs.setIfInBounds k x):=by
 refine⟨xQ _ U (Obj.isFreed_of_fields (lk hd _)),(Obj.cls_mapFields ..).trans hc,lk hd _⟩
theorem K6{sl nx:Nat}{x:ag}{Q:Option ag->ar->Prop}(c:jo s.heap it a (.int sl 0) i n ep)(g1:s.heap.get? a=some o)(u:o.data= .set es ep t)(g:t.fits es.size=true)(hn:es.size=n)
  (hN:∀(Q:Option (ag×Nat)->ar->Prop) (E:ag->ar->Prop),Q (some (x,nx)) s->wpAny (a6 prog w) A.in1 (ma a sl i ep) Q E s)
  (C:∀h',jo h' it a (.int nx 0) (i+1) n ep->(∀b,b≠it->h'.get? b=s.heap.get? b)->Q (some x) {s with heap:=h'}):wpAny (a6 prog w) A (kb (.ref it)) Q E s:=by
 obtain⟨D,U,hc,hd⟩:=id c;unfold kb;refine ae (gq (en (name:=g5 "__next__") c.ty iZ (c6 iZ c.ty w9 ?_ (yN _))));refine wo c g1 u g hn ?_;dsimp only;refine ae (hN _ _ ?_);dsimp only;obtain⟨u1,u2,j⟩:=yz (first:= .none) (i:=0) (n:=0) (k:=0) (x:=cq nx) U hc hd;obtain⟨X,B,e⟩:=yz (first:= .none) (i:=0) (n:=0) (k:=1) (x:=cq ((i:Int)+1)) u1 u2 j;refine ae (eQ U hd (by simp) ?_);refine ae (eQ u1 j (by simp) ?_);refine ax ⟨x,rfl,ax (C _ ⟨_,X,B,?_⟩ λb hb=>?_)⟩;·rw[e];simp[cq]
 .exact((kH _ _ (bJ hb))).trans (kH _ _ (bJ hb))
theorem Lz{B:cC}{Q:Option ag->ar->Prop}(O:B.handled=none)(C:∀o1 o2,Q none {s with heap:=(s.heap.push o1).push o2}):wpAny (a6 prog w) B (do r3 (<-newExc (.type "StopIteration") [])) QQ
  (λe s'=>wpAny (a6 prog w) A (do if<-isInstance e (.type "StopIteration") then pure none else throw e) Q E s') s:=by
 refine ae ?_;simp only[newExc,newTuple];refine ae (de ?_ (by size_fits));refine ae (m:=pE _ _) (wpAny_of_eq (a:=fv) (by first|rfl|(simp only[pE];rfl)) (de ?_ (by size_fits)));simp only[r3];refine ae (wpAny_handled ?_);rw[O];refine ae (ax (wpAny_throw ?_));refine ae (ng (b:=true) (T:="StopIteration") ⟨_,fO _ rfl,rfl⟩ isSubtype_stop ?_);exact ax (C _ _)
theorem FN{sl:Nat}{Q:Option ag->ar->Prop}(O:A.handled=none)(c:jo s.heap it a (.int sl 0) i n ep)(g1:s.heap.get? a=some o)(u:o.data= .set es ep t)(g:t.fits es.size=true)(hn:es.size=n)
  (hN:∀(Q:Option (ag×Nat)->ar->Prop) (E:ag->ar->Prop),Q none s->wpAny (a6 prog w) A.in1 (ma a sl i ep) Q E s)
  (C:∀h',(∀b o,b≠it->s.heap.get? b=some o->h'.get? b=some o)->Q none {s with heap:=h'}):wpAny (a6 prog w) A (kb (.ref it)) Q E s:=by
 obtain⟨D,U,hc,hd⟩:=id c;unfold kb;refine ae (gq (en (name:=g5 "__next__") c.ty iZ (c6 iZ c.ty w9 ?_ (yN _))));refine wo c g1 u g hn ?_;dsimp only;refine ae (hN _ _ ?_);dsimp only;refine ae (eQ U hd (by simp) ?_);exact Lz (B:=A.in1) O λo1 o2=>C _ λb o hb e=>bV _ (bV _ ((kH _ _ (bJ hb)).trans e))
theorem Up{pl:Nat}{hx:Int}{x:ag}{h:Array ag}{Q:Option ag->ar->Prop}(c:jo s.heap it a (.ref tp) i n ep)(g1:s.heap.get? a=some o)(u:o.data= .set es ep t)(g:t.fits es.size=true)(hn:es.size=n)
  (f:∃d m,s.heap.get? tp=some d/\d.data= .seq h m) (hp:h[i]?=some (.int pl 0)) (he:es[pl]?=some (hx,x))
  (C:∀h',jo h' it a (.ref tp) (i+1) n ep->(∀b,b≠it->h'.get? b=s.heap.get? b)->Q (some x) {s with heap:=h'}):wpAny (a6 prog w) A (kb (.ref it)) Q E s:=by
 obtain⟨D,U,hc,hd⟩:=id c;obtain⟨d,m,Y,y⟩:=f;unfold kb;refine ae (gq (en (name:=g5 "__next__") c.ty iZ (c6 iZ c.ty w9 ?_ (yN _))));refine wo c g1 u g hn ?_;dsimp only;refine ae (pV Y y ?_);dsimp only;rw[hp];dsimp only;refine ae (RZ g1 u g (by simpa using he) ?_);obtain⟨X,B,e⟩:=yz (first:= .none) (i:=0) (n:=0) (k:=1) (x:=cq ((i:Int)+1)) U hc hd;refine ae (eQ U hd (by simp) (ax ⟨x,rfl,ax (C _ ⟨_,X,B,?_⟩ λb hb=>kH _ _ (bJ hb))⟩));rw[e];simp[cq]
theorem Oc{h:Array ag}{Q:Option ag->ar->Prop}(O:A.handled=none)(c:jo s.heap it a (.ref tp) i n ep)(g1:s.heap.get? a=some o)(u:o.data= .set es ep t)(g:t.fits es.size=true)(hn:es.size=n)
  (f:∃d m,s.heap.get? tp=some d/\d.data= .seq h m) (hp:h[i]?=none)
  (C:∀h',(∀b o,b≠it->s.heap.get? b=some o->h'.get? b=some o)->Q none {s with heap:=h'}):wpAny (a6 prog w) A (kb (.ref it)) Q E s:=by
 obtain⟨D,U,hc,hd⟩:=id c;obtain⟨d,m,Y,y⟩:=f;unfold kb;refine ae (gq (en (name:=g5 "__next__") c.ty iZ (c6 iZ c.ty w9 ?_ (yN _))));refine wo c g1 u g hn ?_;dsimp only;refine ae (pV Y y ?_);dsimp only;rw[hp];dsimp only;obtain⟨u1,u2,j⟩:=yz (first:= .none) (i:=0) (n:=0) (k:=0) (x:=cq 0) U hc hd;refine ae (eQ U hd (by simp) (ae (eQ u1 j (by simp) ?_)));exact Lz (B:=A.in1) O λo1 o2=>C _ λb o hb e=>bV _ (bV _ ((kH _ _ (bJ hb)).trans ((kH _ _ (bJ hb)).trans e)))
end
noncomputable def slotAt(xs:Array Nat):Nat->Nat
 |0=>0
 |i+1=>xs.getD i 0+1
theorem Ob(xs:Array Nat):slotAt xs 0=0:=rfl
theorem Fj(xs:Array Nat)(i:Nat):slotAt xs (i+1)=xs.getD i 0+1:=rfl
theorem HJ{xs:Array Nat}(hr:kc xs){i:Nat}(hi:i<=xs.size):SetTable.below xs (slotAt xs i)=i:=by
  obtain⟨h1,h2,h3⟩:=below_at (q:=slotAt xs i) hr;have g:∀{j:Nat},j<xs.size->∃y,xs[j]?=some y/\xs.getD j 0=y:=λ{j} hj=>⟨xs[j],kJ hj,by rw[D6,kJ hj];rfl⟩;rcases D3 (SetTable.below xs (slotAt xs i)) i with z|z|z
  · obtain⟨y,e,_⟩:=g (eG z hi)
    have:=h3 _ y (aF _) e;cases i with
    |zero=>omega
    | succ i =>
      obtain⟨a,e',d'⟩:=g (j:=i) ∅;have es:=Fj xs i;rw[d'] at es;rcases DG (Nat.le_of_lt_succ z) with z|z
      · have:=hr _ _ _ _ z e e';omega
      · rw[z,e'] at e;cases e;omega
  · exact z
  · obtain⟨y,e,d⟩:=g (j:=i) ∅
    have:=h2 i y z e;cases i with
    |zero=>rw[Ob] at this;omega
    | succ i =>
      obtain⟨a,e',d'⟩:=g (j:=i) ∅;rw[Fj,d'] at this;have:=hr i (i+1) _ _ ∅ e' e;omega
section
variable{prog:be}{w:cx}{a I tp:aw}{o:Obj}{es:Array (Int×ag)}{ep:Nat}{t:el}
theorem Lj(h:t.fits es.size=true):t.place.size=es.size:=by
 unfold SetTable.fits at h;rw[eZ] at h;exact eq_of_beq h.1
theorem Yg(O:A.handled=none)(bt:fu w=true)(u:o.data= .set es ep t)(g:t.fits es.size=true)(T:a≠I):
  Walks prog w A I [I,a] [I] es.size (λi v=>((ei (w.params.setOrder a ep) es).toList.map (·.2))[i]?=some v) (λi h=>jo h I a (.int (0:Nat) 0) i es.size ep/\h.get? a=some o) where
 sub:=λb hb=>by simp at hb;simp[hb]
 frame:=λi h h' st hk=>by
  obtain⟨⟨D,h1,h2,h3⟩,h4⟩:=st;exact⟨⟨D,hk I (by simp) _ h1,h2,h3⟩,hk a (by simp) _ h4⟩
 item:=λi s Q E hi st C=>by
  have hsz:(ei (w.params.setOrder a ep) es).toList.length=es.size:=by
   have:=(Ab (w.params.setOrder a ep) es.size 0 es.toList #[] (by simp)).length_eq;simpa[ei] using this
  have hlt:i<(ei (w.params.setOrder a ep) es).toList.length:=∅
  have e1:(ei (w.params.setOrder a ep) es)[i]?=some (ei (w.params.setOrder a ep) es).toList[i]:=by rw[<-iW];exact aQ hlt
  refine K6 st.1 st.2 u g rfl (x:=(ei (w.params.setOrder a ep) es).toList[i].2) (nx:=0) (λQ E q=>KG bt st.2 u g (by rw[e1];exact q)) λh' x1 x2=>?_;refine C _ h' s.toks (by rw[cB,aQ hlt];rfl) ⟨x1,(x2 a T).trans st.2⟩ λb o' hb e=>(x2 b (λz=>hb (by simp[z]))).trans e
 done:=λs Q E st C=>by
  have hsz:(ei (w.params.setOrder a ep) es).toList.length=es.size:=by
   have:=(Ab (w.params.setOrder a ep) es.size 0 es.toList #[] (by simp)).length_eq;simpa[ei] using this
  refine FN O st.1 st.2 u g rfl (λQ E q=>KG bt st.2 u g (by rw[<-iW,mT ∅];exact q)) λh' x1=>C h' s.toks λb o' hb e=>x1 b o' (λz=>hb (by simp[z])) e
 self:=λi s Q E st C=>by
  refine fI st.1.ty qm (c6 qm st.1.ty zb ?_ (Cw _));exact ax ⟨_,rfl,"set_iterator",_,st.1.ty,iZ.lookup,C⟩
theorem Wz(O:A.handled=none)(bt:fu w=false)(u:o.data= .set es ep t)(g:t.fits es.size=true)(tk:eg (fu w) t)(pl:t.plain=true\/es.size<=1)(T:a≠I):
  Walks prog w A I [I,a] [I] es.size (λi v=>(es.toList.map (·.2))[i]?=some v) (λi h=>jo h I a (.int (slotAt t.place i) 0) i es.size ep/\h.get? a=some o) where
 sub:=λb hb=>by simp at hb;simp[hb]
 frame:=λi h h' st hk=>by
  obtain⟨⟨D,h1,h2,h3⟩,h4⟩:=st;exact⟨⟨D,hk I (by simp) _ h1,h2,h3⟩,hk a (by simp) _ h4⟩
 item:=λi s Q E hi st C=>by
  have hps:=Lj g;have hr:kc t.place:=by
   rcases pl with p|p
   .exact tk.Cj p
   .intro i j x y hij ex ey;have:=(rV.mp ey).1;omega
  have hlt:i<es.toList.length:=by simpa using hi
  have e1:es[i]?=some es.toList[i]:=by rw[<-iW];exact aQ hlt
  have e2:t.place[i]?=some (t.place.getD i 0):=by rw[D6,kJ ∅];rfl
  refine K6 st.1 st.2 u g rfl (x:=es.toList[i].2) (nx:=slotAt t.place (i+1)) (λQ E q=>Ie bt st.2 u g tk pl (by rw[HJ hr ∅,e1,e2];exact q)) λh' x1 x2=>?_;refine C _ h' s.toks (by rw[cB,aQ hlt];rfl) ⟨x1,(x2 a T).trans st.2⟩ λb o' hb e=>(x2 b (λz=>hb (by simp[z]))).trans e
 done:=λs Q E st C=>by
  have hps:=Lj g;have hr:kc t.place:=by
   rcases pl with p|p
   .exact tk.Cj p
   .intro i j x y hij ex ey;have:=(rV.mp ey).1;omega
  refine FN O st.1 st.2 u g rfl (λQ E q=>Ie bt st.2 u g tk pl (by rw[HJ hr ∅,Ak (aF _)];exact q)) λh' x1=>C h' s.toks λb o' hb e=>x1 b o' (λz=>hb (by simp[z])) e
 self:=λi s Q E st C=>by
  refine fI st.1.ty qm (c6 qm st.1.ty zb ?_ (Cw _));exact ax ⟨_,rfl,"set_iterator",_,st.1.ty,iZ.lookup,C⟩
theorem M8(O:A.handled=none)(u:o.data= .set es ep t)(g:t.fits es.size=true)(hk:ks.Perm (bp es.size))(T:a≠I)(f:tp≠I):
    Walks prog w A I [I,a,tp] [I] es.size (λi v=>((ks.filterMap (es[·]?)).map (·.2))[i]?=some v) (λi h=>jo h I a (.ref tp) i es.size ep/\h.get? a=some o/\∃d m,h.get? tp=some d/\d.data= .seq (ks.map λ(k:Nat)=>cq k).toArray m) where
  sub:=λb hb=>by simp at hb;simp[hb]
  frame:=λi h h' st hk=>by
    obtain⟨⟨D,h1,h2,h3⟩,h4,d,m,h5,p⟩:=st;exact⟨⟨D,hk I (by simp) _ h1,h2,h3⟩,hk a (by simp) _ h4,d,m,hk tp (by simp) _ h5,p⟩
  item:=λi s Q E hi st C=>by
    have hlen:ks.length=es.size:=by rw[hk.length_eq];simp
    have J:∀k∈ks,k<es.size:=λk m=>by simpa using hk.mem_iff.mp m
    have c:i<ks.length:=∅
    have hki:=J ks[i] (iA c);have e1:es[ks[i]]?=some es[ks[i]]:=kJ hki;have n:∀(l:List Nat),(∀k∈l,k<es.size)->∀j (hj:j<l.length),(l.filterMap (es[·]?))[j]?=es[l[j]]?:=by
      intro l;induction l with
      |nil=>intro _ j hj;simp at hj
      | cons b r ih =>
        intro hl j hj;have hb:=hl b (bY ..);rw[qd,kJ hb];cases j with
        |zero=>simp[kJ hb]
        |succ j=>simpa using ih (λk m=>hl k (bA _ m)) j (by simpa using hj)
    refine Up st.1 st.2.1 u g rfl st.2.2 (pl:=ks[i]) (hx:=es[ks[i]].1) (x:=es[ks[i]].2) (by simp[aQ c,cq]) e1 λh' x1 x2=>?_;obtain⟨d,m,Y,y⟩:=st.2.2;refine C _ h' s.toks ?_ ⟨x1,(x2 a T).trans st.2.1,d,m,(x2 tp f).trans Y,y⟩ λb o' hb e=>(x2 b (λz=>hb (by simp[z]))).trans e;rw[cB,n ks J i c,e1];rfl
  done:=λs Q E st C=>by
    have hlen:ks.length=es.size:=by rw[hk.length_eq];simp
    exact Oc O st.1 st.2.1 u g rfl st.2.2 (by simp;omega) λh' x1=>C h' s.toks λb o' hb e=>x1 b o' (λz=>hb (by simp[z])) e
  self:=λi s Q E st C=>by
    refine fI st.1.ty qm (c6 qm st.1.ty zb ?_ (Cw _));exact ax ⟨_,rfl,"set_iterator",_,st.1.ty,iZ.lookup,C⟩
end
section
variable{prog:be}{w:cx}{A:cC}{E:ag->ar->Prop}{s:ar}{a:aw}{o:Obj}{es:Array (Int×ag)}{ep:Nat}{t:el}
theorem GU{α:Type}:∀l:List α,(bp l.length).filterMap (λi=>l[i]?)=l
  |[]=>rfl
  | x :: l => by
    have:=GU l;rw[eY,yT,qd,List.filterMap_map];simpa[md] using this
theorem Wm{b:Source}{Q:Nat->ar->Prop}(hn:n≠0)(h:∀i d',i<n->Q i {s with drawn:=d'}):wpAny (a6 prog w) A (choose b n) Q E s:=λΓ p _=>⟨hn,h _ _ (uf _ (lr hn))⟩
theorem HY{α:Type}:∀(n:Nat) (xs:List α) (s:ar) (Q:List α->ar->Prop),xs.length<=n->(∀ks d',ks.Perm xs->Q ks {s with drawn:=d'})->wpAny (a6 prog w) A (oI n xs) Q E s
  | 0, xs, s, Q, hl, h => by
    have:xs=[]:=mP.mp ∅;subst this;unfold oI;exact ax (h [] s.drawn .nil)
  | n + 1, [], s, Q, hl, h => by
    unfold oI;exact ax (h [] s.drawn .nil)
  | n + 1, x :: xs, s, Q, hl, h => by
    unfold oI;refine ae (Wm (by simp) λi d' hi=>?_);rw[aQ hi];dsimp only;refine ae (HY n _ _ _ (by rw[CM hi];simp at hl⊢;omega) λks d2 hk=>?_);exact ax (h _ d2 ((hk.cons _).trans (AJ hi)))
theorem MJ(g1:s.heap.get? a=some o)(u:o.data= .set es ep t)(g:t.fits es.size=true){Q:Bool->ar->Prop}(h:Q (!fu w &&(!t.plain && decide (es.size>1))) s):wpAny (a6 prog w) A (setDrawn a) Q E s:=by
 unfold setDrawn;refine ae (du g1 u g ?_);dsimp only;unfold mc;refine ae (ae (eo (ax ?_)));exact ax h
theorem Ko(g1:s.heap.get? a=some o)(u:o.data= .set es ep t)(g:t.fits es.size=true){Q:Nat->ar->Prop}(h:Q ep s):wpAny (a6 prog w) A (setEpoch a) Q E s:=by
 unfold setEpoch;exact ae (du g1 u g (ax h))
theorem Yi(hb:es.size<fh)(g1:s.heap.get? a=some o)(g2:o.ExactSet)(u:o.data= .set es ep t)(g:t.fits es.size=true)(tk:eg (fu w) t)
    (C:∀(I:aw) (h':ek) d' (items:List ag) (fp:List aw) (qb:Nat->ek->Prop),(∀b o,s.heap.get? b=some o->h'.get? b=some o)->s.heap.objs.size<=I->(∀b∈fp,b=a\/s.heap.objs.size<=b)->I∈fp->(∀b∈fp,b<h'.objs.size)->items.Perm (es.toList.map (·.2))->
      (∀B:cC,B.handled=none->Walks prog w B I fp [I] items.length (λi v=>items[i]?=some v) qb)->qb 0 h'->Q (.ref I) {s with heap:=h',drawn:=d'}):wpAny (a6 prog w) A (vt (.ref a)) Q E s:=by
  have hT:s.TypeIs (.ref a) "set":=⟨o,g1,g2.1⟩;have hlt:=bF g1;refine fI hT FU (c6 FU hT MB ?_ (O2 _));unfold hh.«frozenset.__iter__»;unfold r4 slotArgs;simp only[List.isEmpty_nil,sV,kj,↓reduceIte,bind_assoc,B6,bne_self_eq_false];unfold rf rh;refine ae (ax ?_)
  try dsimp only
  refine ae (ax ?_);refine ae (ae (km g1 u g (ax ?_)));refine ae (MJ g1 u g ?_);by_cases c:(!fu w &&(!t.plain && decide (es.size>1)))=true
  · rw[if_pos c]
    refine ae (HY es.size (bp es.size) s _ (by simp) λks d' hk=>?_);unfold newTuple;refine ae (de ?_ ?_)
    rotate_left
    · have d:ks.length=es.size:=by rw[hk.length_eq];simp
      show(df (λ(i:Nat)=>cq i) ks).toArray.size<=sizeLine;rw[cT,ak,d];exact fH hb
    have rL:=bV ({cls:= .type "tuple",data:= .seq (ks.map λ(i:Nat)=>cq i).toArray}:Obj) g1;refine ae (Ko (s:={s with heap:=_,drawn:=d'}) rL u g ?_);unfold newFields;refine ae (de ?_);have d:ks.length=es.size:=by rw[hk.length_eq];simp
    have fin:=C;clear C;have y:(s.heap.push ({cls:= .type "tuple",data:= .seq (ks.map λ(i:Nat)=>cq i).toArray}:Obj)).objs.size=s.heap.objs.size+1:=kN ..;have k:(s.heap.push ({cls:= .type "tuple",data:= .seq (ks.map λ(i:Nat)=>cq i).toArray}:Obj)).get? s.heap.objs.size=some {cls:= .type "tuple",data:= .seq (ks.map λ(i:Nat)=>cq i).toArray}:=fO _ rfl;have j:∀b o,s.heap.get? b=some o->(s.heap.push ({cls:= .type "tuple",data:= .seq (ks.map λ(i:Nat)=>cq i).toArray}:Obj)).get? b=some o:=λb o e=>bV _ e;generalize l:s.heap.push ({cls:= .type "tuple",data:= .seq (ks.map λ(i:Nat)=>cq i).toArray}:Obj)=h1 at rL y k j⊢;have gI:(h1.push ({cls:= .type "set_iterator",data:= .fields #[.ref s.heap.objs.size,cq 0, .ref a,cq es.size,cq ep]}:Obj)).get? h1.objs.size=some {cls:= .type "set_iterator",data:= .fields #[.ref s.heap.objs.size,cq 0, .ref a,cq es.size,cq ep]}:=fO _ rfl;have gS:=bV ({cls:= .type "set_iterator",data:= .fields #[.ref s.heap.objs.size,cq 0, .ref a,cq es.size,cq ep]}:Obj) rL;have Tp:=bV ({cls:= .type "set_iterator",data:= .fields #[.ref s.heap.objs.size,cq 0, .ref a,cq es.size,cq ep]}:Obj) k;have n:(h1.push ({cls:= .type "set_iterator",data:= .fields #[.ref s.heap.objs.size,cq 0, .ref a,cq es.size,cq ep]}:Obj)).objs.size=h1.objs.size+1:=kN ..;subst l;refine ax ⟨_,rfl,"set_iterator",_,⟨_,gI,rfl⟩,iZ.lookup,?_⟩;have pp:(ks.filterMap (es[·]?)).Perm es.toList:=by
      have:=hk.filterMap (es[·]?);have e:(bp es.size).filterMap (es[·]?)=es.toList:=by
        have:=GU es.toList;simpa using this
      rwa[e] at this
    have hn:((ks.filterMap (es[·]?)).map (·.2)).length=es.size:=by rw[ak,pp.length_eq];simp
    have pA:=B9 (oH s.heap.objs.size) y.symm;refine fin _ _ d' ((ks.filterMap (es[·]?)).map (·.2)) [_,a,s.heap.objs.size] _ (λb o e=>bV _ (j b o e)) (j4 pA) (λb m=>?_) (bY ..) (λb m=>?_) (pp.map _) (λB M=>by rw[hn];exact M8 M u g hk (dz (rM hlt pA)) (dz pA)) ?_
    · rcases aA.mp m with e|m
      · exact .inr (by rw[e];exact j4 pA)
      · rcases aA.mp m with e|m
        · exact .inl e
        · exact .inr (mj (aN.mp m).symm)
    · refine B9 ?_ n.symm
      rcases aA.mp m with e|m
      · rw[e];exact oH _
      · rcases aA.mp m with e|m
        · rw[e];exact mh (rM hlt pA)
        · rw[aN.mp m];exact mh pA
    · exact⟨⟨_,gI,rfl,rfl⟩,gS,_,_,Tp,rfl⟩
  · rw[if_neg c]
    refine ae (ax ?_);refine ae (Ko g1 u g ?_);unfold newFields;refine ae (de ?_);have gI:(s.heap.push ({cls:= .type "set_iterator",data:= .fields #[cq 0,cq 0, .ref a,cq es.size,cq ep]}:Obj)).get? s.heap.objs.size=some {cls:= .type "set_iterator",data:= .fields #[cq 0,cq 0, .ref a,cq es.size,cq ep]}:=fO _ rfl;have gS:=bV ({cls:= .type "set_iterator",data:= .fields #[cq 0,cq 0, .ref a,cq es.size,cq ep]}:Obj) g1;have f:∀b∈[s.heap.objs.size,a],b=a\/s.heap.objs.size<=b:=λb m=>by
      rcases aA.mp m with e|m
      · exact .inr (mj e.symm)
      · exact .inl (aN.mp m)
    have hsz:(s.heap.push ({cls:= .type "set_iterator",data:= .fields #[cq 0,cq 0, .ref a,cq es.size,cq ep]}:Obj)).objs.size=s.heap.objs.size+1:=kN ..;have h:∀b∈[s.heap.objs.size,a],b<(s.heap.push ({cls:= .type "set_iterator",data:= .fields #[cq 0,cq 0, .ref a,cq es.size,cq ep]}:Obj)).objs.size:=λb m=>by
      rw[hsz];rcases aA.mp m with e|m
      · rw[e];exact oH _
      · rw[aN.mp m];exact mh hlt
    refine ax ⟨_,rfl,"set_iterator",_,⟨_,gI,rfl⟩,iZ.lookup,?_⟩;cases bt:fu w with
    | true =>
      have pp:(ei (w.params.setOrder a ep) es).toList.Perm es.toList:=by simpa[ei] using Ab (w.params.setOrder a ep) es.size 0 es.toList #[] (by simp)
      have hn:((ei (w.params.setOrder a ep) es).toList.map (·.2)).length=es.size:=by rw[ak,pp.length_eq];simp
      refine C _ _ s.drawn ((ei (w.params.setOrder a ep) es).toList.map (·.2)) [s.heap.objs.size,a] _ (λb o e=>bV _ e) (aF _) f (by simp) h (pp.map _) (λB M=>by rw[hn];exact Yg M bt u g (dz hlt)) ?_;exact⟨⟨_,gI,rfl,rfl⟩,gS⟩
    | false =>
      have pl:t.plain=true\/es.size<=1:=by
        rw[bt,p0,r7] at c;cases hp:t.plain with
        |true=>exact .inl rfl
        | false =>
          rw[hp,p0,r7,decide_eq_true_eq] at c;exact .inr ∅
      have hn:(es.toList.map (·.2)).length=es.size:=by simp
      refine C _ _ s.drawn (es.toList.map (·.2)) [s.heap.objs.size,a] _ (λb o e=>bV _ e) (aF _) f (by simp) h (.refl _) (λB M=>by rw[hn];exact Wz M bt u g tk pl (dz hlt)) ?_;exact⟨⟨_,gI,rfl,rfl⟩,gS⟩
end
section
variable{prog:be}{w:cx}{A:cC}{E:ag->ar->Prop}{s:ar}{a:aw}{o:Obj}{es:Array (Int×ag)}{ep:Nat}{t:el}
theorem UN{Q:Bool->ar->Prop}(hT:s.TypeIs (.ref a) "set")(h:Q false s):wpAny (a6 prog w) A (gT (.ref a)) Q E s:=by
 unfold gT;refine ae (oL hT PySem.F.slot_set_len.lookup ?_);generalize c:("set.__len__":String)=id0
 wp_delta
 rw[show splitId id0=some ("set","__len__") from by subst c;decide+kernel];subst c;refine ae (ng (b:=true) (T:="set") hT (by rw[hB];kernel_rfl) ?_);refine js (λz=>absurd z ⋯) λ_=>js (λ_=>?_) λz=>absurd (by decide+kernel) z;exact ae (wpAny_typeOf hT (ax h))
theorem XU{items:List ag}{acc:Array ag}(h:ItemsOf (λi v=>items[i]?=some v) acc items.length):acc.toList=items:=by
 apply lD;intro i;by_cases hi:i<acc.size
 .have e:acc[i]?=some acc[i]:=kJ hi;rw[iW,e,h.2 i _ e]
 .have:=h.1;rw[mT (by simp;omega),mT ∅]
theorem T9{Q:List ag->ar->Prop}(O:A.handled=none)(hb:es.size<fh)(g1:s.heap.get? a=some o)(g2:o.ExactSet)(u:o.data= .set es ep t)(g:t.fits es.size=true)(tk:eg (fu w) t)
  (C:∀h' d' tk' items,(∀b o,s.heap.get? b=some o->h'.get? b=some o)->s.heap.objs.size<=h'.objs.size->items.Perm (es.toList.map (·.2))->Q items {s with heap:=h',drawn:=d',toks:=tk'}):wpAny (a6 prog w) A (u4 (.ref a)) Q E s:=by
 have hlt:=bF g1;unfold u4;refine ae (ke (dA GK ?_));rw[oM JA _];show wpAny _ A.in1 (ui []>>=λl=>again (.builtin "list.__iadd__" ⟨[l, .ref a],[]⟩)) _ _ s;refine ae (de ?_);refine ax ⟨fo xF _,dA KD ?_⟩;rw[oM xF _];have y:(s.heap.push ({cls:= .type "list",data:= .seq ([]:List ag).toArray}:Obj)).get? s.heap.objs.size=some {cls:= .type "list",data:= .seq ([]:List ag).toArray}:=fO _ rfl;have gA:=bV ({cls:= .type "list",data:= .seq ([]:List ag).toArray}:Obj) g1;have j:(s.heap.push ({cls:= .type "list",data:= .seq ([]:List ag).toArray}:Obj)).objs.size=s.heap.objs.size+1:=kN ..;show wpAny _ A.in1 (eF (.ref s.heap.objs.size) (.ref a) (.ref s.heap.objs.size)) _ _ {s with heap:=s.heap.push ({cls:= .type "list",data:= .seq ([]:List ag).toArray}:Obj)};have f:∀b o,s.heap.get? b=some o->(s.heap.push ({cls:= .type "list",data:= .seq ([]:List ag).toArray}:Obj)).get? b=some o:=λb o e=>bV _ e;generalize s.heap.push ({cls:= .type "list",data:= .seq ([]:List ag).toArray}:Obj)=h1 at y gA j f⊢;unfold eF;refine ae (wpAny_typeOf (T:="set") ⟨o,gA,g2.1⟩ ?_);have n1:rk (.ref s.heap.objs.size) (.ref a)=false:=by
  show(s.heap.objs.size==a)=false;exact beq_eq_false_iff_ne.mpr (pe hlt)
 have n2:(dE "set"==dE "list")=false:=⋯
 have B:(dE "set"==dE "tuple")=false:=⋯
 simp only[n1,n2,B,nY,kj,if_false];refine ae (Yi (s:={s with heap:=h1}) hb gA g2 u g tk λI h2 d' items fp qb k1 k2 k3 k4 k5 pp W st=>?_);have Po:=k1 _ _ gA;have AF:=k1 _ _ y;refine ae (dk (UN (s:={s with heap:=h2,drawn:=d'}) ⟨o,Po,g2.1⟩ ?_));have i:s.heap.objs.size<h1.objs.size:=B9 (oH _) j.symm;have nS:s.heap.objs.size∉fp:=λm=>by
  rcases k3 _ m with e|e
  .exact absurd e (pe hlt)
  .exact absurd (eG i e) (jk _)
 have hil:items.length<=sizeLine:=by
  rw[pp.length_eq,ak,cX];exact fH hb
 have key:∀(h3:ek) (c:Nat),qb 0 h3->(∀b o,b≠s.heap.objs.size->h2.get? b=some o->h3.get? b=some o)->h3.get? s.heap.objs.size=some {cls:= .type "list",data:= .seq #[] c}->
   codeAny (a6 prog w) A (.builtin "list.extend.loop" ⟨[.ref s.heap.objs.size, .ref I, .ref s.heap.objs.size],[]⟩) (λr s'=>match r with
    | .ok (.ret v)=>wpAny (a6 prog w) A (match v with| .ref x=>(do match(<-load x).data with| .seq xs _=>pure xs.toList|_=>eD "internal:collect")|_=>eD "internal:collect") Q E s'
    | .ok _=>False
    | .error e=>E e s') {s with heap:=h3,drawn:=d'}:=by
  intro h3 c st3 q1 q2;refine codeAny_extend_loopS ((W A.in1 O).toS) hil _ nS _ items.length 0 _ #[] c rfl (eW _) st3 q2 (ItemsOf.nil _) λs' acc c' d q3 K=>?_;refine ae (q5 q3 (ax ?_));rw[XU K,Moved.eq_with d];refine C s'.heap d' s'.toks items (λb o e=>?_) ?_ pp
  .have nb:b≠s.heap.objs.size:=dz (bF e);refine d.heap b o (λm=>?_) (q1 b o nb (k1 b o (f b o e)));rcases aA.mp m with z|z
   .exact nb z
   .have z:=aN.mp z;rw[z] at e;exact absurd (eG (rM (bF e) i) k2) (jk _)
  .exact j4 (bF q3)
 refine js (λ_=>?_) λ_=>ax ⟨fo IM _,key h2 _ st (λ_ _ _ e=>e) AF⟩;refine ae (eS (ae ?_));show wpAny _ A.in1 (updateSeq s.heap.objs.size (·.push .none)>>=λ_=>updateSeq s.heap.objs.size (·.pop)) _ _ _;have u1:=xQ (ed (·.push fv)) AF rfl;have u2:=xQ (ed (·.pop)) u1 rfl;refine ae (oP AF rfl (oP (hz:=by seq_fits) u1 rfl ?_));have h:∀b o,b≠s.heap.objs.size->h2.get? b=some o->((h2.update s.heap.objs.size (ed (·.push fv))).update s.heap.objs.size (ed (·.pop))).get? b=some o:=λb o nb e=>(kH _ _ (bJ nb)).trans ((kH _ _ (bJ nb)).trans e);exact ax ⟨fo IM _,key _ _ ((W A.in1 O).frame 0 _ _ st λb m o e=>h b o (λz=>nS (z▸m)) e) h u2⟩
theorem Fc{ks:List Int->Prop}:∀{vs:List ag},(∀v∈vs,∃k t,v= .int k t)->∃ns,ee vs ns
  |[],_=>⟨[], .nil⟩
  | v :: vs, h => by
    obtain⟨k,t,rfl⟩:=h v (bY ..);obtain⟨ns,hn⟩:=Fc (ks:=ks) λv m=>h v (bA _ m);exact⟨k::ns, .cons k t hn⟩
theorem EG:∀{vs:List ag} {ns:List Int},ee vs ns->∀k,k∈ns↔∃t, .int k t∈vs
  |_,_, .nil,k=>by simp
  | _, _, .cons j t h, k => by
    rw[aA,EG h k];constructor
    · rintro(rfl|⟨t',m⟩)
      · exact⟨_,bY ..⟩
      · exact⟨t',bA _ m⟩
    · rintro⟨t',m⟩
      rcases aA.mp m with e|m
      · cases e;exact .inl rfl
      · exact .inr ⟨t',m⟩
theorem O9{S:Int->Bool}(O:A.handled=none)(N:s.heap.SetOf (IK prog w) a S n)(hT:gu (fu w) s.heap a)(p:n<64)
  (h : ∀ h' d' j (l : Addr) (out : List Value) (ns : List Int) (e : Nat), (∀ b o, s.heap.get? b = some o -> h'.get? b = some o) -> s.heap.objs.size <= l -> h'.get? l = some (seqObj "list" out.toArray e) -> IntsAre out ns -> ns.Pairwise (· <= ·) -> (∀ k, S k = true ↔ k ∈ ns) -> ns.length = n ->
   Q (.ref l) {s with heap:=h',drawn:=d',toks:=j}):wpAny (a6 prog w) A (call (.builtin "sorted") [.ref a]) Q E s:=by
 obtain⟨o,es,ep,t,g1,g2,u,F,G,r,i,sz⟩:=N;refine Ho kind_sorted plain_sorted entry_sorted (args_sorted1 _) ?_;unfold hh.«sorted»;refine ae (m:=checkCount "sorted" 1 1 _) (ax (ae ?_));refine T9 (A:=A.in1) O r g1 g2 u i (hT o es ep t g1 u) λh1 d1 z items k1 k2 pp=>?_;have d:∀v∈items,∃k t,v= .int k t:=λv m=>by
  obtain⟨e,m',rfl⟩:=fk.mp (pp.mem_iff.mp m);obtain⟨⟨k,hk,_⟩,_⟩:=F e m';obtain⟨t,ht⟩:=wH hk;exact⟨k,t,ht⟩
 obtain⟨ns,hI⟩:=Fc (ks:=λ_=>True) d;have hlen:items.length=n:=by rw[pp.length_eq,ak,cX,sz]
 refine ae (ls ?_);have y:(h1.push (ik "list" items.toArray 0)).get? h1.objs.size=some (ik "list" items.toArray 0):=fO _ rfl;refine ae (dk (c6 qa ⟨_,y,rfl⟩ oQ (list_sort_tree y hI ∅ λout f a1 a2 g=>⟨_,rfl,?_⟩) (qc _)));obtain⟨e,he⟩:=sg (out:=out) y;refine ax ⟨_,rfl,h _ d1 z h1.objs.size out.toList f e (λb o q=>?_) k2 (by simpa using he) a1 g (λk=>?_) ?_⟩
 .have lb:=bF (k1 b o q);rw[qk (dz lb) (by rw[kN];exact mh lb)];exact bV _ (k1 b o q)
 .rw[a2.mem_iff,EG hI,G k];constructor
  .rintro⟨e,m,q⟩;obtain⟨t,ht⟩:=wH q;exact⟨t,pp.mem_iff.mpr (ht▸fk.mpr ⟨e,m,rfl⟩)⟩
  .rintro⟨t,m⟩;obtain⟨e,m',q⟩:=fk.mp (pp.mem_iff.mp m);exact⟨e,m',by rw[q];exact q8 _ _ _ _⟩
 .rw[a2.length_eq,<-hI.length,hlen]
end
noncomputable def sM(P:be)(w:cx)(a:aw)(S:Int->Bool)(n:Nat):HO:= .ext λh=>h.SetOf (IK P w) a S n/\gu (fu w) h a
theorem Inv.dr(I:Inv X pins σ H s)(d:Drawn):Inv X pins σ H {s with drawn:=d}:=
 ⟨I.ok,I.os,I.bare,I.base,I.loc,I.cell,I.free,I.jM,I.pin,I.hok,I.len⟩
theorem DL:∀{ns:List Int} {us:List ag},Vals (ns.map V.int) us->ee us ns
  |[],_, .nil=> .nil
  | n :: ns, _, .cons r t => by
    obtain⟨k,rfl⟩:=r;exact .cons n k (DL t)
theorem Dk:∀{us:List ag} {ns:List Int},ee us ns->Vals (ns.map V.int) us
 |_,_, .nil=> .nil
 |_,_, .cons k t h=> .cons ⟨t,rfl⟩ (Dk h)
theorem Sw{σ:List Int}{k:Int}(h:σ.Nodup):(step_dedup σ k).Nodup:=by
 unfold step_dedup;split;·exact h
 .rename_i q
  rw[nj];refine⟨h,by simp,λx hx y hy=>?_⟩;rw[aN.mp hy];intro e;subst e;exact q (by simp[hx])
theorem Jc(val:Nat->Int):∀i,(fm val i).Nodup
 |0=>List.nodup_nil
 |i+1=>by rw[lh];exact Sw (Jc val i)
theorem LK:∀{ds ns:List Int},ds.Nodup->(∀k∈ds,k∈ns)->ns.length<=ds.length->ds.Perm ns
  | [], ns, _, _, hl => by
    have:ns=[]:=mP.mp (by simpa using hl);rw[this]
  | d :: ds, ns, hd, hs, hl => by
    have hm:=hs d (bY ..);obtain⟨h1,h2⟩:=dU.mp hd;have hp:=List.perm_cons_erase hm;refine(xi d (LK h2 (λk hk=>?_) ?_)).trans hp.symm
    · rcases aA.mp (hp.mem_iff.mp (hs k (bA _ hk))) with e|e
      · subst e;exact absurd hk h1
      · exact e
    · have:=hp.length_eq;simp at this hl⊢;omega
def yD(P:be)(w:cx)(K:PySem.W.Frag):List V->Hp->VK->Prop:=λxs H Q=>∃p,∃ns:List Int,xs=[.ref p]/\aO K H p (ns.map V.int)/\ns.length<=4000/\∀a (ms:List Int),H a=none->ms.Nodup->(∀k,k∈ms↔k∈ns)->Q (.ref a) (upd H a (sM P w a (λk=>ms.any (· ==k)) ms.length))
def uW(P:be)(w:cx):List V->Hp->VK->Prop:=λxs H Q=>∃a,∃ms:List Int,xs=[.ref a]/\H a=some (sM P w a (λk=>ms.any (· ==k)) ms.length)/\ms.Nodup/\ms.length<64/\
 ∀l (L:List Int),H l=none->L.Pairwise (· < ·)->(∀k,k∈L↔k∈ms)->Q (.ref l) (upd H l (.lst (L.map V.int)))
section
variable{X:Cx}
theorem XX(hc:X.calm=true):fV X (.type "set") (yD X.prog X.w X.K):=by
 intro pins s σ H xs us Q I rv h;obtain⟨p,ns,rfl,hp,hn,q⟩:=h;obtain⟨u,rfl,ru⟩:=vals1 rv;cases ru;obtain⟨its,L,d,hz⟩:=I.list hp;have hI:=DL L;have hlen:=hI.length;refine M5 (I.ok.hd hc) d.isList (by simpa using hI) (by rw[cT];unfold fh;omega) λh' tk J M q3=>?_;have a:∀k,k∈fm (λi=>ns.getD i 0) its.toArray.size↔k∈ns:=λk=>by
  have e:=firstMet_any (λi=>ns.getD i 0) its.toArray.size k;have e2:(bp its.toArray.size).map (λi=>ns.getD i 0)=ns:=by
   rw[cT,hlen];apply List.ext_getElem;·simp
   .intro i h1 h2;simp[ko,aQ h2]
  rw[e2] at e;have a1:∀(l:List Int),(l.any (· ==k))=true↔k∈l:=λl=>by
   rw[wR];exact⟨λ⟨x,m,z⟩=>(beq_iff_eq.mp z)▸m,λm=>⟨k,m,beq_self_eq_true _⟩⟩
  rw[<-a1,<-a1,e]
 have kp:∀b u,s.heap.get? b=some u->h'.get? b=some u:=λb u e=>q3 b u (bF e) e;have new:cA X.prog X.w (upd H s.heap.objs.size (sM X.prog X.w s.heap.objs.size (λk=>(fm (λi=>ns.getD i 0) its.toArray.size).any (· ==k)) (fm (λi=>ns.getD i 0) its.toArray.size).length)) h' s.heap.objs.size (sM X.prog X.w s.heap.objs.size (λk=>(fm (λi=>ns.getD i 0) its.toArray.size).any (· ==k)) (fm (λi=>ns.getD i 0) its.toArray.size).length):=by
  refine⟨⟨J,M⟩,?_,λh1 h2 z k=>?_⟩;·obtain⟨o,_,_,_,U,_⟩:=J;exact⟨o,U⟩
  .obtain⟨⟨o,es,ep,t,U,r⟩,c⟩:=z;exact⟨⟨o,es,ep,t,k o U,r⟩,c.keep U (k o U)⟩
 exact⟨.ref s.heap.objs.size,_,I.laid (t':=tk) kp (aF _) new,rfl,q _ _ (I.hok.fresh (aF _)) (Jc _ _) a⟩
theorem Tz(hc:X.calm=true):fV X (.builtin "sorted") (uW X.prog X.w):=by
 intro pins s σ H xs us Q I rv h;obtain⟨a,ms,rfl,O,nd,p,q⟩:=h;obtain⟨u,rfl,ru⟩:=vals1 rv;cases ru;obtain⟨⟨J,M⟩,_,_⟩:=I.hok a _ O;refine O9 (I.ok.hd hc) J M p λh' d' j l out ns e kp hl b hI pw hm hn=>?_;have a1:∀k,(ms.any (· ==k))=true↔k∈ms:=λk=>by
  rw[wR];exact⟨λ⟨x,m,z⟩=>(beq_iff_eq.mp z)▸m,λm=>⟨k,m,beq_self_eq_true _⟩⟩
 have n:∀k,k∈ns↔k∈ms:=λk=>by rw[<-hm k,a1]
 have pp:=LK nd (λk m=>(n k).mpr m) (mj hn);have c:ns.Nodup:=pp.nodup_iff.mp nd;have lt:ns.Pairwise (· < ·):=by
  have:=pw.and c;exact this.imp λ⟨x,y⟩=>∅
 have new:cA X.prog X.w (upd H l (.lst (ns.map V.int))) h' l (.lst (ns.map V.int)):=by
  refine⟨?_,out,e,Dk hI,b⟩;rw[ak,hn];exact fX (j4 p) ⋯
 exact⟨.ref l,_,(I.laid (t':=j) kp hl new).dr d',rfl,q _ _ (I.hok.fresh hl) lt n⟩
end
theorem au.LS{G:Gx}{ρ:Rh}{P:be}{K:PySem.W.Frag}(h:Ev G ρ te λ_ x=>∃ns:List Int,x= .list (ns.map .int)/\ns.length<64/\∀L:List Int,L.Pairwise (· < ·)->(∀k,k∈L↔k∈ns)->Θ true (L.map .int)):
  au G ρ (eX (uW P w) (aX (eX (yD P w K) (aX te bK)) bK)) Θ:=λnb σ H Q W z=>
 h nb σ H _ W λf v H1 x ⟨ns,ex,hn,q⟩ s1 hv=>by
  subst ex;obtain⟨a,xs,rfl,na,hx,hd⟩:=hv.dN;have e:=ur hd;subst e;refine⟨a,ns,rfl, .of hx,∅,λb ms hb nd hm=>?_⟩;have t:ms.length<=ns.length:=BV nd λk m=>(hm k).mp m;refine⟨b,ms,rfl,aT,nd,∅,λl L hl lt n=>?_⟩;have s2:Step G.B H1 (upd H1 b (sM P w b (λk=>ms.any (· ==k)) ms.length)):= .same s1.2 (cF hb);exact au.fin (f:=true) W (s1.trans s2) hl (xq L) (q L lt λk=>(n k).trans (hm k)) z
theorem WS{m:Int}(nd:ms.Nodup)(h:∀k∈ms,0<=k/\k<m):ms.length<=m.toNat:=by
 have:=BV nd (l₂:=(bp m.toNat).map λ(i:Nat)=>(i:Int)) λk hk=>by
  have:=h k hk;exact fk.mpr ⟨k.toNat,qX.mpr ∅,∅⟩
 rwa[ak,me] at this
noncomputable def lR:Bool->a4->Array a4->Nat->Nat->Nat->StateT bo Sem (Option Nat):=sortPriv%PySem.Builtin.gallop
noncomputable def CJ:Array a4->Array a4->StateT bo Sem (Array a4):=sortPriv%PySem.Builtin.mergeLo
noncomputable def DZ:Array a4->Array a4->StateT bo Sem (Array a4):=sortPriv%PySem.Builtin.mergeHi
noncomputable def ow:Nat->StateT bo Sem Unit:=sortPriv%PySem.Builtin.setMinGallop
noncomputable def nK(left:Bool)(key:a4)(arr:Array a4)(base:Nat)(i:Nat):StateT bo Sem (Option Bool):=do
 let x<-g4 arr (base+i)
 if left then lt' x key else return (<-lt' key x).map (!·)
theorem MA(left:Bool)(key:a4)(arr:Array a4)(base n d:Nat):lR left key arr base n d=(do
 let mut wV:=0
 let mut jA:=1
 let mut lo:=0
 let mut hi:=0
 let some right<-nK left key arr base d|return none
 if right then
  let se:=n-d
  for _ in[0:n] do
   if jA≥se then break
   let some more<-nK left key arr base (d+jA)|return none
   if !more then break
   wV:=jA
   jA:=2*jA+1
  lo:=d+wV+1
  hi:=d+min jA se
 else
  let se:=d+1
  for _ in[0:n] do
   if jA≥se then break
   let some found<-nK left key arr base (d-jA)|return none
   if found then break
   wV:=jA
   jA:=2*jA+1
  lo:=d+1-min jA se
  hi:=d-wV
 for _ in[0:n] do
  if lo≥hi then break
  let m:=lo+(hi-lo)/2
  let some more<-nK left key arr base m|return none
  if more then lo:=m+1 else hi:=m
 return some hi):=rfl
theorem Xl(g:Nat):ow g=modify λs=>rl (kindOf s) (cc s) (pendingOf s) g (gv s):=rfl
theorem S6(a b:Array a4):CJ a b=(do
 rule "list.sort.merge-lo"
 let total:=a.size+b.size
 let done (out:Array a4) (ia ib:Nat):=out++a.extract ia a.size++b.extract ib b.size
 let c (out:Array a4) (ia ib:Nat):=out++b.extract ib b.size++a.extract ia a.size
 let mut out:Array a4:= #[<-g4 b 0]
 let mut ia:=0
 let mut ib:=1
 if ib==b.size then return done out ia ib
 if ia+1==a.size then return c out ia ib
 let mut minGallop:=gallopOf (<-get)
 for _ in[0:total] do
  let mut jg:=0
  let mut jh:=0
  for _ in[0:total] do
   let some bWins<-lt' (<-g4 b ib) (<-g4 a ia)|return done out ia ib
   if bWins then
    out:=out.push (<-g4 b ib);ib:=ib+1;jh:=jh+1;jg:=0
    if ib==b.size then return done out ia ib
    if jh≥minGallop then break
   else
    out:=out.push (<-g4 a ia);ia:=ia+1;jg:=jg+1;jh:=0
    if ia+1==a.size then return c out ia ib
    if jg≥minGallop then break
  rule "list.sort.gallop"
  minGallop:=minGallop+1
  for _ in[0:total] do
   if minGallop>1 then minGallop:=minGallop-1
   ow minGallop
   let some k<-lR false (<-g4 b ib) a ia (a.size-ia) 0|return done out ia ib
   jg:=k
   if k>0 then
    out:=out++a.extract ia (ia+k);ia:=ia+k
    if ia+1==a.size then return c out ia ib
    if ia==a.size then return done out ia ib
   out:=out.push (<-g4 b ib);ib:=ib+1
   if ib==b.size then return done out ia ib
   let some k<-lR true (<-g4 a ia) b ib (b.size-ib) 0|return done out ia ib
   jh:=k
   if k>0 then
    out:=out++b.extract ib (ib+k);ib:=ib+k
    if ib==b.size then return done out ia ib
   out:=out.push (<-g4 a ia);ia:=ia+1
   if ia+1==a.size then return c out ia ib
   if jg<7 && jh<7 then break
  minGallop:=minGallop+1
  ow minGallop
 eD "internal:list.sort.merge-bound"):=rfl
def k6(x:a4):Prop:=∃n t,x.1= .int n t
def dP(xs:Array a4):Prop:=∀(i:Nat) (x:a4),xs[i]?=some x->k6 x
section
variable{prog:be}{w:cx}{A:cC}{E:ag->ar->Prop}{s:ar}{st:bo}
theorem mC{arr:Array a4}{Q:a4->bo->Prop}(hi:i<arr.size)(h:Q arr[i] st):wpS (a6 prog w) A E s (g4 arr i) Q st:=by
 rw[elem'_eq,getElem?_pos arr i hi];exact a3 h
theorem dP.at{arr:Array a4}(h:dP arr){i:Nat}(hi:i<arr.size):k6 arr[i]:=h i _ (getElem?_pos arr i hi)
def eK(st st':bo):Prop:=kindOf st'=kindOf st/\cc st'=cc st/\pendingOf st'=pendingOf st/\gv st'=gv st
theorem eK.trans{s1 s2 s3:bo}(h:eK s1 s2)(g:eK s2 s3):eK s1 s3:=⟨g.1.trans h.1,g.2.1.trans h.2.1,g.2.2.1.trans h.2.2.1,g.2.2.2.trans h.2.2.2⟩
theorem eK.refl(s1:bo):eK s1 s1:=⟨rfl,rfl,rfl,rfl⟩
def Mg(a b:Array a4)(i j:Nat)(out:Array a4):Prop:=out.toList.Perm (a.toList.take i++b.toList.take j)
theorem AV{l:List a4}(h:i<l.length):l.take (i+1)=l.take i++[l[i]]:=by rw[ql,aQ h];rfl
theorem Mg.jE{a b:Array a4}{out:Array a4}(h:Mg a b i j out)(hj:j<b.size):Mg a b i (j+1) (out.push b[j]):=by
 unfold Mg at*;rw[jT,AV (l:=b.toList) (by simpa using hj),<-fJ];exact h.append (by simp)
theorem Mg.jI{a b:Array a4}{out:Array a4}(h:Mg a b i j out)(hi:i<a.size):Mg a b (i+1) j (out.push a[i]):=by
 unfold Mg at*;rw[jT,AV (l:=a.toList) (by simpa using hi),fJ];refine(h.append (Dp [a[i]])).trans ?_;rw[fJ];refine kC _ ?_;simpa using lU
theorem jn(a:Array a4)(i j:Nat):(a.extract i j).toList=(a.toList.take j).drop i:=by
 rw[Array.toList_extract,List.extract_eq_take_drop,List.drop_take]
theorem Mg.mG{a b:Array a4}{k:Nat}{out:Array a4}(h:Mg a b i j out):Mg a b (i+k) j (out++a.extract i (i+k)):=by
 unfold Mg at*;rw[g9,jn];have e:a.toList.take (i+k)=a.toList.take i++(a.toList.take (i+k)).drop i:=by
  have:=(kP i (a.toList.take (i+k))).symm;rwa[qr,C1 ∅] at this
 generalize (a.toList.take (i+k)).drop i=z at e⊢;rw[e];refine(h.append_right z).trans ?_;rw[fJ,fJ];exact kC _ lU
theorem Mg.mD{a b:Array a4}{k:Nat}{out:Array a4}(h:Mg a b i j out):Mg a b i (j+k) (out++b.extract j (j+k)):=by
 unfold Mg at*;rw[g9,jn];have e:b.toList.take (j+k)=b.toList.take j++(b.toList.take (j+k)).drop j:=by
  have:=(kP j (b.toList.take (j+k))).symm;rwa[qr,C1 ∅] at this
 generalize (b.toList.take (j+k)).drop j=z at e⊢;rw[e,<-fJ];exact h.append_right _
theorem Il(a:Array a4)(i:Nat):(a.extract i a.size).toList=a.toList.drop i:=by
 rw[jn,Aq (by simp)]
theorem Mg.done{a b:Array a4}{out:Array a4}(h:Mg a b i j out):(out++a.extract i a.size++b.extract j b.size).toList.Perm (a.toList++b.toList):=by
 unfold Mg at h;rw[g9,g9,Il,Il];have ea:=(kP i a.toList).symm;have eb:=(kP j b.toList).symm;rw[show a.toList++b.toList=(a.toList.take i++a.toList.drop i)++(b.toList.take j++b.toList.drop j) by rw[<-ea,<-eb]];refine((h.append_right _).append_right _).trans ?_;simp only[fJ];refine kC _ ?_;rw[<-fJ,<-fJ];exact yX _ lU
theorem Mg.last{a b:Array a4}{out:Array a4}(h:Mg a b i j out):(out++b.extract j b.size++a.extract i a.size).toList.Perm (a.toList++b.toList):=by
 refine oT ?_ h.done;rw[g9,g9,g9,g9,fJ,fJ];exact kC _ lU
theorem Nu{g:Nat}{Q:Unit->bo->Prop}(h:∀st',eK st st'->Q () st'):wpS (a6 prog w) A E s (ow g) Q st:=by
 rw[Xl];exact eP (h _ ⟨rfl,rfl,rfl,rfl⟩)
theorem jO{x y:Nat}{α:Type}{t e:StateT bo Sem α}{Q:α->bo->Prop}(h1:x=y->wpS (a6 prog w) A E s t Q st)(h2:x≠y->wpS (a6 prog w) A E s e Q st):wpS (a6 prog w) A E s (if(x==y)=true then t else e) Q st:=by
 by_cases c:x=y;·rw[if_pos (by simpa using c)];exact h1 c
 .rw[if_neg (by simpa using c)];exact h2 c
theorem gG{c:Prop}[Decidable c]{α:Type}{t e:StateT bo Sem α}{Q:α->bo->Prop}(h1:c->wpS (a6 prog w) A E s t Q st)(h2:¬c->wpS (a6 prog w) A E s e Q st):wpS (a6 prog w) A E s (if c then t else e) Q st:=by
 by_cases c:c;·rw[if_pos c];exact h1 c
 .rw[if_neg c];exact h2 c
theorem JD{c:Bool}{α:Type}{t e:StateT bo Sem α}{Q:α->bo->Prop}(h1:wpS (a6 prog w) A E s t Q st)(h2:wpS (a6 prog w) A E s e Q st):wpS (a6 prog w) A E s (if c=true then t else e) Q st:=by
 cases c;·exact h2
 .exact h1
def LP(a b:Array a4)(cG:bo)(B:Nat)(r:Option (Array a4))(out:Array a4)(ia ib:Nat)(st':bo):Prop:=
 eK cG st'/\(match r with|some z=>z.toList.Perm (a.toList++b.toList)|none=>Mg a b ia ib out/\ia+1<a.size/\ib<b.size/\B<=ia+ib)
variable{cG:bo}
theorem w5{g:Nat}{α:Type}{f:Unit->StateT bo Sem α}{Q:α->bo->Prop}(S:eK cG st)(h:∀st',eK cG st'->wpS (a6 prog w) A E s (f ()) Q st'):wpS (a6 prog w) A E s (ow g>>=f) Q st:=
 az (Nu λst' z=>h st' (S.trans z))
theorem qg{arr:Array a4}{α:Type}{f:a4->StateT bo Sem α}{Q:α->bo->Prop}(hi:i<arr.size)(h:wpS (a6 prog w) A E s (f arr[i]) Q st):wpS (a6 prog w) A E s (g4 arr i>>=f) Q st:=az (mC hi h)
end
section
variable{prog:be}{w:cx}{A:cC}{E:ag->ar->Prop}{s:ar}{st:bo}{cG:bo}
theorem WH(a b:Array a4):DZ a b=(do
 rule "list.sort.merge-hi"
 let total:=a.size+b.size
 let done (out:Array a4) (na nb:Nat):=a.extract 0 na++b.extract 0 nb++out.reverse
 let c (out:Array a4) (na nb:Nat):=b.extract 0 nb++a.extract 0 na++out.reverse
 let mut na:=a.size-1
 let mut nb:=b.size
 let mut out:Array a4:= #[<-g4 a na]
 if na==0 then return done out na nb
 if nb==1 then return c out na nb
 let mut minGallop:=gallopOf (<-get)
 for _ in[0:total] do
  let mut jg:=0
  let mut jh:=0
  for _ in[0:total] do
   let some aWins<-lt' (<-g4 b (nb-1)) (<-g4 a (na-1))|return done out na nb
   if aWins then
    na:=na-1;out:=out.push (<-g4 a na);jg:=jg+1;jh:=0
    if na==0 then return done out na nb
    if jg≥minGallop then break
   else
    nb:=nb-1;out:=out.push (<-g4 b nb);jh:=jh+1;jg:=0
    if nb==1 then return c out na nb
    if jh≥minGallop then break
  rule "list.sort.gallop"
  minGallop:=minGallop+1
  for _ in[0:total] do
   if minGallop>1 then minGallop:=minGallop-1
   ow minGallop
   let some at_<-lR false (<-g4 b (nb-1)) a 0 na (na-1)|return done out na nb
   let k:=na-at_
   jg:=k
   if k>0 then
    out:=out++(a.extract at_ na).reverse;na:=at_
    if na==0 then return done out na nb
   nb:=nb-1;out:=out.push (<-g4 b nb)
   if nb==1 then return c out na nb
   let some at_<-lR true (<-g4 a (na-1)) b 0 nb (nb-1)|return done out na nb
   let k:=nb-at_
   jh:=k
   if k>0 then
    out:=out++(b.extract at_ nb).reverse;nb:=at_
    if nb==1 then return c out na nb
    if nb==0 then return done out na nb
   na:=na-1;out:=out.push (<-g4 a na)
   if na==0 then return done out na nb
   if jg<7 && jh<7 then break
  minGallop:=minGallop+1
  ow minGallop
 eD "internal:list.sort.merge-bound"):=rfl
def Mh(a b:Array a4)(i j:Nat)(out:Array a4):Prop:=out.toList.Perm (a.toList.drop i++b.toList.drop j)
theorem Cm{l:List a4}(h:i<l.length):l.drop i=l[i]::l.drop (i+1):=sO h
theorem Mh.jE{a b:Array a4}{out:Array a4}(h:Mh a b i j out)(hj:j-1<b.size)(h1:1<=j):Mh a b i (j-1) (out.push b[j-1]):=by
 unfold Mh at*;rw[jT,Cm (l:=b.toList) (i:=j-1) (by simpa using hj),show j-1+1=j by omega];refine(h.append_right _).trans ?_;rw[fJ];refine kC _ ?_;simp
theorem Mh.jI{a b:Array a4}{out:Array a4}(h:Mh a b i j out)(hi:i-1<a.size)(h1:1<=i):Mh a b (i-1) j (out.push a[i-1]):=by
 unfold Mh at*;rw[jT,Cm (l:=a.toList) (i:=i-1) (by simpa using hi),show i-1+1=i by omega];refine(h.append_right _).trans ?_;refine lU.trans ?_;simp
theorem Mh.QO{a b:Array a4}{out:Array a4}(h:Mh a b i (j+1) out)(hj:j<b.size):Mh a b i j (out.push b[j]):=Mh.jE (j:=j+1) h hj ∅
theorem Mh.TJ{a b:Array a4}{out:Array a4}(h:Mh a b (i+1) j out)(hi:i<a.size):Mh a b i j (out.push a[i]):=Mh.jI (i:=i+1) h hi ∅
theorem yE{l:List a4}{k:Nat}(h:k<=i):l.drop k=(l.take i).drop k++l.drop i:=by
 have e:=(kP i l).symm
 conv=>lhs;rw[e]
 rw[List.drop_append];by_cases hl:k<=(l.take i).length;·rw[show k-(l.take i).length=0 by omega];rfl
 .have:l.length<=k:=by rw[kh] at hl;omega
  rw[BO (l:=l) (i:=i) ∅];simp
theorem Mh.mG{a b:Array a4}{k:Nat}{out:Array a4}(h:Mh a b i j out)(hk:k<=i):Mh a b k j (out++(a.extract k i).reverse):=by
 unfold Mh at*;rw[g9,Bm,jn,yE (l:=a.toList) hk];refine(h.append (BW _)).trans ?_;refine lU.trans ?_;rw[fJ]
theorem Mh.mD{a b:Array a4}{k:Nat}{out:Array a4}(h:Mh a b i j out)(hk:k<=j):Mh a b i k (out++(b.extract k j).reverse):=by
 unfold Mh at*;rw[g9,Bm,jn,yE (l:=b.toList) hk];refine(h.append (BW _)).trans ?_;rw[fJ];exact kC _ lU
theorem Mh.done{a b:Array a4}{out:Array a4}(h:Mh a b i j out):(a.extract 0 i++b.extract 0 j++out.reverse).toList.Perm (a.toList++b.toList):=by
 unfold Mh at h;rw[g9,g9,jn,jn,Bm,uE,uE];have ea:=(kP i a.toList).symm;have eb:=(kP j b.toList).symm;rw[show a.toList++b.toList=(a.toList.take i++a.toList.drop i)++(b.toList.take j++b.toList.drop j) by rw[<-ea,<-eb]];refine(kC _ ((BW _).trans h)).trans ?_;simp only[fJ];refine kC _ ?_;rw[<-fJ,<-fJ];exact yX _ lU
theorem Mh.first{a b:Array a4}{out:Array a4}(h:Mh a b i j out):(b.extract 0 j++a.extract 0 i++out.reverse).toList.Perm (a.toList++b.toList):=by
 refine oT ?_ h.done;rw[g9,g9,g9,g9];exact yX _ lU
end
theorem Ro(i:Nat):mergeAt' i=(do
 let s<-get
 let (some (sa,na,power),some (sb,nb,_)):=((pendingOf s)[i]?,(pendingOf s)[i+1]?)|eD "internal:list.sort.pending"
 set (hM s (((pendingOf s).setIfInBounds i (sa,na+nb,power)).eraseIdxIfInBounds (i+1)))
 let some k<-lR false (<-g4 (cc s) sb) (cc s) sa na 0|return false
 let (sa,na):=(sa+k,na-k)
 if na==0 then return true
 let some nb<-lR true (<-g4 (cc s) (sa+na-1)) (cc s) sb nb (nb-1)|return false
 if nb==0 then return true
 let x:=(cc s).extract sa sb
 let y:=(cc s).extract sb (sb+nb)
 let merged<-if na<=nb then CJ x y else DZ x y
 modify λs=>setArr s (merged.toList.zipIdx.foldl (λa (p,j)=>a.setIfInBounds (sa+j) p) (cc s))
 return (gv (<-get)).isNone):=rfl
def Ch:List (Nat×Nat×Nat)->Nat->Nat->Prop
 |[],x,y=>x=y
 |(s,n,_)::r,x,y=>s=x/\1<=n/\Ch r (x+n) y
theorem Ch.append:∀{l r:List (Nat×Nat×Nat)} {x z:Nat},Ch (l++r) x z↔∃y,Ch l x y/\Ch r y z
  |[],r,x,z=>⟨λh=>⟨x,rfl,h⟩,λ⟨y,e,h⟩=>by cases e;exact h⟩
  | (s, n, p) :: l, r, x, z => by
    show(s=x/\1<=n/\Ch (l++r) (x+n) z)↔∃y,(s=x/\1<=n/\Ch l (x+n) y)/\Ch r y z;rw[Ch.append];exact⟨λ⟨a,b,y,c,d⟩=>⟨y,⟨a,b,c⟩,d⟩,λ⟨y,⟨a,b,c⟩,d⟩=>⟨a,b,y,c,d⟩⟩
theorem Ch.le:∀{l:List (Nat×Nat×Nat)} {x y:Nat},Ch l x y->x<=y
 |[],x,y,h=>mj h
 |(s,n,p)::l,x,y,⟨a,b,c⟩=>by have:=Ch.le c;omega
theorem Ch.two{lo:Nat}{na pw sb nb:Nat}(h:Ch l 0 lo)(e1:l[i]?=some (sa,na,pw))(e2:l[i+1]?=some (sb,nb,n)):
  sb=sa+na/\1<=na/\1<=nb/\sb+nb<=lo/\Ch ((l.set i (sa,na+nb,pw)).eraseIdx (i+1)) 0 lo:=by
 have hi:i<l.length:=(bH.mp e1).1;have b:i+1<l.length:=(bH.mp e2).1;have g1:=(bH.mp e1).2;have g2:=(bH.mp e2).2;have k:l=l.take i++(sa,na,pw)::(sb,nb,n)::l.drop (i+2):=by
  have:=(kP i l).symm;rwa[sO hi,sO b,g1,g2] at this
 have hl:(l.take i).length=i:=by rw[kh];omega
 generalize l.take i=A1 at*;generalize l.drop (i+2)=A2 at*;subst k;obtain⟨y,c1,a1,a2,g,a,c⟩:=Ch.append.mp h;have:=c.le;refine⟨∅,a2,a,∅,?_⟩;have e:((A1++(sa,na,pw)::(sb,nb,n)::A2).set i (sa,na+nb,pw)).eraseIdx (i+1)=A1++(sa,na+nb,pw)::A2:=by
  rw[Lk _ _ ∅,hl,xN,lx,Jg ∅,show i+1-A1.length=1 by omega]
  rfl
 rw[e];exact Ch.append.mpr ⟨y,c1,a1,∅,by rwa[<-Nat.add_assoc]⟩
theorem Aw(sa:Nat):∀(ms:List a4) (k:Nat) (arr:Array a4),sa+k+ms.length<=arr.size->
    ((ms.zipIdx k).foldl (λ(a:Array a4) (pj:a4×Nat)=>a.setIfInBounds (sa+pj.2) pj.1) arr).toList=arr.toList.take (sa+k)++ms++arr.toList.drop (sa+k+ms.length)
  |[],k,arr,h=>by simp
  | m :: ms, k, arr, h => by
    rw[eY] at h;rw[List.zipIdx_cons,o3,Aw sa ms (k+1) _ (by rw[Array.size_setIfInBounds];omega)];have hs:(arr.setIfInBounds (sa+k) m).toList=arr.toList.set (sa+k) m:=EH ..;show jt _ ((arr.setIfInBounds (sa+k) m).toList)++ms++w7 _ ((arr.setIfInBounds (sa+k) m).toList)=_;rw[hs];have h2:sa+k<arr.toList.length:=by simp;omega
    have e1:(arr.toList.set (sa+k) m).take (sa+(k+1))=arr.toList.take (sa+k)++[m]:=by
      rw[show sa+(k+1)=sa+k+1 by omega,ql,cD h2,List.take_set_of_le (aF _)]
      rfl
    have e2:(arr.toList.set (sa+k) m).drop (sa+(k+1)+ms.length)=arr.toList.drop (sa+k+(ms.length+1)):=by
      rw[List.drop_set_of_lt ∅,show sa+(k+1)+ms.length=sa+k+(ms.length+1) by omega]
    rw[e1,e2,eY];simp
theorem QS{arr:Array a4}{merged:Array a4}{sb nb:Nat}(h1:sa<=sb)(h2:sb+nb<=arr.size)(hm:merged.toList.Perm ((arr.extract sa sb).toList++(arr.extract sb (sb+nb)).toList)):
  (merged.toList.zipIdx.foldl (λ(a:Array a4) (pj:a4×Nat)=>a.setIfInBounds (sa+pj.2) pj.1) arr).toList.Perm arr.toList:=by
 have hl:=hm.length_eq;rw[gx,jn,jn,z5,z5,kh,kh,cX,cX] at hl;have e:=Aw sa merged.toList 0 arr (by rw[cX];omega);rw[cX,qA,show sa+merged.size=sb+nb by omega] at e;rw[e];have e2:arr.toList=arr.toList.take sa++((arr.extract sa sb).toList++(arr.extract sb (sb+nb)).toList)++arr.toList.drop (sb+nb):=by
  rw[jn,jn];have a1:=yE (l:=arr.toList) (k:=sb) (i:=sb+nb) ∅;have a2:=yE (l:=arr.toList) (k:=sa) (i:=sb) h1;rw[fJ,fJ,<-a1,<-a2,kP]
 conv=>rhs;rw[e2]
 exact(kC _ hm).append_right _
structure SI(a₀:Array a4)(lo:Nat)(st:bo):Prop where
 perm:(cc st).toList.Perm a₀.toList
 kind:kindOf st=gw
 failed:gv st=none
 ch:Ch (pendingOf st).toList 0 lo
theorem dP.perm{a b:Array a4}(h:dP a)(p:b.toList.Perm a.toList):dP b:=λi x e=>by
 have:x∈b.toList:=by rw[tX];exact Cc e
 have:x∈a.toList:=p.mem_iff.mp this;obtain⟨j,hj⟩:=kI this;exact h j x (by rw[<-iW];exact hj)
theorem dP.ext{a:Array a4}(h:dP a)(i j:Nat):dP (a.extract i j):=λk x e=>by
 have:x∈(a.extract i j).toList:=by rw[tX];exact Cc e
 rw[jn] at this;have:x∈a.toList:=IE (List.mem_of_mem_drop this);obtain⟨j,hj⟩:=kI this;exact h j x (by rw[<-iW];exact hj)
theorem SI.size{a₀:Array a4}{lo:Nat}{st:bo}(h:SI a₀ lo st):(cc st).size=a₀.size:=by have:=h.perm.length_eq;simpa using this
section
variable{prog:be}{w:cx}{A:cC}{E:ag->ar->Prop}{s:ar}{st:bo}{a₀:Array a4}{lo:Nat}
theorem MG{st':bo}{Q:PUnit->bo->Prop}(h:Q ⟨⟩ st'):wpS (a6 prog w) A E s (set st':StateT bo Sem PUnit) Q st:=by
 unfold wpS;rw[StateT.run_set];exact ax ⟨rfl,h⟩
theorem SI.arr{xs:Array a4}(hI:SI a₀ lo st)(hp:xs.Perm (cc st)):SI a₀ lo (setArr st xs):=⟨(Array.perm_iff_toList_perm.mp hp).trans hI.perm,hI.kind,hI.failed,hI.ch⟩
theorem Ch.pw{f:Nat×Nat×Nat->Nat×Nat×Nat}(hf:∀v,(f v).1=v.1/\(f v).2.1=v.2.1){l:List (Nat×Nat×Nat)}{i x y:Nat}(h:Ch l x y):Ch (l.modify i f) x y:=by
  induction l generalizing i x with
  |nil=>cases i<;>exact h
  | cons v l ih =>
    obtain⟨s,n,p⟩:=v;obtain⟨a,b,c⟩:=h;cases i with
    | zero =>
      have:=hf (s,n,p);rw[List.modify_zero_cons];generalize f (s,n,p)=u at this;obtain⟨s2,n2,p2⟩:=u;dsimp only at this;exact⟨this.1.trans a,∅,by rw[this.2];exact c⟩
    |succ i=>rw[List.modify_succ_cons];exact⟨a,b,ih c⟩
theorem MT{c:Prop}[Decidable c]{a:Nat}:(if c then a-1 else a)<=a:=by split<;>omega
end
theorem Pj{vs:List ag}(hI:ee vs ns){xs:Array a4}(hp:xs.toList.Perm (h7 vs).toList):
  ∃f,ee (xs.map (·.2)).toList f/\f.Perm ns:=by
 have hl:xs.toList.Perm (vs.zip vs):=by rw[<-kf];exact hp
 have a:∀p,p∈xs.toList->p.1=p.2/\p.1∈vs:=λp b=>mW (hl.mem_iff.mp b);refine⟨xs.toList.map (λp=>xa p.1),?_,?_⟩
 .have e:(xs.map (·.2)).toList=xs.toList.map (·.1):=by
   rw[nh];exact uJ λp b=>(a p b).1.symm
  rw[e]
  have h1:=intsAre_map (xs.toList.map (·.1)) (by
   intro v hv;obtain⟨p,b,rfl⟩:=fk.mp hv;exact hI.all _ (a p b).2)
  rwa[lI] at h1
 .have h1:=hl.map (λp=>xa p.1);have e2:(vs.zip vs).map (λp=>xa p.1)=ns:=by
   have:(vs.zip vs).map (λp=>xa p.1)=((vs.zip vs).map Prod.fst).map xa:=by rw[lI];rfl
   rw[this,List.map_fst_zip (aF _),hI.nums]
  rwa[e2] at h1
theorem WL{vs:List ag}(hI:ee vs ns):dP (h7 vs):=λi x e=>by
 have:x∈(h7 vs).toList:=by rw[tX];exact Cc e
 rw[kf] at this;exact hI.all _ (mW this).2
noncomputable def kd(x:a4):Int:=match x.1 with| .int n _=>n|_=>0
noncomputable def kz(a:Array a4)(i:Nat):Int:=match a[i]? with|some x=>kd x|none=>0
theorem dQ{a:Array a4}(h:i<a.size):kz a i=kd a[i]:=by unfold kz;rw[getElem?_pos a i h]
def Ra(a:Array a4)(lo hi:Nat):Prop:=∀i j,lo<=i->i<=j->j<hi->kz a i<=kz a j
def bP(left:Bool)(key:a4)(v:Int):Prop:=if left=true then v<kd key else v<=kd key
theorem oY{u v:Int}(h:bP left key v)(hu:u<=v):bP left key u:=by
 unfold bP at*;cases left with
 |true=>rw[if_pos rfl] at*;omega
 |false=>rw[if_neg bT] at*;omega
section
variable{prog:be}{w:cx}{A:cC}{E:ag->ar->Prop}{s:ar}{st:bo}
theorem yd{x y:a4}{Q:Option Bool->bo->Prop}(hk:kindOf st=gw)(hx:k6 x)(hy:k6 y)(h1:kd x<kd y->Q (some true) st)(h2:kd y<=kd x->Q (some false) st):wpS (a6 prog w) A E s (lt' x y) Q st:=by
 obtain⟨n,t,e1⟩:=hx;obtain⟨m,u,e2⟩:=hy;have d1:kd x=n:=by unfold kd;rw[e1]
 have d2:kd y=m:=by unfold kd;rw[e2]
 rw[lt'_eq];refine az (g0 ?_);rw[hk,keyLt'_oneType,e1,e2];refine az (j1 (gq (oneLt_int ⟨rfl,?_⟩)));refine a3 ?_;by_cases c:n<m;·rw[decide_eq_true c];exact h1 ∅
 .rw[decide_eq_false c];exact h2 ∅
theorem w6{arr:Array a4}{base:Nat}{Q:Option Bool->bo->Prop}(hk:kindOf st=gw)(hy:k6 key)(ha:dP arr)(hi:base+i<arr.size)(h1:bP left key (kz arr (base+i))->Q (some true) st)(h2:¬bP left key (kz arr (base+i))->Q (some false) st):wpS (a6 prog w) A E s (nK left key arr base i) Q st:=by
  unfold nK;refine az (mC hi ?_);rw[dQ hi] at h1 h2;unfold bP at h1 h2;cases left with
  | true =>
    simp only[if_true] at h1 h2⊢;exact yd hk (ha.at hi) hy h1 λz=>h2 ∅
  | false =>
    simp only[kj,if_false] at h1 h2⊢;exact az (yd hk hy (ha.at hi) (λz=>a3 (h2 ∅)) λz=>a3 (h1 z))
theorem Fw{arr:Array a4}{base lo hi:Nat}{Q:Option (Option Nat)×Nat×Nat->bo->Prop}(hk:kindOf st=gw)(hy:k6 key)(ha:dP arr)(hb:base+n<=arr.size)(g:Ra arr base (base+n))(hn:hi<=n)(hl:lo<=hi)(j:∀x<lo,bP left key (kz arr (base+x)))(p2:∀x,hi<=x->x<n->¬bP left key (kz arr (base+x)))
    (h:∀l k,k<=n->(∀x<k,bP left key (kz arr (base+x)))->(∀x,k<=x->x<n->¬bP left key (kz arr (base+x)))->Q (none,l,k) st):
    wpS (a6 prog w) A E s (forIn [0:n] ((none,lo,hi):Option (Option Nat)×Nat×Nat) λx __s=>
                if __s.snd.fst≥__s.snd.snd then pure (hF (none,__s.snd.fst,__s.snd.snd))
                else do
                  let __x<-nK left key arr base (__s.snd.fst+(__s.snd.snd-__s.snd.fst)/2)
                  match __x with
                    | some more =>
                      if more=true then
                        pure (dc (none,__s.snd.fst+(__s.snd.snd-__s.snd.fst)/2+1,__s.snd.snd))
                      else pure (dc (none,__s.snd.fst,__s.snd.fst+(__s.snd.snd-__s.snd.fst)/2))
                    |_=>pure (hF (some none,__s.snd.fst,__s.snd.snd))) Q st:=by
  refine cZ (I:=λx c st'=>st'=st/\∃l k,c=(none,l,k)/\k<=n/\l<=k/\k-l+x<=n/\(∀y<l,bP left key (kz arr (base+y)))/\∀y,k<=y->y<n->¬bP left key (kz arr (base+y))) ?_ ?_ ⟨rfl,lo,hi,rfl,hn,hl,∅,j,p2⟩
  · rintro x c st' _ hx ⟨rfl,l,k,rfl,hkn,hlk,hm,q1,q2⟩
    dsimp only;by_cases a:l≥k;· rw[if_pos a];exact a3 (h l k hkn (λy hy=>q1 y ∅) q2)
    · rw[if_neg a]
      obtain⟨m,em⟩:∃m,l+(k-l)/2=m:=⟨_,rfl⟩;rw[em];refine az (w6 hk hy ha ∅ (λb=>?_) λb=>?_);· exact a3 ⟨rfl,_,_,rfl,hkn,∅,∅,λy hy=>oY b (g _ _ ∅ ∅ ∅),q2⟩
      · exact a3 ⟨rfl,_,_,rfl,∅,∅,∅,q1,λy h1 h2 z=>b (oY z (g _ _ ∅ ∅ ∅))⟩
  · rintro c st' ⟨rfl,l,k,rfl,hkn,hlk,hm,q1,q2⟩
    exact h l k hkn (λy hy=>q1 y ∅) q2
theorem DA{arr:Array a4}{base d:Nat}{Q:Option Nat->bo->Prop}(hk:kindOf st=gw)(hy:k6 key)(ha:dP arr)(hb:base+n<=arr.size)(g:Ra arr base (base+n))(O:d<n)
  (h:∀k,k<=n->(∀x<k,bP left key (kz arr (base+x)))->(∀x,k<=x->x<n->¬bP left key (kz arr (base+x)))->Q (some k) st):wpS (a6 prog w) A E s (lR left key arr base n d) Q st:=by
 rw[MA];refine az (w6 hk hy ha ∅ (λb0=>?_) λb0=>?_)
 .dsimp only;simp only[if_true];refine az (eA (cZ (I:=λx c st'=>st'=st/\∃l k,c=(none,l,k)/\d+l<n/\l<k/\x+1<=k/\bP left key (kz arr (base+(d+l)))) (Q:=λc st'=>st'=st/\∃l k,c=(none,l,k)/\d+l<n/\l<k/\bP left key (kz arr (base+(d+l)))/\(n-d<=k\/¬bP left key (kz arr (base+(d+k))))) ?_ ?_ ⟨rfl,_,_,rfl,∅,∅,∅,b0⟩) ?_)
  .rintro x c st' _ hx ⟨rfl,l,k,rfl,i1,i2,i3,i4⟩;dsimp only;by_cases a:k≥n-d;·rw[if_pos a];exact a3 ⟨rfl,_,_,rfl,i1,i2,i4, .inl a⟩
   .rw[if_neg a];refine az (w6 hk hy ha ∅ (λb=>?_) λb=>?_);·exact a3 ⟨rfl,_,_,rfl,∅,∅,∅,b⟩
    .exact a3 ⟨rfl,_,_,rfl,i1,i2,i4, .inr b⟩
  .rintro c st' ⟨rfl,l,k,rfl,i1,i2,i3,i4⟩;exact⟨rfl,_,_,rfl,i1,i2,i4, .inl ∅⟩
  .rintro c st' ⟨rfl,l,k,rfl,i1,i2,i4,i5⟩;dsimp only;refine az (Fw hk hy ha hb g ∅ ∅ (λx hx=>oY i4 (g _ _ ∅ ∅ ∅)) (λx h1 h2 z=>?_) λl k e J M=>a3 (h k e J M));rcases i5 with i5|i5
   .omega
   .exact i5 (oY z (g _ _ ∅ ∅ ∅))
 .dsimp only;simp only[kj,if_false];refine az (eA (cZ (I:=λx c st'=>st'=st/\∃l k,c=(none,l,k)/\l<=d/\l<k/\x+1<=k/\¬bP left key (kz arr (base+(d-l)))) (Q:=λc st'=>st'=st/\∃l k,c=(none,l,k)/\l<=d/\l<k/\¬bP left key (kz arr (base+(d-l)))/\(d+1<=k\/bP left key (kz arr (base+(d-k))))) ?_ ?_ ⟨rfl,_,_,rfl,∅,∅,∅,b0⟩) ?_)
  .rintro x c st' _ hx ⟨rfl,l,k,rfl,i1,i2,i3,i4⟩;dsimp only;by_cases a:k≥d+1;·rw[if_pos a];exact a3 ⟨rfl,_,_,rfl,i1,i2,i4, .inl a⟩
   .rw[if_neg a];refine az (w6 hk hy ha ∅ (λb=>?_) λb=>?_);·exact a3 ⟨rfl,_,_,rfl,i1,i2,i4, .inr b⟩
    .exact a3 ⟨rfl,_,_,rfl,∅,∅,∅,b⟩
  .rintro c st' ⟨rfl,l,k,rfl,i1,i2,i3,i4⟩;exact⟨rfl,_,_,rfl,i1,i2,i4, .inl ∅⟩
  .rintro c st' ⟨rfl,l,k,rfl,i1,i2,i4,i5⟩;dsimp only;refine az (Fw hk hy ha hb g ∅ ∅ (λx hx=>?_) (λx h1 h2 z=>i4 (oY z (g _ _ ∅ ∅ ∅))) λl k e J M=>a3 (h k e J M));rcases i5 with i5|i5
   .omega
   .exact oY i5 (g _ _ ∅ ∅ ∅)
theorem gW{a:Array a4}{x:a4}(h:i<a.size+1):kz (a.push x) i=if i=a.size then kd x else kz a i:=by
 unfold kz;rw[zC];by_cases c:i=a.size;·rw[if_pos c,if_pos c]
 .rw[if_neg c,if_neg c]
theorem eB{a b:Array a4}:kz (a++b) i=if i<a.size then kz a i else kz b (i-a.size):=by
 unfold kz;rw[Le];by_cases c:i<a.size;·rw[if_pos c,if_pos c]
 .rw[if_neg c,if_neg c]
theorem dH{a:Array a4}{x:Nat}(hj:j<=a.size)(hx:i+x<j):kz (a.extract i j) x=kz a (i+x):=by
 unfold kz;rw[GV,if_pos ∅]
structure Mo(a b:Array a4)(i j:Nat)(out:Array a4):Prop where
 up:Ra out 0 out.size
 oa:∀x y,x<out.size->i<=y->y<a.size->kz out x<=kz a y
 ob:∀x y,x<out.size->j<=y->y<b.size->kz out x<=kz b y
variable{a b out:Array a4}{i j k:Nat}
theorem Mo.jE(h:Mo a b i j out)(hb:Ra b 0 b.size)(ha:Ra a 0 a.size)(hj:j<b.size)(hc:i<a.size->kz b j<=kz a i):Mo a b i (j+1) (out.push b[j]):=by
 have e:kd b[j]=kz b j:=(dQ hj).symm;refine⟨λx y h0 d hy=>?_,λx y hx hi hy=>?_,λx y hx hi hy=>?_⟩<;>rw[sS] at*
 .rw[gW ∅,gW ∅,e];by_cases c1:y=out.size
  .rw[if_pos c1];by_cases c2:x=out.size;·rw[if_pos c2];omega
   .rw[if_neg c2];exact h.ob x j ∅ ∅ hj
  .rw[if_neg c1,if_neg ∅];exact h.up x y ∅ d ∅
 .rw[gW ∅,e];by_cases c2:x=out.size
  .rw[if_pos c2];have h1:=hc ∅;have h2:=ha i y ∅ hi hy;omega
  .rw[if_neg c2];exact h.oa x y ∅ hi hy
 .rw[gW ∅,e];by_cases c2:x=out.size;·rw[if_pos c2];exact hb j y ∅ ∅ hy
  .rw[if_neg c2];exact h.ob x y ∅ ∅ hy
theorem Mo.jI(h:Mo a b i j out)(hb:Ra b 0 b.size)(ha:Ra a 0 a.size)(hi:i<a.size)(hc:j<b.size->kz a i<=kz b j):Mo a b (i+1) j (out.push a[i]):=by
 have e:kd a[i]=kz a i:=(dQ hi).symm;refine⟨λx y h0 d hy=>?_,λx y hx c hy=>?_,λx y hx c hy=>?_⟩<;>rw[sS] at*
 .rw[gW ∅,gW ∅,e];by_cases c1:y=out.size
  .rw[if_pos c1];by_cases c2:x=out.size;·rw[if_pos c2];omega
   .rw[if_neg c2];exact h.oa x i ∅ ∅ hi
  .rw[if_neg c1,if_neg ∅];exact h.up x y ∅ d ∅
 .rw[gW ∅,e];by_cases c2:x=out.size;·rw[if_pos c2];exact ha i y ∅ ∅ hy
  .rw[if_neg c2];exact h.oa x y ∅ ∅ hy
 .rw[gW ∅,e];by_cases c2:x=out.size
  .rw[if_pos c2];have h1:=hc ∅;have h2:=hb j y ∅ c hy;omega
  .rw[if_neg c2];exact h.ob x y ∅ c hy
theorem Mo.mG(h:Mo a b i j out)(hb:Ra b 0 b.size)(ha:Ra a 0 a.size)(hk:i+k<=a.size)(hc:∀y,i<=y->y<i+k->j<b.size->kz a y<=kz b j):Mo a b (i+k) j (out++a.extract i (i+k)):=by
 have hs:(a.extract i (i+k)).size=k:=by rw[fB];omega
 refine⟨λx y h0 d hy=>?_,λx y hx c hy=>?_,λx y hx c hy=>?_⟩<;>rw[mV,hs] at*
 .rw[eB,eB];by_cases c1:y<out.size;·rw[if_pos c1,if_pos ∅];exact h.up x y ∅ d c1
  .rw[if_neg c1,dH (x:=y-out.size) hk ∅];by_cases c2:x<out.size;·rw[if_pos c2];exact h.oa x (i+(y-out.size)) c2 ∅ ∅
   .rw[if_neg c2,dH hk ∅];exact ha _ _ ∅ ∅ ∅
 .rw[eB];by_cases c2:x<out.size;·rw[if_pos c2];exact h.oa x y c2 ∅ hy
  .rw[if_neg c2,dH hk ∅];exact ha _ _ ∅ ∅ hy
 .rw[eB];by_cases c2:x<out.size;·rw[if_pos c2];exact h.ob x y c2 ∅ hy
  .rw[if_neg c2,dH hk ∅];have h1:=hc (i+(x-out.size)) ∅ ∅ ∅;have h2:=hb j y ∅ c hy;omega
theorem Mo.mD(h:Mo a b i j out)(hb:Ra b 0 b.size)(ha:Ra a 0 a.size)(hk:j+k<=b.size)(hc:∀y,j<=y->y<j+k->i<a.size->kz b y<=kz a i):Mo a b i (j+k) (out++b.extract j (j+k)):=by
 have hs:(b.extract j (j+k)).size=k:=by rw[fB];omega
 refine⟨λx y h0 d hy=>?_,λx y hx c hy=>?_,λx y hx c hy=>?_⟩<;>rw[mV,hs] at*
 .rw[eB,eB];by_cases c1:y<out.size;·rw[if_pos c1,if_pos ∅];exact h.up x y ∅ d c1
  .rw[if_neg c1,dH (x:=y-out.size) hk ∅];by_cases c2:x<out.size;·rw[if_pos c2];exact h.ob x (j+(y-out.size)) c2 ∅ ∅
   .rw[if_neg c2,dH hk ∅];exact hb _ _ ∅ ∅ ∅
 .rw[eB];by_cases c2:x<out.size;·rw[if_pos c2];exact h.oa x y c2 ∅ hy
  .rw[if_neg c2,dH hk ∅];have h1:=hc (j+(x-out.size)) ∅ ∅ ∅;have h2:=ha i y ∅ c hy;omega
 .rw[eB];by_cases c2:x<out.size;·rw[if_pos c2];exact h.ob x y c2 ∅ hy
  .rw[if_neg c2,dH hk ∅];exact hb _ _ ∅ ∅ hy
theorem Mo.wD(h:Mo a b i j out)(ha:Ra a 0 a.size):Ra (out++a.extract i a.size) 0 (out++a.extract i a.size).size:=λx y h0 d hy=>by
 rw[mV,fB] at hy;rw[eB,eB];by_cases c1:y<out.size;·rw[if_pos c1,if_pos ∅];exact h.up x y ∅ d c1
 .rw[if_neg c1,dH (x:=y-out.size) (aF _) ∅];by_cases c2:x<out.size;·rw[if_pos c2];exact h.oa x (i+(y-out.size)) c2 ∅ ∅
  .rw[if_neg c2,dH (aF _) ∅];exact ha _ _ ∅ ∅ ∅
theorem Mo.yg(h:Mo a b i j out)(hb:Ra b 0 b.size):Ra (out++b.extract j b.size) 0 (out++b.extract j b.size).size:=λx y h0 d hy=>by
 rw[mV,fB] at hy;rw[eB,eB];by_cases c1:y<out.size;·rw[if_pos c1,if_pos ∅];exact h.up x y ∅ d c1
 .rw[if_neg c1,dH (x:=y-out.size) (aF _) ∅];by_cases c2:x<out.size;·rw[if_pos c2];exact h.ob x (j+(y-out.size)) c2 ∅ ∅
  .rw[if_neg c2,dH (aF _) ∅];exact hb _ _ ∅ ∅ ∅
structure Mp(a b:Array a4):Prop where
 ra:Ra a 0 a.size
 rb:Ra b 0 b.size
 kA:dP a
 kB:dP b
 hd:kz b 0<=kz a 0
 tl:∀y,y<b.size->kz b y<=kz a (a.size-1)
def cH(z:Array a4):Prop:=Ra z 0 z.size
theorem Mo.qN(P:Mp a b)(h:Mo a b i j out)(hj:j=b.size):cH (out++a.extract i a.size++b.extract j b.size):=by
 have e:b.extract j b.size= #[]:=by rw[hj];simp
 unfold cH;rw[e,CC];exact h.wD P.ra
theorem Mo.uR(P:Mp a b)(h:Mo a b i j out)(hi:i=a.size):cH (out++a.extract i a.size++b.extract j b.size):=by
 have e:a.extract i a.size= #[]:=by rw[hi];simp
 unfold cH;rw[e,CC];exact h.yg P.rb
theorem Mo.Dd(P:Mp a b)(h:Mo a b i j out)(hi:i+1=a.size)(hj:j<=b.size):cH (out++b.extract j b.size++a.extract i a.size):=by
 have:=h.mD (k:=b.size-j) P.rb P.ra ∅ (λy _ h2 _=>by have:=P.tl y ∅;rwa[show a.size-1=i by omega] at this);rw[show j+(b.size-j)=b.size by omega] at this;exact this.wD P.ra
def LQ(a b:Array a4)(cG:bo)(B:Nat)(r:Option (Array a4))(out:Array a4)(ia ib:Nat)(st':bo):Prop:=
 eK cG st'/\(match r with|some z=>z.toList.Perm (a.toList++b.toList)/\cH z|none=>Mg a b ia ib out/\Mo a b ia ib out/\ia+1<a.size/\ib<b.size/\B<=ia+ib)
variable{cG st':bo}{B ia ib:Nat}{z:Array a4}
theorem LQ.some(S:eK cG st')(h:z.toList.Perm (a.toList++b.toList))(o:cH z):LQ a b cG B (some z) out ia ib st':=⟨S,h,o⟩
theorem LQ.none(S:eK cG st')(m:Mg a b ia ib out)(o:Mo a b ia ib out)(h1:ia+1<a.size)(h2:ib<b.size)(h3:B<=ia+ib):LQ a b cG B none out ia ib st':=⟨S,m,o,h1,h2,h3⟩
theorem KY{x y:a4}{α:Type}{f:Option Bool->StateT bo Sem α}{Q:α->bo->Prop}(hk:kindOf cG=gw)(S:eK cG st)(hx:k6 x)(hy:k6 y)(h1:kd x<kd y->wpS (a6 prog w) A E s (f (some true)) Q st)(h2:kd y<=kd x->wpS (a6 prog w) A E s (f (some false)) Q st):wpS (a6 prog w) A E s (lt' x y>>=f) Q st:=az (yd (S.1.trans hk) hx hy h1 h2)
theorem Hg{arr:Array a4}{base d:Nat}{α:Type}{f:Option Nat->StateT bo Sem α}{Q:α->bo->Prop}(hk:kindOf cG=gw)(S:eK cG st)(hy:k6 key)(ha:dP arr)(hb:base+n<=arr.size)(g:Ra arr base (base+n))(O:d<n)(h:∀k,k<=n->(∀x<k,bP left key (kz arr (base+x)))->(∀x,k<=x->x<n->¬bP left key (kz arr (base+x)))->wpS (a6 prog w) A E s (f (some k)) Q st):wpS (a6 prog w) A E s (lR left key arr base n d>>=f) Q st:=az (DA (S.1.trans hk) hy ha hb g O h)
theorem Ra.sub{x:Array a4}{l h k h':Nat}(r:Ra x l h)(h1:l<=k)(h2:h'<=h):Ra x k h':=λi j a b c=>r i j ∅ b ∅
theorem n9{α:Type}{t e:StateT bo Sem α}{Q:α->bo->Prop}(h:wpS (a6 prog w) A E s t Q st):wpS (a6 prog w) A E s (if true=true then t else e) Q st:=by rw[if_pos rfl];exact h
theorem oq{α:Type}{t e:StateT bo Sem α}{Q:α->bo->Prop}(h:wpS (a6 prog w) A E s e Q st):wpS (a6 prog w) A E s (if false=true then t else e) Q st:=by rw[if_neg bT];exact h
theorem RH{x:Array a4}{i j:Nat}{hi:i<x.size}{hj:j<y.size}(h:kd x[i]<kd y[j]):kz x i<=kz y j:=by rw[dQ hi,dQ hj];omega
theorem Uz{x:Array a4}{i j:Nat}{hi:i<x.size}{hj:j<y.size}(h:kd y[j]<=kd x[i]):kz y j<=kz x i:=by rw[dQ hi,dQ hj];omega
theorem R8{x:Array a4}{i j k:Nat}{hj:j<y.size}(h:∀z<k,bP false y[j] (kz x (i+z))):∀z,i<=z->z<i+k->kz x z<=kz y j:=λz h1 h2=>by
 have:=h (z-i) ∅;unfold bP at this;rw[if_neg bT,show i+(z-i)=z by omega] at this;rw[dQ hj];exact this
theorem Lq{x:Array a4}{i j k:Nat}{hj:j<y.size}(h:∀z,k<=z->z<n->¬bP false y[j] (kz x (i+z)))(hk:k<n):kz y j<=kz x (i+k):=by
 have:=h k (aF _) hk;unfold bP at this;rw[if_neg bT] at this;rw[dQ hj];omega
theorem PM{x:Array a4}{i j k:Nat}{hj:j<y.size}(h:∀z<k,bP true y[j] (kz x (i+z))):∀z,i<=z->z<i+k->kz x z<=kz y j:=λz h1 h2=>by
 have:=h (z-i) ∅;unfold bP at this;rw[if_pos rfl,show i+(z-i)=z by omega] at this;rw[dQ hj];omega
theorem LM{x:Array a4}{i j k:Nat}{hj:j<y.size}(h:∀z,k<=z->z<n->¬bP true y[j] (kz x (i+z)))(hk:k<n):kz y j<=kz x (i+k):=by
 have:=h k (aF _) hk;unfold bP at this;rw[if_pos rfl] at this;rw[dQ hj];omega
theorem Xg{x:Array a4}{i j k:Nat}{hj:j<y.size}(h:∀z,k<=z->z<n->¬bP false y[j] (kz x (i+z)))(h0:k<=0)(hn:0<n):kz y j<=kz x i:=by
 have:=Lq (k:=0) (λz a b=>h z ∅ b) hn;rwa[qA] at this
theorem XW{x:Array a4}{i j k:Nat}{hj:j<y.size}(h:∀z,k<=z->z<n->¬bP true y[j] (kz x (i+z)))(h0:k<=0)(hn:0<n):kz y j<=kz x i:=by
 have:=LM (k:=0) (λz a b=>h z ∅ b) hn;rwa[qA] at this
local macro_rules| `(tactic|walk_at "og")=> `(tactic|repeat (first|assumption|with_reducible refine Mg.jE ?_ (by omega (config := {}))|with_reducible refine Mg.jI ?_ (by omega (config := {}))|with_reducible refine Mg.mG ?_|with_reducible refine Mg.mD ?_))
local macro_rules| `(tactic|walk_at "oo")=> `(tactic|repeat' (first
 |assumption
 |with_reducible refine Mo.jE ?_ (by assumption) (by assumption) (by omega (config := {})) ?_
 |with_reducible refine Mo.jI ?_ (by assumption) (by assumption) (by omega (config := {})) ?_
 |with_reducible refine Mo.mG ?_ (by assumption) (by assumption) (by omega (config := {})) ?_
 |with_reducible refine Mo.mD ?_ (by assumption) (by assumption) (by omega (config := {})) ?_
 |exact λ_=>Lq (by assumption) (by omega (config := {}))
 |exact λ_=>LM (by assumption) (by omega (config := {}))
 |exact λ_=>Xg (by assumption) (by omega (config := {})) (by omega (config := {}))
 |exact λ_=>XW (by assumption) (by omega (config := {})) (by omega (config := {}))
 |exact λy h1 h2 _=>R8 (by assumption) y h1 h2
 |exact λy h1 h2 _=>PM (by assumption) y h1 h2))
local macro_rules| `(tactic|walk_at "oe")=> `(tactic|(dsimp only;first
 |exact LQ.some (by assumption) (Mg.done (by walk_at "og")) (Mo.qN (by assumption) (by walk_at "oo") (by omega (config := {})))
 |exact LQ.some (by assumption) (Mg.done (by walk_at "og")) (Mo.uR (by assumption) (by walk_at "oo") (by omega (config := {})))
 |exact LQ.some (by assumption) (Mg.last (by walk_at "og")) (Mo.Dd (by assumption) (by walk_at "oo") (by omega (config := {})) (by omega (config := {})))
 |exact LQ.none (by assumption) (by walk_at "og") (by walk_at "oo") (by omega (config := {})) (by omega (config := {})) (by omega (config := {}))
 |exact o5 (by first|rfl|trivial) (LQ.none (by assumption) (by walk_at "og") (by walk_at "oo") (by omega (config := {})) (by omega (config := {})) (by omega (config := {})))))
local macro_rules| `(tactic|walk_at "os")=> `(tactic|repeat' (first
 |with_reducible refine a3 ?_
 |with_reducible refine jO (λ_=>?_) (λ_=>?_)
 |with_reducible refine qg (by omega (config := {})) ?_
 |with_reducible refine Hg (by assumption) (by assumption) (dP.at (by assumption) _) (by assumption) (by omega (config := {})) (Ra.sub (by assumption) (eW _) (by omega (config := {}))) (by omega (config := {})) (λ_ _ _ _=>?_)
 |with_reducible refine w5 (by assumption) (λ_ _=>?_)
 |with_reducible refine JD ?_ ?_
 |with_reducible refine gG (λ_=>?_) (λ_=>?_)
 |walk_at "oe"))
theorem LW{Q:Array a4->bo->Prop}(hk:kindOf st=gw)(P:Mp a b)(a0:0<a.size)(b0:0<b.size)(h:∀r st',eK st st'->r.toList.Perm (a.toList++b.toList)->cH r->Q r st'):wpS (a6 prog w) A E s (CJ a b) Q st:=by
  have ra:=P.ra;have rb:=P.rb;have kA:=P.kA;have kB:=P.kB;rw[S6];refine az (j1 (eS ⟨rfl,?_⟩));refine az (mC b0 ?_);dsimp only;have V:Mg a b 0 1 #[b[0]]:=by unfold Mg;rw[AV (l:=b.toList) (by simpa using b0)];simp
  have t:Mo a b 0 1 #[b[0]]:=by
    have:=Mo.jE (a:=a) (b:=b) (i:=0) (j:=0) (out:= #[]) ⟨λ_ _ _ _ h=>by simp at h,λ_ _ h=>by simp at h,λ_ _ h=>by simp at h⟩ rb ra b0 (λ_=>P.hd);simpa using this
  refine jO (λc1=>a3 (h _ _ (.refl _) V.done (t.qN P c1))) (λc1=>?_);refine jO (λc2=>a3 (h _ _ (.refl _) V.last (t.Dd P c2 ∅))) (λc2=>?_);refine az (g0 ?_);refine az (eA (cZ (I:=λx c st'=>c.1=none/\LQ a b st (x+1) none c.2.1 c.2.2.1 c.2.2.2.1 st') (Q:=λc st'=>eK st st'/\∃z,c.1=some z/\z.toList.Perm (a.toList++b.toList)/\cH z) ?step ?fin ⟨rfl, .none (.refl _) V t (by dsimp only;omega) (by dsimp only;omega) (by dsimp only;omega)⟩) ?post)
  case fin=>
    rintro c st' ⟨_,_,_,_,B,C,f⟩;omega
  case post=>
    rintro c st' ⟨S,z,e,hz,oz⟩;rw[e];exact a3 (h z st' S hz oz)
  case step=>
    rintro x ⟨r,out,ia,ib,mn⟩ st' _ hx ⟨e,S,m,o,B,C,f⟩;dsimp only at e m o B C f;subst e;dsimp only;refine az (eA (cZ (I:=λy c st'=>c.1=none/\LQ a b st (x+1+y) none c.2.1 c.2.2.1 c.2.2.2.1 st') (Q:=λc st'=>LQ a b st (x+2) c.1 c.2.1 c.2.2.1 c.2.2.2.1 st') ?Bu ?Bt ⟨rfl, .none S m o B C ∅⟩) ?CW)
    case Bt=>
      rintro⟨r,out,ia,ib,ac,bc⟩ st' ⟨e,S,m,o,B,C,f⟩;dsimp only at e m o B C f;subst e;exact .none S m o B C ∅
    case Bu=>
      rintro y ⟨r,out,ia,ib,ac,bc⟩ st' _ hy ⟨e,S,m,o,B,C,f⟩;dsimp only at e m o B C f;subst e;dsimp only;refine qg ∅ ?_;refine qg ∅ ?_;refine KY hk S (kB.at _) (kA.at _) (λc=>?_) (λc=>?_)
      · have m':=m.jE (show ib<b.size by omega)
        have o':=o.jE rb ra (show ib<b.size by omega) (λ_=>RH c);refine n9 ?_;refine qg ∅ ?_;refine jO (λz=>?_) (λz=>?_)
        · refine a3 ?_
          dsimp only;exact(LQ.some S m'.done (o'.qN P z))
        · refine gG (λ_=>?_) (λ_=>?_)
          · refine a3 ?_
            dsimp only;exact(LQ.none S m' o' ∅ ∅ ∅)
          · refine a3 ?_
            dsimp only;exact⟨rfl,LQ.none S m' o' ∅ ∅ ∅⟩
      · have m':=m.jI (show ia<a.size by omega)
        have o':=o.jI rb ra (show ia<a.size by omega) (λ_=>Uz c);refine oq ?_;refine qg ∅ ?_;refine jO (λz=>?_) (λz=>?_)
        · refine a3 ?_
          dsimp only;exact(LQ.some S m'.last (o'.Dd P z ∅))
        · refine gG (λ_=>?_) (λ_=>?_)
          · refine a3 ?_
            dsimp only;exact(LQ.none S m' o' ∅ ∅ ∅)
          · refine a3 ?_
            dsimp only;exact⟨rfl,LQ.none S m' o' ∅ ∅ ∅⟩
    case CW=>
      rintro⟨r,out,ia,ib,ac,bc⟩ st' hL;cases r with
      |some z=>exact a3 ⟨hL.1,z,rfl,hL.2⟩
      | none =>
        obtain⟨S,m,o,B,C,f⟩:=hL;dsimp only at m o B C f;dsimp only;refine az (j1 (eS ⟨rfl,?_⟩));refine az (eA (cZ (I:=λy c st'=>c.1=none/\LQ a b st (x+2) none c.2.1 c.2.2.1 c.2.2.2.1 st') (Q:=λc st'=>LQ a b st (x+2) c.1 c.2.1 c.2.2.1 c.2.2.2.1 st') ?DB ?A9 ⟨rfl, .none S m o B C ∅⟩) ?BN)
        case A9=>
          rintro⟨r,out,ia,ib,mn,ac,bc⟩ st' ⟨e,S,m,o,B,C,f⟩;dsimp only at e m o B C f;subst e;exact .none S m o B C ∅
        case DB=>
          rintro y ⟨r,out,ia,ib,mn,ac,bc⟩ st' _ hy ⟨e,S,m,o,B,C,f⟩;dsimp only at e m o B C f;subst e;dsimp only;walk_at "os"
        case BN=>
          rintro⟨r,out,ia,ib,mn,ac,bc⟩ st' hL;cases r with
          |some z=>exact a3 ⟨hL.1,z,rfl,hL.2⟩
          | none =>
            obtain⟨S,m,o,B,C,f⟩:=hL;dsimp only at m o B C f;dsimp only;exact w5 S λst' S'=>a3 ⟨rfl, .none S' m o B C ∅⟩
end
section
variable{prog:be}{w:cx}{A:cC}{E:ag->ar->Prop}{s:ar}{st:bo}{a b out:Array a4}{i j k n:Nat}
theorem qS{x:Nat}(h:x<a.size):kz a.reverse x=kz a (a.size-1-x):=by
 unfold kz;rw[Array.getElem?_reverse h]
structure Mu(a b:Array a4)(i j:Nat)(out:Array a4):Prop where
 dn:∀x y,x<=y->y<out.size->kz out y<=kz out x
 oa:∀x y,x<out.size->y<i->kz a y<=kz out x
 ob:∀x y,x<out.size->y<j->kz b y<=kz out x
theorem Mu.jE(h:Mu a b i (j+1) out)(hb:cH b)(hj:j<b.size)(hc:∀y,y<i->kz a y<=kz b j):Mu a b i j (out.push b[j]):=by
 have e:kd b[j]=kz b j:=(dQ hj).symm;refine⟨λx y d hy=>?_,λx y hx hy=>?_,λx y hx hy=>?_⟩<;>rw[sS] at*
 .rw[gW ∅,gW ∅,e];by_cases c1:y=out.size
  .rw[if_pos c1];by_cases c2:x=out.size;·rw[if_pos c2];omega
   .rw[if_neg c2];exact h.ob x j ∅ ∅
  .rw[if_neg c1,if_neg ∅];exact h.dn x y d ∅
 .rw[gW ∅,e];by_cases c2:x=out.size;·rw[if_pos c2];exact hc y hy
  .rw[if_neg c2];exact h.oa x y ∅ hy
 .rw[gW ∅,e];by_cases c2:x=out.size;·rw[if_pos c2];exact hb y j ∅ ∅ hj
  .rw[if_neg c2];exact h.ob x y ∅ ∅
theorem Mu.jI(h:Mu a b (i+1) j out)(ha:cH a)(hi:i<a.size)(hc:∀y,y<j->kz b y<=kz a i):Mu a b i j (out.push a[i]):=by
 have e:kd a[i]=kz a i:=(dQ hi).symm;refine⟨λx y d hy=>?_,λx y hx hy=>?_,λx y hx hy=>?_⟩<;>rw[sS] at*
 .rw[gW ∅,gW ∅,e];by_cases c1:y=out.size
  .rw[if_pos c1];by_cases c2:x=out.size;·rw[if_pos c2];omega
   .rw[if_neg c2];exact h.oa x i ∅ ∅
  .rw[if_neg c1,if_neg ∅];exact h.dn x y d ∅
 .rw[gW ∅,e];by_cases c2:x=out.size;·rw[if_pos c2];exact ha y i ∅ ∅ hi
  .rw[if_neg c2];exact h.oa x y ∅ ∅
 .rw[gW ∅,e];by_cases c2:x=out.size;·rw[if_pos c2];exact hc y hy
  .rw[if_neg c2];exact h.ob x y ∅ hy
theorem Mu.OS(h:Mu a b i j out)(ha:cH a)(h1:1<=i)(hi:i-1<a.size)(hc:∀y,y<j->kz b y<=kz a (i-1)):Mu a b (i-1) j (out.push a[i-1]):=
 Mu.jI (by rw[show i-1+1=i by omega];exact h) ha hi hc
theorem mE{x:Nat}(hi:i<=a.size)(hx:x<i-k):kz (a.extract k i).reverse x=kz a (i-1-x):=by
 have hs:(a.extract k i).size=i-k:=by rw[fB];omega
 rw[qS ∅,dH hi ∅,hs]
 congr 1;omega
theorem Mu.mG(h:Mu a b i j out)(ha:cH a)(hk:k<=i)(hi:i<=a.size)(hc:∀y,k<=y->y<i->∀x,x<j->kz b x<=kz a y):Mu a b k j (out++(a.extract k i).reverse):=by
 have hs:(a.extract k i).reverse.size=i-k:=by rw[xW,fB];omega
 refine⟨λx y d hy=>?_,λx y hx hy=>?_,λx y hx hy=>?_⟩<;>rw[mV,hs] at*
 .rw[eB,eB];by_cases c1:y<out.size;·rw[if_pos c1,if_pos ∅];exact h.dn x y d c1
  .rw[if_neg c1,mE hi ∅];by_cases c2:x<out.size;·rw[if_pos c2];exact h.oa x _ c2 ∅
   .rw[if_neg c2,mE hi ∅];exact ha _ _ ∅ ∅ ∅
 .rw[eB];by_cases c2:x<out.size;·rw[if_pos c2];exact h.oa x y c2 ∅
  .rw[if_neg c2,mE hi ∅];exact ha _ _ ∅ ∅ ∅
 .rw[eB];by_cases c2:x<out.size;·rw[if_pos c2];exact h.ob x y c2 hy
  .rw[if_neg c2,mE hi ∅];exact hc _ ∅ ∅ y hy
theorem Mu.mD(h:Mu a b i j out)(hb:cH b)(hk:k<=j)(hj:j<=b.size)(hc:∀y,k<=y->y<j->∀x,x<i->kz a x<=kz b y):Mu a b i k (out++(b.extract k j).reverse):=by
 have hs:(b.extract k j).reverse.size=j-k:=by rw[xW,fB];omega
 refine⟨λx y d hy=>?_,λx y hx hy=>?_,λx y hx hy=>?_⟩<;>rw[mV,hs] at*
 .rw[eB,eB];by_cases c1:y<out.size;·rw[if_pos c1,if_pos ∅];exact h.dn x y d c1
  .rw[if_neg c1,mE hj ∅];by_cases c2:x<out.size;·rw[if_pos c2];exact h.ob x _ c2 ∅
   .rw[if_neg c2,mE hj ∅];exact hb _ _ ∅ ∅ ∅
 .rw[eB];by_cases c2:x<out.size;·rw[if_pos c2];exact h.oa x y c2 hy
  .rw[if_neg c2,mE hj ∅];exact hc _ ∅ ∅ y hy
 .rw[eB];by_cases c2:x<out.size;·rw[if_pos c2];exact h.ob x y c2 ∅
  .rw[if_neg c2,mE hj ∅];exact hb _ _ ∅ ∅ ∅
theorem Mu.wD(h:Mu a b i j out)(ha:cH a)(hi:i<=a.size):cH (a.extract 0 i++out.reverse):=λx y h0 d hy=>by
 have hs:(a.extract 0 i).size=i:=by rw[fB];omega
 rw[mV,xW,hs] at hy;rw[eB,eB,hs];by_cases c1:y<i;·rw[if_pos c1,if_pos ∅,dH hi ∅,dH hi ∅];exact ha _ _ ∅ ∅ ∅
 .rw[if_neg c1,qS (x:=y-i) ∅];by_cases c2:x<i;·rw[if_pos c2,dH hi ∅];exact h.oa (out.size-1-(y-i)) (0+x) ∅ ∅
  .rw[if_neg c2,qS ∅];exact h.dn _ _ ∅ ∅
theorem Mu.yg(h:Mu a b i j out)(hb:cH b)(hj:j<=b.size):cH (b.extract 0 j++out.reverse):=λx y h0 d hy=>by
 have hs:(b.extract 0 j).size=j:=by rw[fB];omega
 rw[mV,xW,hs] at hy;rw[eB,eB,hs];by_cases c1:y<j;·rw[if_pos c1,if_pos ∅,dH hj ∅,dH hj ∅];exact hb _ _ ∅ ∅ ∅
 .rw[if_neg c1,qS (x:=y-j) ∅];by_cases c2:x<j;·rw[if_pos c2,dH hj ∅];exact h.ob (out.size-1-(y-j)) (0+x) ∅ ∅
  .rw[if_neg c2,qS ∅];exact h.dn _ _ ∅ ∅
theorem Mu.uR(P:Mp a b)(h:Mu a b i j out)(hi:i=0)(hj:j<=b.size):cH (a.extract 0 i++b.extract 0 j++out.reverse):=by
 have e:a.extract 0 i= #[]:=by rw[hi];simp
 rw[e,Array.empty_append];exact h.yg P.rb hj
theorem Mu.qN(P:Mp a b)(h:Mu a b i j out)(hj:j=0)(hi:i<=a.size):cH (a.extract 0 i++b.extract 0 j++out.reverse):=by
 have e:b.extract 0 j= #[]:=by rw[hj];simp
 rw[e,CC];exact h.wD P.ra hi
theorem Mu.J9(P:Mp a b)(h:Mu a b i j out)(hj:j=1)(b0:1<=b.size)(hi:i<=a.size):cH (b.extract 0 j++a.extract 0 i++out.reverse):=by
 have h2:=h.mG (k:=0) P.ra (eW _) hi (λy _ h2 x hx=>by
  have e:x=0:=∅
  subst e;have h3:=P.hd;have h4:=P.ra 0 y ∅ ∅ ∅;omega)
 have h3:=h2.yg P.rb ∅;rwa[Array.reverse_append,Array.reverse_reverse,<-kv] at h3
def LR(a b:Array a4)(cG:bo)(B:Nat)(r:Option (Array a4))(out:Array a4)(ia ib:Nat)(st':bo):Prop:=
 eK cG st'/\(match r with|some z=>z.toList.Perm (a.toList++b.toList)/\cH z|none=>Mh a b ia ib out/\Mu a b ia ib out/\1<=ia/\ia<=a.size/\2<=ib/\ib<=b.size/\B+ia+ib<=a.size+b.size)
variable{cG st':bo}{B ia ib:Nat}{z:Array a4}
theorem LR.some(S:eK cG st')(h:z.toList.Perm (a.toList++b.toList))(o:cH z):LR a b cG B (some z) out ia ib st':=⟨S,h,o⟩
theorem LR.none(S:eK cG st')(m:Mh a b ia ib out)(o:Mu a b ia ib out)(h1:1<=ia/\ia<=a.size/\2<=ib/\ib<=b.size/\B+ia+ib<=a.size+b.size):LR a b cG B none out ia ib st':=⟨S,m,o,h1⟩
theorem hi_lt{x:Array a4}{i j:Nat}{hi:i<x.size}{hj:j<y.size}(h:kd x[i]<kd y[j])(r:cH x):∀z,z<i+1->kz x z<=kz y j:=λz hz=>by
 have:=r z i ∅ ∅ hi;rw[dQ hi] at this;rw[dQ hj];omega
theorem Qv{x:Array a4}{i j:Nat}{hi:i<x.size}{hj:j<y.size}(h:kd x[i]<=kd y[j])(r:cH x):∀z,z<i+1->kz x z<=kz y j:=λz hz=>by
 have:=r z i ∅ ∅ hi;rw[dQ hi] at this;rw[dQ hj];omega
theorem OT{l:Bool}{x:Array a4}{j k:Nat}{hj:j<y.size}(h:∀z<k,bP l y[j] (kz x (0+z)))(hm:m<=k):∀z,z<m->kz x z<=kz y j:=λz hz=>by
 have:=h z ∅;unfold bP at this;rw[De] at this;rw[dQ hj];cases l with
 |true=>rw[if_pos rfl] at this;omega
 |false=>rw[if_neg bT] at this;exact this
theorem Vz{l:Bool}{x:Array a4}{j k n:Nat}{hj:j<y.size}(h:∀z,k<=z->z<n->¬bP l y[j] (kz x (0+z)))(r:cH y){m:Nat}(hm:m<=j+1):∀z,k<=z->z<n->∀u,u<m->kz y u<=kz x z:=λz h1 h2 u hu=>by
 have:=h z h1 h2;unfold bP at this;rw[De] at this;have h3:=r u j ∅ ∅ hj;rw[dQ hj] at h3;cases l with
 |true=>rw[if_pos rfl] at this;omega
 |false=>rw[if_neg bT] at this;omega
local macro_rules| `(tactic|walk_at "pg")=> `(tactic|repeat (first|assumption|with_reducible refine Mh.jE ?_ (by omega (config := {})) (by omega (config := {}))|with_reducible refine Mh.jI ?_ (by omega (config := {})) (by omega (config := {}))|with_reducible refine Mh.QO ?_ (by omega (config := {}))|with_reducible refine Mh.TJ ?_ (by omega (config := {}))|with_reducible refine Mh.mG ?_ (by omega (config := {}))|with_reducible refine Mh.mD ?_ (by omega (config := {}))))
local macro_rules| `(tactic|walk_at "po")=> `(tactic|repeat' (first
 |assumption
 |with_reducible refine Mu.OS ?_ (by assumption) (by omega (config := {})) (by omega (config := {})) ?_
 |with_reducible refine Mu.jE ?_ (by assumption) (by omega (config := {})) ?_
 |with_reducible refine Mu.jI ?_ (by assumption) (by omega (config := {})) ?_
 |with_reducible refine Mu.mG ?_ (by assumption) (by omega (config := {})) (by omega (config := {})) ?_
 |with_reducible refine Mu.mD ?_ (by assumption) (by omega (config := {})) (by omega (config := {})) ?_
 |exact hi_lt (by assumption) (by assumption)
 |exact Qv (by assumption) (by assumption)
 |exact OT (by assumption) (by omega (config := {}))
 |exact Vz (by assumption) (by assumption) (by omega (config := {}))))
local macro_rules| `(tactic|walk_at "pe")=> `(tactic|(dsimp only;first
 |exact LR.some (by assumption) (Mh.done (by walk_at "pg")) (Mu.uR (by assumption) (by walk_at "po") (by omega (config := {})) (by omega (config := {})))
 |exact LR.some (by assumption) (Mh.done (by walk_at "pg")) (Mu.qN (by assumption) (by walk_at "po") (by omega (config := {})) (by omega (config := {})))
 |exact LR.some (by assumption) (Mh.first (by walk_at "pg")) (Mu.J9 (by assumption) (by walk_at "po") (by omega (config := {})) (by omega (config := {})) (by omega (config := {})))
 |exact LR.none (by assumption) (by walk_at "pg") (by walk_at "po") (by omega (config := {}))
 |exact o5 (by first|rfl|trivial) (LR.none (by assumption) (by walk_at "pg") (by walk_at "po") (by omega (config := {})))))
local macro_rules| `(tactic|walk_at "ps")=> `(tactic|repeat' (first
 |with_reducible refine a3 ?_
 |with_reducible refine n9 ?_
 |with_reducible refine oq ?_
 |with_reducible refine jO (λ_=>?_) (λ_=>?_)
 |with_reducible refine qg (by omega (config := {})) ?_
 |with_reducible refine KY (by assumption) (by assumption) (dP.at (by assumption) _) (dP.at (by assumption) _) (λ_=>?_) (λ_=>?_)
 |with_reducible refine Hg (by assumption) (by assumption) (dP.at (by assumption) _) (by assumption) (by omega (config := {})) (Ra.sub (by assumption) (eW _) (by omega (config := {}))) (by omega (config := {})) (λ_ _ _ _=>?_)
 |with_reducible refine w5 (by assumption) (λ_ _=>?_)
 |with_reducible refine JD ?_ ?_
 |with_reducible refine gG (λ_=>?_) (λ_=>?_)))
theorem QG{Q:Array a4->bo->Prop}(hk:kindOf st=gw)(P:Mp a b)(a0:0<a.size)(b0:0<b.size)(h:∀r st',eK st st'->r.toList.Perm (a.toList++b.toList)->cH r->Q r st'):wpS (a6 prog w) A E s (DZ a b) Q st:=by
  have ra':=P.ra;have rb':=P.rb;have ra:cH a:=P.ra;have rb:cH b:=P.rb;have kA:=P.kA;have kB:=P.kB;rw[WH];refine az (j1 (eS ⟨rfl,?_⟩));refine az (mC (i:=a.size-1) ∅ ?_);dsimp only;have V:Mh a b (a.size-1) b.size #[a[a.size-1]]:=by
    unfold Mh;rw[Cm (l:=a.toList) (i:=a.size-1) (by simp;omega),BO (l:=a.toList) (by simp;omega),BO (l:=b.toList) (by simp)];simp
  have t:Mu a b (a.size-1) b.size #[a[a.size-1]]:=by
    have:=Mu.jI (a:=a) (b:=b) (i:=a.size-1) (j:=b.size) (out:= #[]) ⟨λ_ _ _ h=>by simp at h,λ_ _ h=>by simp at h,λ_ _ h=>by simp at h⟩ ra ∅ (λy hy=>P.tl y hy);simpa using this
  refine jO (λc1=>a3 (h _ _ (.refl _) V.done (t.uR P c1 ∅))) (λc1=>?_);refine jO (λc2=>a3 (h _ _ (.refl _) V.first (t.J9 P c2 ∅ ∅))) (λc2=>?_);refine az (g0 ?_);refine az (eA (cZ (I:=λx c st'=>c.1=none/\LR a b st (x+1) none c.2.2.2.1 c.2.1 c.2.2.1 st') (Q:=λc st'=>eK st st'/\∃z,c.1=some z/\z.toList.Perm (a.toList++b.toList)/\cH z) ?step ?fin ⟨rfl, .none (.refl _) V t (by dsimp only;omega)⟩) ?post)
  case fin=>
    rintro c st' ⟨_,_,_,_,B,C,f,d,i5⟩;omega
  case post=>
    rintro c st' ⟨S,z,e,hz,oz⟩;rw[e];exact a3 (h z st' S hz oz)
  case step=>
    rintro x ⟨r,ia,ib,out,mn⟩ st' _ hx ⟨e,S,m,o,B,C,f,d,i5⟩;dsimp only at e m o B C f d i5;subst e;dsimp only;refine az (eA (cZ (I:=λy c st'=>c.1=none/\LR a b st (x+1+y) none c.2.2.2.1 c.2.1 c.2.2.1 st') (Q:=λc st'=>LR a b st (x+2) c.1 c.2.2.2.1 c.2.1 c.2.2.1 st') ?Bu ?Bt ⟨rfl, .none S m o (by dsimp only;omega)⟩) ?CW)
    case Bt=>
      rintro⟨r,ia,ib,out,ac,bc⟩ st' ⟨e,S,m,o,B,C,f,d,i5⟩;dsimp only at e m o B C f d i5;subst e;exact .none S m o (by dsimp only;omega)
    case Bu=>
      clear S m o B C f d i5 hx V t c1 c2;rintro y ⟨r,ia,ib,out,ac,bc⟩ st' _ hy ⟨e,S,m,o,B,C,f,d,i5⟩;dsimp only at e m o B C f d i5;subst e;dsimp only;obtain⟨p,rfl⟩:∃p,ia=p+1:=⟨ia-1,∅⟩;obtain⟨q,rfl⟩:∃q,ib=q+1+1:=⟨ib-2,∅⟩;simp only[lE];walk_at "ps";all_goals walk_at "pe"
    case CW=>
      rintro⟨r,ia,ib,out,ac,bc⟩ st' hL;cases r with
      |some z=>exact a3 ⟨hL.1,z,rfl,hL.2⟩
      | none =>
        obtain⟨S,m,o,B,C,f,d,i5⟩:=hL;dsimp only at m o B C f d i5;dsimp only;refine az (j1 (eS ⟨rfl,?_⟩));refine az (eA (cZ (I:=λy c st'=>c.1=none/\LR a b st (x+2) none c.2.2.2.1 c.2.1 c.2.2.1 st') (Q:=λc st'=>LR a b st (x+2) c.1 c.2.2.2.1 c.2.1 c.2.2.1 st') ?DB ?A9 ⟨rfl, .none S m o (by dsimp only;omega)⟩) ?BN)
        case A9=>
          rintro⟨r,ia,ib,out,mn,ac,bc⟩ st' ⟨e,S,m,o,B,C,f,d,i5⟩;dsimp only at e m o B C f d i5;subst e;exact .none S m o (by dsimp only;omega)
        case DB=>
          clear S m o B C f d i5 hx V t c1 c2;rintro y ⟨r,ia,ib,out,mn,ac,bc⟩ st' _ hy ⟨e,S,m,o,B,C,f,d,i5⟩;dsimp only at e m o B C f d i5;subst e;dsimp only;obtain⟨p,rfl⟩:∃p,ia=p+1:=⟨ia-1,∅⟩;obtain⟨q,rfl⟩:∃q,ib=q+1+1:=⟨ib-2,∅⟩;simp only[lE];walk_at "ps";all_goals walk_at "pe"
        case BN=>
          rintro⟨r,ia,ib,out,mn,ac,bc⟩ st' hL;cases r with
          |some z=>exact a3 ⟨hL.1,z,rfl,hL.2⟩
          | none =>
            obtain⟨S,m,o,B,C,f,d,i5⟩:=hL;dsimp only at m o B C f d i5;dsimp only;exact w5 S λst' S'=>a3 ⟨rfl, .none S' m o (by dsimp only;omega)⟩
end
noncomputable def zQ(l:List a4)(i:Nat):Int:=match l[i]? with|some x=>kd x|none=>0
theorem AK{a:Array a4}:kz a i=zQ a.toList i:=by unfold kz zQ;rw[iW]<;>rfl
noncomputable def sR(arr:Array a4)(r:Array a4)(sa:Nat):Array a4:=r.toList.zipIdx.foldl (λ(a:Array a4) (pj:a4×Nat)=>a.setIfInBounds (sa+pj.2) pj.1) arr
theorem sy{arr r:Array a4}(h:sa+r.size<=arr.size)(x:Nat):kz (sR arr r sa) x=if x<sa then kz arr x else if x<sa+r.size then kz r (x-sa) else kz arr x:=by
 have e:=Aw sa r.toList 0 arr (by rw[cX];omega);rw[AK,AK,AK];unfold sR zQ;rw[e,cX,qA,fJ,LL,kh,cX,C1 ∅];by_cases c1:x<sa;·rw[if_pos c1,if_pos c1,EW c1]
 .rw[if_neg c1,if_neg c1,LL,cX];by_cases c2:x<sa+r.size;·rw[if_pos ∅,if_pos c2]
  .rw[if_neg ∅,if_neg c2,List.getElem?_drop,show sa+r.size+(x-sa-r.size)=x by omega]
theorem Ch.lies:∀{l:List (Nat×Nat×Nat)} {x y:Nat},Ch l x y->∀v∈l,x<=v.1/\v.1+v.2.1<=y
  |[],x,y,h,v,hv=>nomatch hv
  | (s, n, p) :: l, x, y, ⟨a, b, c⟩, v, hv => by
    have h1:=c.le;rcases aA.mp hv with rfl|hv
    · exact⟨mj a.symm,by dsimp only;omega⟩
    · have:=Ch.lies c v hv
      omega
theorem Ch.apart{lo:Nat}{na pw sb nb:Nat}(h:Ch l 0 lo)(e1:l[i]?=some (sa,na,pw))(e2:l[i+1]?=some (sb,nb,n)):
  ∀v∈(l.set i (sa,na+nb,pw)).eraseIdx (i+1),v=(sa,na+nb,pw)\/(v∈l/\(v.1+v.2.1<=sa\/sb+nb<=v.1)):=by
 have hi:i<l.length:=(bH.mp e1).1;have b:i+1<l.length:=(bH.mp e2).1;have g1:=(bH.mp e1).2;have g2:=(bH.mp e2).2;have k:l=l.take i++(sa,na,pw)::(sb,nb,n)::l.drop (i+2):=by
  have:=(kP i l).symm;rwa[sO hi,sO b,g1,g2] at this
 have hl:(l.take i).length=i:=by rw[kh];omega
 generalize l.take i=A1 at*;generalize l.drop (i+2)=A2 at*;subst k;obtain⟨y,c1,a1,a2,g,a,c⟩:=Ch.append.mp h;have e:((A1++(sa,na,pw)::(sb,nb,n)::A2).set i (sa,na+nb,pw)).eraseIdx (i+1)=A1++(sa,na+nb,pw)::A2:=by
  rw[Lk _ _ ∅,hl,xN,lx,Jg ∅,show i+1-A1.length=1 by omega]
  rfl
 rw[e];intro v hv;rcases fK.mp hv with hv|hv
 .have:=c1.lies v hv;exact .inr ⟨qY _ hv, .inl ∅⟩
 .rcases aA.mp hv with rfl|hv
  .exact .inl rfl
  .have:=c.lies v hv;exact .inr ⟨je _ (bA _ (bA _ hv)), .inr ∅⟩
theorem ext_mem{arr:Array a4}{x:a4}(h:x∈(arr.extract i j).toList):∃y,i<=y/\y<j/\kz arr y=kd x:=by
 obtain⟨k,hk⟩:=kI h;rw[iW,GV] at hk;by_cases c:k<min j arr.size-i
 .rw[if_pos c] at hk;exact⟨i+k,∅,∅,by unfold kz;rw[hk]⟩
 .rw[if_neg c] at hk;cases hk
theorem LN{arr r:Array a4}{p q t:Nat}(h1:p<=q)(h2:q<=t)(hr:r.toList.Perm ((arr.extract p q).toList++(arr.extract q t).toList)){x:Nat}(hx:x<r.size):∃y,p<=y/\y<t/\kz r x=kz arr y:=by
 have hm:r[x]∈r.toList:=by simp
 rcases fK.mp (hr.mem_iff.mp hm) with h|h
 .obtain⟨y,Y,T,e⟩:=ext_mem h;exact⟨y,Y,∅,by rw[dQ hx,e]⟩
 .obtain⟨y,Y,T,e⟩:=ext_mem h;exact⟨y,∅,T,by rw[dQ hx,e]⟩
theorem Ii{arr r:Array a4}{sb na nb k k2:Nat}(hs:sb=sa+na)(hk:k<na)(h2:0<k2)(h3:k2<=nb)(hz:sb+nb<=arr.size)(m:Ra arr sa (sa+na))(l:Ra arr sb (sb+nb))
  (g1:∀x<k,kz arr (sa+x)<=kz arr sb) (g2:∀x,k2<=x->x<nb->kz arr (sb-1)<=kz arr (sb+x)) (hr:r.toList.Perm ((arr.extract (sa+k) sb).toList++(arr.extract sb (sb+k2)).toList)) (ru:cH r):
  r.size=sb+k2-(sa+k)/\Ra (sR arr r (sa+k)) sa (sa+(na+nb)):=by
 have hl:r.size=sb+k2-(sa+k):=by
  have:=hr.length_eq;rw[gx,cX,cX,cX,fB,fB] at this;omega
 refine⟨hl,λi j hi hij hj=>?_⟩;rw[sy ∅,sy ∅];by_cases B:i<sa+k
 .rw[if_pos B];have gi:=g1 (i-sa) ∅;rw[show sa+(i-sa)=i by omega] at gi;by_cases f:j<sa+k;·rw[if_pos f];exact m i j hi hij ∅
  .rw[if_neg f];by_cases o:j<sa+k+r.size
   .rw[if_pos o];obtain⟨y,Y,T,e⟩:=LN ∅ ∅ hr (x:=j-(sa+k)) ∅;rw[e];by_cases c:y<sb;·exact m i y hi ∅ ∅
    .have:=l sb y ∅ ∅ ∅;omega
   .rw[if_neg o];have:=l sb j ∅ ∅ ∅;omega
 .rw[if_neg B,if_neg (show¬j<sa+k by omega)];by_cases C:i<sa+k+r.size
  .rw[if_pos C];by_cases o:j<sa+k+r.size;·rw[if_pos o];exact ru _ _ ∅ ∅ ∅
   .rw[if_neg o];obtain⟨y,Y,T,e⟩:=LN ∅ ∅ hr (x:=i-(sa+k)) ∅;rw[e];by_cases c:y<sb
    .have a1:=m y (sb-1) ∅ ∅ ∅;have a2:=g2 (j-sb) ∅ ∅;rw[show sb+(j-sb)=j by omega] at a2;omega
    .exact l y j ∅ ∅ ∅
  .rw[if_neg C,if_neg (show¬j<sa+k+r.size by omega)];exact l i j ∅ hij ∅
theorem Pp{arr:Array a4}{sb na nb k k2:Nat}(hA:dP arr)(hs:sb=sa+na)(hk:k<na)(h2:0<k2)(h3:k2<=nb)(hz:sb+nb<=arr.size)(m:Ra arr sa (sa+na))(l:Ra arr sb (sb+nb))
  (g1:kz arr sb<=kz arr (sa+k)) (g2:∀x<k2,kz arr (sb+x)<=kz arr (sb-1)):Mp (arr.extract (sa+k) sb) (arr.extract sb (sb+k2)):=by
 have s1:(arr.extract (sa+k) sb).size=sb-(sa+k):=by rw[fB];omega
 have s2:(arr.extract sb (sb+k2)).size=k2:=by rw[fB];omega
 refine⟨λi j h0 hij hj=>?_,λi j h0 hij hj=>?_,hA.ext _ _,hA.ext _ _,?_,λy hy=>?_⟩;·rw[dH ∅ ∅,dH ∅ ∅];exact m _ _ ∅ ∅ ∅
 .rw[dH ∅ ∅,dH ∅ ∅];exact l _ _ ∅ ∅ ∅
 .rw[dH ∅ ∅,dH ∅ ∅];exact g1
 .rw[dH ∅ ∅,dH ∅ ∅,s1,show sa+k+(sb-(sa+k)-1)=sb-1 by omega];exact g2 y ∅
def RU(st:bo):Prop:=∀v∈(pendingOf st).toList,Ra (cc st) v.1 (v.1+v.2.1)
theorem HE{v:Int}:bP false key v↔v<=kd key:=by unfold bP;rw[if_neg bT]
theorem Hw{v:Int}:bP true key v↔v<kd key:=by unfold bP;rw[if_pos rfl]
theorem uB{a:Array a4}{h:i<a.size}(e:i=j):kd a[i]=kz a j:=by subst e;exact(dQ h).symm
section
variable{prog:be}{w:cx}{A:cC}{E:ag->ar->Prop}{s:ar}{st:bo}{a₀:Array a4}{lo:Nat}
theorem DX{Q:Bool->bo->Prop}(hA:dP a₀)(hI:SI a₀ lo st)(g:RU st)(D:lo<=a₀.size)(hi:i+1<(pendingOf st).size)(h:∀st',SI a₀ lo st'->RU st'->(∀x,lo<=x->kz (cc st') x=kz (cc st) x)->(pendingOf st').size+1=(pendingOf st).size->Q true st'):wpS (a6 prog w) A E s (mergeAt' i) Q st:=by
 rw[Ro];refine az (g0 ?_);obtain⟨⟨sa,na,pw⟩,e1⟩:∃v,(pendingOf st)[i]?=some v:=⟨_,getElem?_pos _ i ∅⟩;obtain⟨⟨sb,nb,n⟩,e2⟩:∃v,(pendingOf st)[i+1]?=some v:=⟨_,getElem?_pos _ (i+1) hi⟩;rw[e1,e2];dsimp only;have hs:=hI.size;have F:(pendingOf st).toList[i]?=some (sa,na,pw):=by rw[iW];exact e1
 have G:(pendingOf st).toList[i+1]?=some (sb,nb,n):=by rw[iW];exact e2
 obtain⟨b1,b2,b3,b4,b5⟩:=hI.ch.two F G;have hap:=hI.ch.apart F G;have m:Ra (cc st) sa (sa+na):=g _ (c8 F);have l:Ra (cc st) sb (sb+nb):=g _ (c8 G);have m7:=hA.perm hI.perm;refine az (MG ?_);have hp2:(((pendingOf st).setIfInBounds i (sa,na+nb,pw)).eraseIdxIfInBounds (i+1)).toList=((pendingOf st).toList.set i (sa,na+nb,pw)).eraseIdx (i+1):=by
  rw[Array.toList_eraseIdxIfInBounds,EH]
 have hsz:(((pendingOf st).setIfInBounds i (sa,na+nb,pw)).eraseIdxIfInBounds (i+1)).size+1=(pendingOf st).size:=by
  rw[<-cX,hp2,CM (by rw[iQ];simpa using hi),iQ,cX];omega
 have I2:SI a₀ lo (hM st (((pendingOf st).setIfInBounds i (sa,na+nb,pw)).eraseIdxIfInBounds (i+1))):=⟨hI.perm,hI.kind,hI.failed,by show Ch (((pendingOf st).setIfInBounds i (sa,na+nb,pw)).eraseIdxIfInBounds (i+1)).toList 0 lo;rw[hp2];exact b5⟩;have B:Ra (cc st) sa (sa+(na+nb))->RU (hM st (((pendingOf st).setIfInBounds i (sa,na+nb,pw)).eraseIdxIfInBounds (i+1))):=λhr v hv=>by
  have b:v∈((pendingOf st).toList.set i (sa,na+nb,pw)).eraseIdx (i+1):=by rw[<-hp2];exact hv
  show Ra (cc st) v.1 (v.1+v.2.1);rcases hap v b with rfl|⟨hm,_⟩
  .exact hr
  .exact g v hm
 refine az (mC ∅ ?_);refine az (DA I2.kind (m7.at _) m7 ∅ m ∅ λk hk g1 rL=>?_);have u:∀x<k,kz (cc st) (sa+x)<=kz (cc st) sb:=λx hx=>by have:=HE.mp (g1 x hx);rwa[uB rfl] at this
 have C:∀x,k<=x->x<na->kz (cc st) sb<=kz (cc st) (sa+x):=λx h1 h2=>sC (Int.not_le.mp λz=>rL x h1 h2 (HE.mpr (by rw[uB rfl];exact z)));dsimp only;refine jO (λc=>a3 (h _ I2 (B λx y hx d hy=>?_) (λ_ _=>rfl) hsz)) (λc=>?_)
 .by_cases Y:y<sa+na;·exact m x y hx d Y
  .by_cases x1:x<sa+na
   .have a1:=u (x-sa) ∅;rw[show sa+(x-sa)=x by omega] at a1;have a2:=l sb y ∅ ∅ ∅;omega
   .exact l x y ∅ d ∅
 refine az (mC ∅ ?_);refine az (DA I2.kind (m7.at _) m7 ∅ l ∅ λk2 f g2 I=>?_);have H:∀x<k2,kz (cc st) (sb+x)<=kz (cc st) (sb-1):=λx hx=>by have:=Hw.mp (g2 x hx);rw[uB (j:=sb-1) ∅] at this;omega
 have o:∀x,k2<=x->x<nb->kz (cc st) (sb-1)<=kz (cc st) (sb+x):=λx h1 h2=>Int.not_lt.mp λz=>I x h1 h2 (Hw.mpr (by rw[uB (j:=sb-1) ∅];exact z));dsimp only;refine jO (λc=>a3 (h _ I2 (B λx y hx d hy=>?_) (λ_ _=>rfl) hsz)) (λc2=>?_)
 .by_cases Y:y<sa+na;·exact m x y hx d Y
  .by_cases x1:x<sa+na
   .have a1:=m x (sb-1) ∅ ∅ ∅;have a2:=o (y-sb) ∅ ∅;rw[show sb+(y-sb)=y by omega] at a2;omega
   .exact l x y ∅ d ∅
 have fin:∀(r:Array a4) (st':bo),eK (hM st (((pendingOf st).setIfInBounds i (sa,na+nb,pw)).eraseIdxIfInBounds (i+1))) st'->r.toList.Perm (((cc st).extract (sa+k) sb).toList++((cc st).extract sb (sb+k2)).toList)->cH r->
   wpS (a6 prog w) A E s (do modify λs=>setArr s (r.toList.zipIdx.foldl (λa (p,j)=>a.setIfInBounds (sa+k+j) p) (cc s));return (gv (<-get)).isNone) Q st':=λr st' S hr ru=>by
  obtain⟨J,M,q3,K⟩:=S;refine az (eP (az (g0 (a3 ?_))));have hf:gv st'=none:=K.trans hI.failed;show Q (gv st').isNone _;rw[hf];have e:cc st'=cc st:=M;refine h _ ⟨?_,J.trans hI.kind,K.trans hI.failed,?_⟩ ?_ ?_ ?_
  .show(r.toList.zipIdx.foldl (λ(a:Array a4) (pj:a4×Nat)=>a.setIfInBounds (sa+k+pj.2) pj.1) (cc st')).toList.Perm a₀.toList;rw[e];exact(QS ∅ ∅ hr).trans hI.perm
  .show Ch (pendingOf st').toList 0 lo;rw[q3];exact I2.ch
  .obtain⟨hl,q⟩:=Ii b1 ∅ ∅ f ∅ m l u o hr ru;intro v hv;have t:v∈(pendingOf st').toList:=hv;rw[q3] at t;have b:v∈((pendingOf st).toList.set i (sa,na+nb,pw)).eraseIdx (i+1):=by rw[<-hp2];exact t
   show Ra (sR (cc st') r (sa+k)) v.1 (v.1+v.2.1);rw[e];rcases hap v b with rfl|⟨hm,hd⟩
   .exact q
   .intro x y hx d hy;rw[sy ∅,sy ∅];have:=g v hm x y hx d hy;rcases hd with hd|hd
    .rw[if_pos ∅,if_pos ∅];exact this
    .rw[if_neg ∅,if_neg ∅,if_neg ∅,if_neg ∅];exact this
  .obtain⟨hl,q⟩:=Ii b1 ∅ ∅ f ∅ m l u o hr ru;intro x hx;show kz (sR (cc st') r (sa+k)) x=_;rw[e,sy ∅,if_neg ∅,if_neg ∅]
  .show(pendingOf st').size+1=_;rw[q3];exact hsz
 have hmp:=Pp m7 b1 (show k<na by omega) (show 0<k2 by omega) f ∅ m l (C k (aF _) ∅) H;refine gG (λL=>az ?_) (λL=>az ?_);·exact LW I2.kind hmp (by rw[fB];omega) (by rw[fB];omega) fin
 .exact QG I2.kind hmp (by rw[fB];omega) (by rw[fB];omega) fin
end
theorem Fx{a:Array a4}(hj:j<=a.size)(x:Nat):kz (mirror a i j ((j-i)/2)) x=if i<=x/\x<j then kz a (i+j-1-x) else kz a x:=by
 unfold kz;rw[getElem?_mirror hj _ ∅];by_cases c:i<=x/\x<j
 .rw[if_pos c];by_cases c2:(i<=x/\x<i+(j-i)/2)\/(j-(j-i)/2<=x/\x<j);·rw[if_pos c2]
  .rw[if_neg c2,show i+j-1-x=x by omega]
 .rw[if_neg c,if_neg ∅]
theorem Ms{a:Array a4}{b d:Nat}(hs:b<a.size)(hd:d<=b)(x:Nat):kz (vT a b d) x=if x=b-d then kz a b else if b-d<x/\x<=b then kz a (x-1) else kz a x:=by
 unfold kz;rw[getElem?_bubble hs d hd];by_cases c:x=b-d;·rw[if_pos c,if_pos c]
 .rw[if_neg c,if_neg c];by_cases c2:b-d<x/\x<=b;·rw[if_pos c2,if_pos c2]
  .rw[if_neg c2,if_neg c2]
section
variable{prog:be}{w:cx}{A:cC}{E:ag->ar->Prop}{s:ar}{st:bo}{a₀:Array a4}{lo:Nat}
theorem sJ{α:Type}{f:Option Bool->StateT bo Sem α}{Q:α->bo->Prop}(hA:dP a₀)(hI:SI a₀ lo st)(hi:i<a₀.size)(hj:j<a₀.size)(h1:kz (cc st) i<kz (cc st) j->wpS (a6 prog w) A E s (f (some true)) Q st)(h2:kz (cc st) j<=kz (cc st) i->wpS (a6 prog w) A E s (f (some false)) Q st):wpS (a6 prog w) A E s (ltAt' i j>>=f) Q st:=by
 have hs:=hI.size;have m7:=hA.perm hI.perm;refine az ?_;rw[ltAt'_eq];refine az (g0 ?_);refine az (mC ∅ (az (mC ∅ ?_)));rw[dQ ∅,dQ ∅] at h1 h2;exact yd hI.kind (m7.at _) (m7.at _) h1 h2
structure Kq(a₀:Array a4)(lo at_:Nat)(st st':bo):Prop where
 si:SI a₀ lo st'
 pd:pendingOf st'=pendingOf st
 sm:∀x<at_,kz (cc st') x=kz (cc st) x
theorem Kq.refl{at_:Nat}(h:SI a₀ lo st):Kq a₀ lo at_ st st:=⟨h,rfl,λ_ _=>rfl⟩
theorem sH{at_:Nat}{st1:bo}{α:Type}{f:Unit->StateT bo Sem α}{Q:α->bo->Prop}(c:Kq a₀ lo at_ st st1)(hi:at_<=i)(hj:j<=a₀.size)(h:∀st',Kq a₀ lo at_ st st'->(∀x,kz (cc st') x=if i<=x/\x<j then kz (cc st1) (i+j-1-x) else kz (cc st1) x)->wpS (a6 prog w) A E s (f ()) Q st'):wpS (a6 prog w) A E s (reverseSlice' i j>>=f) Q st1:=by
 have hs:=c.si.size;refine az ?_;rw[reverseSlice'_eq];refine eP (h _ ⟨c.si.arr (mirror_perm _ _ _ _),c.pd,λx hx=>?_⟩ λx=>Fx ∅ x);show kz (mirror (cc st1) i j ((j-i)/2)) x=_;rw[Fx ∅,if_neg ∅];exact c.sm x hx
theorem D4{at_ a e:Nat}{Q:Option (Option α)×Nat->bo->Prop}(hA:dP a₀)(hI:SI a₀ lo st)(hn:at_+e<=a₀.size)(ha:1<=a)(f:a<=e)(g:Ra (cc st) at_ (at_+a))(h:∀n,a<=n->n<=e->Ra (cc st) at_ (at_+n)->(n<e->kz (cc st) (at_+n)<kz (cc st) (at_+n-1))->Q (none,n) st):
  wpS (a6 prog w) A E s (forIn [a:e] ((none,a):Option (Option α)×Nat) λ_ __s=>do
   let __x<-ltAt' (at_+__s.snd) (at_+__s.snd-1)
   match __x with
   |some d=>if d=true then pure (hF (none,__s.snd)) else pure (dc (none,__s.snd+1))
   |_=>pure (hF (some none,__s.snd))) Q st:=by
 refine cZ (I:=λx c st'=>st'=st/\c=(none,x)/\Ra (cc st) at_ (at_+x)) ?_ ?_ ⟨rfl,rfl,g⟩
 .rintro x c st' hax hxn ⟨rfl,rfl,hr⟩;dsimp only;refine sJ hA hI ∅ ∅ (λb=>?_) (λb=>?_);·exact n9 (a3 (h x hax ∅ hr λ_=>b))
  .refine oq (a3 ⟨rfl,rfl,λi j h1 h2 h3=>?_⟩);by_cases c:j<at_+x;·exact hr i j h1 h2 c
   .rw[show j=at_+x by omega];by_cases c2:i<at_+x
    .have:=hr i (at_+x-1) h1 ∅ ∅;omega
    .rw[show i=at_+x by omega];omega
 .rintro c st' ⟨rfl,rfl,hr⟩;rw[show max a e=e by omega] at hr⊢;exact h e f (aF _) hr λz=>absurd z ∅
def Fe(a:Array a4)(lo hi q:Nat):Prop:=(∀i j,lo<=i->i<=j->j<hi->kz a j<=kz a i)/\lo+q+1<=hi/\∀x,hi-(q+1)<=x->x<hi->kz a x=kz a (hi-1)
theorem Fe.rev{a u:Array a4}{lo hi q:Nat}(h:Fe a lo hi q)(e:∀x,kz u x=if hi-(q+1)<=x/\x<hi then kz a (hi-(q+1)+hi-1-x) else kz a x):∀x,kz u x=kz a x:=λx=>by
 rw[e x];obtain⟨h1,h2,h3⟩:=h;by_cases c:hi-(q+1)<=x/\x<hi;·rw[if_pos c,h3 x c.1 c.2];exact h3 _ ∅ ∅
 .rw[if_neg c]
theorem Fe.same{a u:Array a4}{lo hi q:Nat}(h:Fe a lo hi q)(e:∀x,kz u x=kz a x):Fe u lo hi q:=⟨λi j a b c=>by rw[e,e];exact h.1 i j a b c,h.2.1,λx a b=>by rw[e,e];exact h.2.2 x a b⟩
theorem Fe.less{a:Array a4}{lo hi q:Nat}(h:Fe a lo hi q)(c:kz a hi<kz a (hi-1)):Fe a lo (hi+1) 0:=by
 obtain⟨h1,h2,h3⟩:=h;refine⟨λi j a1 a2 g=>?_,∅,λx a1 a2=>by rw[show x=hi+1-1 by omega]⟩;by_cases c1:j<hi;·exact h1 i j a1 a2 c1
 .rw[show j=hi by omega];by_cases c2:i<hi;·have:=h1 i (hi-1) a1 ∅ ∅;omega
  .rw[show i=hi by omega];omega
theorem Fe.TU{a:Array a4}{lo hi q:Nat}(h:Fe a lo hi q)(c1:kz a (hi-1)<=kz a hi)(c2:kz a hi<=kz a (hi-1)):Fe a lo (hi+1) (q+1):=by
 obtain⟨h1,h2,h3⟩:=h;refine⟨λi j a1 a2 g=>?_,∅,λx a1 a2=>?_⟩
 .by_cases c1:j<hi;·exact h1 i j a1 a2 c1
  .rw[show j=hi by omega];by_cases c2:i<hi;·have:=h1 i (hi-1) a1 ∅ ∅;omega
   .rw[show i=hi by omega];omega
 .rw[show hi+1-1=hi by omega];by_cases c:x<hi;·rw[h3 x ∅ c];omega
  .rw[show x=hi by omega]
theorem Fe.up{a u:Array a4}{lo hi q:Nat}(h:Fe a lo hi q)(e:∀x,kz u x=if lo<=x/\x<hi then kz a (lo+hi-1-x) else kz a x):Ra u lo hi:=λi j h1 h2 h3=>by
 rw[e,e,if_pos ∅,if_pos ∅];exact h.1 _ _ ∅ ∅ ∅
theorem Oh{at_ e:Nat}{Q:Option Nat->bo->Prop}(hA:dP a₀)(hI:SI a₀ lo st)(hn:at_+e<=a₀.size)(h1:1<=e)(h:∀m st',Kq a₀ lo at_ st st'->1<=m->m<=e->Ra (cc st') at_ (at_+m)->Q (some m) st'):wpS (a6 prog w) A E s (countRun' at_ e) Q st:=by
 rw[countRun'_eq];have g:Kq a₀ lo at_ st st:= .refl hI;refine az (D4 hA hI hn (aF 1) h1 (λi j a b c=>by rw[show i=j by omega];omega) λn n1 n2 hr hlt=>?_);dsimp only;refine jO (λc=>a3 (h n st g n1 n2 hr)) (λc=>?_);have hlt:=hlt ∅;refine gG (λc2=>sJ hA hI ∅ ∅ (λb=>n9 (a3 (h n st g n1 n2 hr))) λb=>oq (sH g (aF _) ∅ λst1 K1 e1=>?_)) (λc2=>?_)
 rotate_left
 have K1:=g;have f:Fe (cc st) at_ (at_+(n+1)) 0:=by
  refine Fe.less (hi:=at_+n) (q:=0) ⟨λi j a b c=>by rw[show i=j by omega];omega,∅,λx a b=>by rw[show x=at_+n-1 by omega]⟩ hlt
 rotate_left
 have f:Fe (cc st1) at_ (at_+(n+1)) 0:=by
  have r:∀i j,at_<=i->i<at_+n->at_<=j->j<at_+n->kz (cc st) i=kz (cc st) j:=λi j a b c d=>by
   have x1:=hr at_ i (aF _) a b;have x2:=hr at_ j (aF _) c d;have x3:=hr i (at_+n-1) a ∅ ∅;have x4:=hr j (at_+n-1) c ∅ ∅;omega
  have k:∀x,kz (cc st1) x=kz (cc st) x:=λx=>by
   rw[e1 x];by_cases c:at_<=x/\x<at_+n;·rw[if_pos c];exact r _ _ ∅ ∅ ∅ ∅
   .rw[if_neg c]
  refine Fe.less (hi:=at_+n) (q:=0) ⟨λi j a b c=>?_,∅,λx a b=>by rw[show x=at_+n-1 by omega]⟩ (by rw[k,k];exact hlt);rw[k,k,r i j a ∅ ∅ c];omega
 all_goals
  refine az (j1 (eS ⟨rfl,?_⟩));refine az (eA (cZ (I:=λx c st'=>Kq a₀ lo at_ st st'/\∃q,c=(none,x,q)/\Fe (cc st') at_ (at_+x) q) (Q:=λc st'=>Kq a₀ lo at_ st st'/\∃x q,c=(none,x,q)/\1<=x/\x<=e/\Fe (cc st') at_ (at_+x) q) ?st ?fi ⟨K1,0,rfl,f⟩) ?po)
  case st=>
   rintro x c st' GI hx2 ⟨K2,q,rfl,F2⟩;dsimp only;refine sJ hA K2.si ∅ ∅ (λb=>n9 ?_) (λb=>oq ?_)
   .refine gG (λ_=>?_) (λ_=>?_)
    .refine sH K2 (by have:=F2.2.1;omega) ∅ λst3 p e3=>a3 ⟨p,0,rfl,?_⟩;have e4:=F2.rev e3;exact(F2.same e4).less (by rw[e4,e4];exact b)
    .exact a3 ⟨K2,0,rfl,F2.less b⟩
   .refine sJ hA K2.si ∅ ∅ (λb2=>n9 ?_) (λb2=>oq ?_);·exact a3 ⟨K2,x,q,rfl,∅,∅,F2⟩
    .exact a3 ⟨K2,q+1,rfl,F2.TU b b2⟩
  case fi=>
   rintro c st' ⟨K2,q,rfl,F2⟩;exact⟨K2,_,q,rfl,∅,∅,F2⟩
  case po=>
   rintro c st' ⟨K2,x,q,rfl,x1,x2,F2⟩;dsimp only;refine gG (λ_=>?_) (λ_=>?_);·refine sH K2 (by have:=F2.2.1;omega) ∅ λst3 p e3=>sH p (aF _) ∅ λl o e4=>az (D4 hA o.si hn x1 x2 ((F2.same (F2.rev e3)).up e4) λm m1 m2 hm _=>a3 (h m l o ∅ m2 hm))
   .refine sH K2 (aF _) ∅ λl o e4=>az (D4 hA o.si hn x1 x2 (F2.up e4) λm m1 m2 hm _=>a3 (h m l o ∅ m2 hm))
end
theorem Ch.len:∀{l:List (Nat×Nat×Nat)} {x y:Nat},Ch l x y->l.length+x<=y
 |[],x,y,h=>by rw[B6];exact mj (by rw[De];exact h)
 |(s,n,p)::l,x,y,⟨a,b,c⟩=>by have:=Ch.len c;rw[eY];omega
section
variable{prog:be}{w:cx}{A:cC}{E:ag->ar->Prop}{s:ar}{st st':bo}{a₀:Array a4}{lo:Nat}
theorem Kq.ru(K:Kq a₀ lo lo st st')(hI:SI a₀ lo st)(g:RU st):RU st':=λv hv=>by
 rw[K.pd] at hv;have h1:=hI.ch.lies v hv;intro x y hx hxy hy;rw[K.sm x ∅,K.sm y ∅];exact g v hv x y hx hxy hy
theorem RU.push{l n z:Nat}(g:RU st)(hm:Ra (cc st) l (l+n)):RU (hM st ((pendingOf st).push (l,n,z))):=λv hv=>by
 have b:v∈((pendingOf st).push (l,n,z)).toList:=hv;rw[jT] at b;show Ra (cc st) v.1 (v.1+v.2.1);rcases fK.mp b with h|h
 .exact g v h
 .rw[aN.mp h];exact hm
theorem RU.pw{i:Nat}(g:RU st)(pw:Nat):RU (hM st ((pendingOf st).modify i λx=>(x.1,x.2.1,pw))):=λv hv=>by
  have b:v∈((pendingOf st).modify i λx=>(x.1,x.2.1,pw)).toList:=hv;rw[zM] at b;show Ra (cc st) v.1 (v.1+v.2.1);obtain⟨k,hk⟩:=kI b;rw[List.getElem?_modify] at hk;cases e:(pendingOf st).toList[k]? with
  |none=>rw[e] at hk;cases hk
  | some u =>
    rw[e] at hk;have hu:=g u (c8 e);simp only[Option.map_eq_map,ox,wb] at hk;by_cases c:i=k;· rw[if_pos c] at hk;rw[<-hk];exact hu
    · rw[if_neg c] at hk;rw[<-hk];exact hu
theorem RU.all(g:RU st)(hc:Ch (pendingOf st).toList 0 lo)(h1:(pendingOf st).size<=1):Ra (cc st) 0 lo:=by
  rw[<-cX] at h1;unfold RU at g;cases e:(pendingOf st).toList with
  | nil =>
    rw[e] at hc;have:0=lo:=hc;intro i j _ _ h;omega
  | cons v r =>
    obtain⟨p,n,z⟩:=v;rw[e] at h1 hc g;have d:r=[]:=by cases r with|nil=>rfl|cons _ _=>simp at h1
    subst d;obtain⟨a,b,c⟩:=hc;have c':0+n=lo:=c;have:=g (p,n,z) (bY ..);dsimp only at this;rwa[a,c'] at this
theorem Ud{at_ ok:Nat}{Q:Bool->bo->Prop}(hA:dP a₀)(hI:SI a₀ lo st)(hn:at_+n<=a₀.size)(Y6:1<=ok)(e:ok<=n)(g:Ra (cc st) at_ (at_+ok))(h:∀st',Kq a₀ lo at_ st st'->Ra (cc st') at_ (at_+n)->Q true st'):wpS (a6 prog w) A E s (binarySort' at_ n ok) Q st:=by
 rw[binarySort'_eq,show max ok 1=ok by omega];refine az (eA (cZ (I:=λk c st'=>c=(none,())/\Kq a₀ lo at_ st st'/\Ra (cc st') at_ (at_+k)) (Q:=λc st'=>c=(none,())/\Kq a₀ lo at_ st st'/\Ra (cc st') at_ (at_+n)) ?step ?fin ⟨rfl, .refl hI,g⟩) ?post)
 case fin=>
  rintro c st' ⟨rfl,K2,r2⟩;rw[show max ok n=n by omega] at r2;exact⟨rfl,K2,r2⟩
 case post=>
  rintro c st' ⟨rfl,K2,r2⟩;exact a3 (h st' K2 r2)
 case step=>
  rintro k c st' hk1 hk2 ⟨rfl,K2,r2⟩;have hs:=K2.si.size;refine az (eA (cZ (I:=λx c d=>d=st'/\∃l r,c=(none,l,r)/\r<=k/\l<=r/\r-l+x<=k/\(∀y<l,kz (cc st') (at_+y)<=kz (cc st') (at_+k))/\∀y,r<=y->y<k->kz (cc st') (at_+k)<=kz (cc st') (at_+y)) (Q:=λc d=>d=st'/\∃l r,c=(none,l,r)/\l<=k/\(∀y<l,kz (cc st') (at_+y)<=kz (cc st') (at_+k))/\∀y,l<=y->y<k->kz (cc st') (at_+k)<=kz (cc st') (at_+y)) ?is ?fi ⟨rfl,0,k,rfl,aF _,eW _,∅,λy hy=>absurd hy ∅,λy a b=>absurd b ∅⟩) ?ip)
  case fi=>
   rintro c d ⟨rfl,l,r,rfl,hr,hlr,hx,q1,q2⟩;exact⟨rfl,l,r,rfl,∅,q1,λy a b=>q2 y ∅ b⟩
  case is=>
   rintro x c d _ hx ⟨rfl,l,r,rfl,hr,hlr,hz,q1,q2⟩;dsimp only;refine gG (λc1=>a3 ⟨rfl,l,r,rfl,∅,q1,λy a b=>q2 y ∅ b⟩) (λc1=>?_);refine sJ hA K2.si ∅ ∅ (λb=>n9 ?_) (λb=>oq ?_)
   .refine a3 ⟨rfl,_,_,rfl,∅,∅,∅,q1,λy a1 a2=>?_⟩;have:=r2 (at_+(l+r)/2) (at_+y) ∅ ∅ ∅;omega
   .refine a3 ⟨rfl,_,_,rfl,hr,∅,∅,λy a1=>?_,q2⟩;have:=r2 (at_+y) (at_+(l+r)/2) ∅ ∅ ∅;omega
  case ip=>
   rintro c d ⟨rfl,l,r,rfl,hr,q1,q2⟩;show wpS _ _ _ _ (do moveDown' (at_+k) (at_+l);pure (dc (none,()))) _ _;rw[moveDown'_eq];have eb:∀x,kz (vT (cc d) (at_+k) (at_+k-(at_+l))) x=if x=at_+l then kz (cc d) (at_+k) else if at_+l<x/\x<=at_+k then kz (cc d) (x-1) else kz (cc d) x:=λx=>by
    rw[Ms ∅ ∅,show at_+k-(at_+k-(at_+l))=at_+l by omega]
   refine az (eP (a3 ⟨rfl,⟨K2.si.arr (bubble_perm _ _ _),K2.pd,λx hx=>?_⟩,λi j h1 h2 h3=>?_⟩))
   .show kz (vT (cc d) (at_+k) (at_+k-(at_+l))) x=_;rw[eb,if_neg ∅,if_neg ∅];exact K2.sm x hx
   .show kz (vT (cc d) (at_+k) (at_+k-(at_+l))) i<=kz (vT (cc d) (at_+k) (at_+k-(at_+l))) j;rw[eb,eb];by_cases B:i=at_+l
    .rw[if_pos B];by_cases f:j=at_+l;·rw[if_pos f];omega
     .rw[if_neg f,if_pos ∅];have:=q2 (j-1-at_) ∅ ∅;rwa[show at_+(j-1-at_)=j-1 by omega] at this
    .rw[if_neg B];by_cases C:at_+l<i/\i<=at_+k
     .rw[if_pos C,if_neg (show¬j=at_+l by omega),if_pos (show at_+l<j/\j<=at_+k by omega)];exact r2 _ _ ∅ ∅ ∅
     .rw[if_neg C];by_cases f:j=at_+l
      .rw[if_pos f];have:=q1 (i-at_) ∅;rwa[show at_+(i-at_)=i by omega] at this
      .rw[if_neg f];by_cases o:at_+l<j/\j<=at_+k;·rw[if_pos o];exact r2 _ _ ∅ ∅ ∅
       .rw[if_neg o];exact r2 _ _ ∅ ∅ ∅
theorem VL{Q:Unit->bo->Prop}(hA:dP a₀)(hI:SI a₀ 0 st)(g:RU st)(h:∀st',(cc st').toList.Perm a₀.toList->Ra (cc st') 0 a₀.size->gv st'=none->Q () st'):wpS (a6 prog w) A E s sortRuns' Q st:=by
  rw[sortRuns'_eq];refine az (g0 ?_);dsimp only;have hs:=hI.size;rw[hs];refine az (eA (cZ (I:=λx c st'=>∃l,c=(none,l)/\(SI a₀ l st'/\RU st')/\l<=a₀.size/\(x<=l\/l=a₀.size)) (Q:=λc st'=>c=(none,a₀.size)/\SI a₀ a₀.size st'/\RU st') ?step ?fin ⟨0,rfl,⟨hI,g⟩,∅, .inl (aF _)⟩) ?post)
  case fin=>
    rintro c st' ⟨l,rfl,I2,h1,h2⟩;have:l=a₀.size:=∅
    subst this;exact⟨rfl,I2.1,I2.2⟩
  case step=>
    rintro x c st' _ hx ⟨l,rfl,I2,h1,h2⟩;dsimp only;refine gG (λc1=>?_) (λc1=>?_)
    · have:l=a₀.size:=∅
      subst this;exact a3 ⟨rfl,I2.1,I2.2⟩
    refine az (Oh hA I2.1 ∅ ∅ λm st2 p m1 m2 hm=>?_);have I3:SI a₀ l st2/\RU st2:=⟨p.si,p.ru I2.1 I2.2⟩;dsimp only;refine gG (λc2=>az (j1 (eS ⟨rfl,az (Ud (n:=min (a₀.size-l) (va a₀.size a₀.size 0)) hA I3.1 ∅ m1 ∅ hm λst3 o hm=>?_)⟩))) (λc2=>?_)
    · have I4:SI a₀ l st3/\RU st3:=⟨o.si,o.ru I3.1 I3.2⟩
      simp only[sV,kj,if_false];have n1:1<=min (a₀.size-l) (va a₀.size a₀.size 0):=∅
      have n2:min (a₀.size-l) (va a₀.size a₀.size 0)<=a₀.size-l:=∅
      generalize min (a₀.size-l) (va a₀.size a₀.size 0)=n at n1 n2 hm⊢;refine az (g0 ?_);cases hb:(pendingOf st3).back? with
      | none =>
        dsimp only;refine az (eP (a3 ⟨l+n,rfl,⟨⟨I4.1.perm,I4.1.kind,I4.1.failed,?_⟩,I4.2.push hm⟩,∅,∅⟩));show Ch ((pendingOf st3).push (l,n,0)).toList 0 (l+n);rw[jT];exact Ch.append.mpr ⟨l,I4.1.ch,rfl,n1,rfl⟩
      | some v =>
        obtain⟨s1,k1,k⟩:=v;dsimp only;generalize power' a₀.size (2*s1+k1) (2*s1+k1+k1+n) a₀.size=pw;refine az (eA (cZ (I:=λy c st'=>c=(none,())/\SI a₀ l st'/\RU st'/\Ra (cc st') l (l+n)) (Q:=λc st'=>c=(none,())/\SI a₀ l st'/\RU st'/\Ra (cc st') l (l+n)) ?is (λc st' z=>z) ⟨rfl,I4.1,I4.2,hm⟩) ?ip)
        case is=>
          rintro y c d _ _ ⟨rfl,I5⟩;refine az (g0 ?_);by_cases e:(pendingOf d).size>1
          · rw[if_pos e]
            obtain⟨⟨J,M,q3⟩,eq⟩:∃v,(pendingOf d)[(pendingOf d).size-2]?=some v:=⟨_,getElem?_pos _ _ ∅⟩;rw[eq];dsimp only;refine gG (λ_=>a3 ⟨rfl,I5⟩) (λ_=>?_);refine az (DX hA I5.1 I5.2.1 h1 ∅ λj I6 b a _=>?_);simp only[sV,kj,if_false];exact a3 ⟨rfl,I6,b,λx y h1 h2 h3=>by rw[a x ∅,a y ∅];exact I5.2.2 x y h1 h2 h3⟩
          · rw[if_neg e];exact a3 ⟨rfl,I5⟩
        case ip=>
          rintro c d ⟨rfl,I5⟩;dsimp only;refine az (eP (az (eP (a3 ⟨l+n,rfl,⟨⟨I5.1.perm,I5.1.kind,I5.1.failed,?_⟩,(I5.2.1.pw pw).push I5.2.2⟩,∅,∅⟩))));show Ch (((pendingOf d).modify ((pendingOf d).size-1) λx=>(x.1,x.2.1,pw)).push (l,n,0)).toList 0 (l+n);rw[jT,zM];exact Ch.append.mpr ⟨l,Ch.pw (f:=λx=>(x.1,x.2.1,pw)) (λv=>⟨rfl,rfl⟩) I5.1.ch,rfl,n1,rfl⟩
    · have I4:=I3
      have n1:=m1;have n2:=m2;generalize m=n at n1 n2 hm⊢;generalize st2=st3 at I4 hm⊢;refine az (g0 ?_);cases hb:(pendingOf st3).back? with
      | none =>
        dsimp only;refine az (eP (a3 ⟨l+n,rfl,⟨⟨I4.1.perm,I4.1.kind,I4.1.failed,?_⟩,I4.2.push hm⟩,∅,∅⟩));show Ch ((pendingOf st3).push (l,n,0)).toList 0 (l+n);rw[jT];exact Ch.append.mpr ⟨l,I4.1.ch,rfl,n1,rfl⟩
      | some v =>
        obtain⟨s1,k1,k⟩:=v;dsimp only;generalize power' a₀.size (2*s1+k1) (2*s1+k1+k1+n) a₀.size=pw;refine az (eA (cZ (I:=λy c st'=>c=(none,())/\SI a₀ l st'/\RU st'/\Ra (cc st') l (l+n)) (Q:=λc st'=>c=(none,())/\SI a₀ l st'/\RU st'/\Ra (cc st') l (l+n)) ?is (λc st' z=>z) ⟨rfl,I4.1,I4.2,hm⟩) ?ip)
        case is=>
          rintro y c d _ _ ⟨rfl,I5⟩;refine az (g0 ?_);by_cases e:(pendingOf d).size>1
          · rw[if_pos e]
            obtain⟨⟨J,M,q3⟩,eq⟩:∃v,(pendingOf d)[(pendingOf d).size-2]?=some v:=⟨_,getElem?_pos _ _ ∅⟩;rw[eq];dsimp only;refine gG (λ_=>a3 ⟨rfl,I5⟩) (λ_=>?_);refine az (DX hA I5.1 I5.2.1 h1 ∅ λj I6 b a _=>?_);simp only[sV,kj,if_false];exact a3 ⟨rfl,I6,b,λx y h1 h2 h3=>by rw[a x ∅,a y ∅];exact I5.2.2 x y h1 h2 h3⟩
          · rw[if_neg e];exact a3 ⟨rfl,I5⟩
        case ip=>
          rintro c d ⟨rfl,I5⟩;dsimp only;refine az (eP (az (eP (a3 ⟨l+n,rfl,⟨⟨I5.1.perm,I5.1.kind,I5.1.failed,?_⟩,(I5.2.1.pw pw).push I5.2.2⟩,∅,∅⟩))));show Ch (((pendingOf d).modify ((pendingOf d).size-1) λx=>(x.1,x.2.1,pw)).push (l,n,0)).toList 0 (l+n);rw[jT,zM];exact Ch.append.mpr ⟨l,Ch.pw (f:=λx=>(x.1,x.2.1,pw)) (λv=>⟨rfl,rfl⟩) I5.1.ch,rfl,n1,rfl⟩
  case post=>
    rintro c st' ⟨rfl,I2,U2⟩;dsimp only;refine az (eA (cZ (I:=λy c d=>c=(none,())/\SI a₀ a₀.size d/\RU d/\(pendingOf d).size+y<=a₀.size) (Q:=λc d=>c=(none,())/\SI a₀ a₀.size d/\RU d/\(pendingOf d).size<=1) ?is ?fi ⟨rfl,I2,U2,by have:=I2.ch.len;rw[cX] at this;omega⟩) ?ip)
    case fi=>
      rintro c d ⟨rfl,I5,U5,z⟩;exact⟨rfl,I5,U5,∅⟩
    case is=>
      rintro y c d _ _ ⟨rfl,I5,U5,z⟩;refine az (g0 ?_);refine gG (λi=>a3 ⟨rfl,I5,U5,i⟩) (λi=>?_);refine az (DX hA I5 U5 (aF _) ?_ λj I6 b _ z6=>?_);· exact uA (Nat.add_le_add_right MT 1) ∅
      simp only[sV,kj,if_false];exact a3 ⟨rfl,I6,b,∅⟩
    case ip=>
      rintro c d ⟨rfl,I5,U5,z⟩;exact a3 (h _ I5.perm (U5.all I5.ch z) I5.failed)
end
theorem VU{vs:List ag}(hI:ee vs ns){xs:Array a4}(hp:xs.toList.Perm (h7 vs).toList)(hr:Ra xs 0 xs.size):
  ∃f,ee (xs.map (·.2)).toList f/\f.Perm ns/\f.Pairwise (· <= ·):=by
 obtain⟨f,h1,h2⟩:=Pj hI hp;refine⟨f,h1,h2,?_⟩;have hl:xs.toList.Perm (vs.zip vs):=by rw[<-kf];exact hp
 have e:f=xs.toList.map kd:=by
  rw[<-h1.nums,nh,lI];refine uJ λp b=>?_;obtain⟨e1,e2⟩:=mW (hl.mem_iff.mp b);obtain⟨n,t,e3⟩:=hI.all _ e2;show xa p.2=kd p;unfold kd;rw[<-e1,e3];rfl
 rw[e,Ec];intro i j hi hj hij;rw[nk,nk];rw[ak,cX] at hi hj;have:=hr i j (eW _) (j4 hij) hj;rw[dQ hi,dQ hj] at this;simpa using this
section
variable{prog:be}{w:cx}{A:cC}{E:ag->ar->Prop}{s:ar}
theorem OL{vs:List ag}{P:Fin->ar->Prop}(U:s.heap.get? a=some (ik "list" vs.toArray n))
  (hI:ee vs ns) (hz:vs.length<=100000)
  (h:∀(out:Array ag) (f:List Int),ee out.toList f->f.Perm ns->f.Pairwise (· <= ·)->P (.done (.ret .none)) {s with heap:=sortedHeap s.heap a vs out}):
  wpAny (a6 prog w) A (hh.«list.sort» ⟨[.ref a],[]⟩) P E s:=by
 rw[list_sort_plain];have k:vs.length<=sizeLine:=by rw[hU];omega
 have ha:a<s.heap.objs.size:=bF U;refine ae (listItems_at U rfl ?_);refine ae (lL U rfl ?_ (hsz:=by rw[cT];exact k));obtain⟨e1,d⟩:∃e1,(s.heap.update a (ed λ_=> #[])).get? a=some (ik "list" #[] e1):=⟨_,get?_update_seq U (λ_=> #[])⟩;refine ae (pa d rfl ?_);refine ae (wpAny_newTuple ?_);refine ae (ls ?_);refine dk ?_;have c:(((s.heap.update a (ed λ_=> #[])).push (ik "tuple" vs.toArray 0)).push (ik "list" #[] 0)).get? a=some (ik "list" #[] e1):=by
  rw[mf _ _ _ (by rw[size_push',nr];exact dz (mh ha)),mf _ _ _ (by rw[nr];exact dz ha)];exact d
 show wpAny (a6 prog w) A _ P E {s with heap:=((s.heap.update a (ed λ_=> #[])).push (ik "tuple" vs.toArray 0)).push (ik "list" #[] 0)};dsimp only;have hsz:vs.toArray.size=vs.length:=by simp
 have fin:∀st':bo,(cc st').toList.Perm (h7 vs).toList->Ra (cc st') 0 (h7 vs).size->
   P (.done (.ret .none)) {s with heap:=sortedHeap s.heap a vs ((cc st').map (·.2))}:=by
  intro st' hp hr;have e:=hp.length_eq;rw[cX,cX] at e;obtain⟨f,h1,h2,h3⟩:=VU hI hp (by rw[e];exact hr);exact h _ f h1 h2 h3
 by_cases h2:vs.toArray.size<2
 .rw[if_pos h2,if_pos h2];refine ae (ax ?_);rw[StateT.run_pure];refine ae (ax ?_);dsimp only;refine ae (pa c rfl ?_);refine ae (lL c rfl ?_ (hsz2:=by rw[qs];show(h7 vs).size<=_;rw[m4,hU];omega));simp only[bne_self_eq_false,kj,if_false]
  exact ax (fin (rl general' (vs.toArray.zip vs.toArray) #[] 7 none) (Dp _) λi j _ h3 h4=>by
   rw[m4] at h4;have:i=j:=∅
   rw[this];omega)
 .rw[if_neg h2,if_neg h2];obtain⟨v₁,b,rest,rfl⟩:∃v₁ b rest,vs=v₁::b::rest:=by
   match vs,hsz,h2 with
   |[],_,h2=>simp at h2
   |[_],_,h2=>simp at h2
   |v₁::b::rest,_,_=>exact⟨v₁,b,rest,rfl⟩
  rw[keyKind_ints hI];refine ae (ax ?_)
  refine ae (er (VL (a₀:=h7 (v₁::b::rest)) (st:=rl gw ((v₁::b::rest).toArray.zip (v₁::b::rest).toArray) #[] 7 none)
   (Q:=λ_ st'=>(cc st').toList.Perm (h7 (v₁::b::rest)).toList/\Ra (cc st') 0 (h7 (v₁::b::rest)).size/\gv st'=none)
   (WL hI) ⟨Dp _,rfl,rfl,rfl⟩ (λv hv=>by have z:v∈([]:List (Nat×Nat×Nat)):=hv;cases z) λst' a1 g a2=>⟨a1,g,a2⟩) ?_ λ_ _ e=>e)
  rintro⟨⟨⟩,st'⟩ s' ⟨rfl,hp,hr,hf⟩;dsimp only;refine ae (pa c rfl ?_)
  refine ae (lL c rfl ?_ (hsz2:=by
   have:=hp.length_eq;rw[cX,cX,m4] at this;show((cc st').map (·.2)).size<=_;rw[qs,this];omega))
  rw[hf];simp only[bne_self_eq_false,kj,if_false];exact ax (fin st' hp hr)
variable{a:aw}
end
def Ex:List V->Hp->VK->Prop:=λxs H Q=>∃j:Int,xs=[.int j]/\∀a,H a=none->Q (.ref a) (upd H a (.mJ 0 j))
def Gg:List V->Hp->VK->Prop:=λxs H Q=>∃(a:aw) (lo hi:Int),xs=[.ref a]/\H a=some (.mJ lo hi)/\(-10000<=lo/\lo<=10000/\ -10000<=hi/\hi<=10000)/\∀l,H l=none->Q (.ref l) (upd H l (.lst (((bp (hi-lo).toNat).map λ(i:Nat)=>lo+(i:Int)).map V.int)))
def zz(K:PySem.W.Frag):List V->Hp->VK->Prop:=λxs H Q=>∃p,∃ns:List Int,xs=[.ref p]/\aO K H p (ns.map V.int)/\Q (.int ns.sum) H
def Dr(K:PySem.W.Frag):List V->Hp->VK->Prop:=λxs H Q=>∃p,∃bs:List Bool,xs=[.ref p]/\aO K H p (bs.map V.bl)/\Q (.bl (bs.all id)) H
section
variable{X:Cx}
theorem So:fV X (.type "range") Ex:=by
 intro pins s σ H xs us Q I rv h;obtain⟨j,rfl,q⟩:=h;obtain⟨u,rfl,ru⟩:=vals1 rv;obtain⟨t,rfl⟩:=ru;refine call_range_1 ?_;exact⟨.ref s.heap.objs.size,_,I.laid (t':=s.toks+1+1) (o:= .mJ 0 j) (λb o e=>bV _ e) (aF _) ⟨_,_,_,fO _ rfl⟩,rfl,q _ (I.hok.fresh (aF _))⟩
theorem Yn(hc:X.calm=true):fV X (.type "list") Gg:=by
  intro pins s σ H xs us Q I rv h;obtain⟨a,lo,hi,rfl,O,hb,q⟩:=h;obtain⟨u,rfl,ru⟩:=vals1 rv;cases ru;obtain⟨t,u,v,e⟩:=(show cA X.prog X.w H s.heap a (.mJ lo hi) from I.hok a _ O);refine call_list_range (n:=(hi-lo).toNat) (I.ok.hd hc) (show IsRange s.heap a lo hi 1 t u v from e) (small_one ∅ ∅ ∅ ∅) (rangeSize_nat lo hi) ∅ λh' tk acc c' kp hl c=>?_;have d:Vals (((bp (hi-lo).toNat).map λ(i:Nat)=>lo+(i:Int)).map V.int) acc.toList:=by
    have key:∀(n:Nat) (l:List ag),l.length=n->∀b:Int,(∀(j:Nat) (v:ag),l[j]?=some v->∃t,v=gz (b+(j:Int)) t)->Vals (((bp n).map λ(i:Nat)=>b+(i:Int)).map V.int) l:=by
      intro n;induction n with
      |zero=>intro l hl b _;rw[mP.mp hl];exact .nil
      | succ n ih =>
        intro l hl b hv;cases l with
        |nil=>cases hl
        | cons x r =>
          obtain⟨t,e⟩:=hv 0 x rfl;rw[yT,bw,bw];refine .cons ⟨t,by simpa using e⟩ ?_
          have:=ih r (by simpa using hl) (b+1) (λj v e=>by
            obtain⟨t,z⟩:=hv (j+1) v (by simpa using e);exact⟨t,by rw[z];congr 1;omega⟩)
          rw[lI] at this⊢;rw[lI];have e:∀i:Nat,((V.int∘λ(i:Nat)=>b+(i:Int))∘Nat.succ) i=(V.int∘λ(i:Nat)=>b+1+(i:Int)) i:=λi=>by
            show V.int (b+((i+1:Nat):Int))=V.int (b+1+(i:Int));congr 1;omega
          rw[uJ λi _=>e i];exact this
    refine key _ _ (by rw[cX];exact c.1) lo λj v e=>?_;obtain⟨t,z⟩:=c.2 j v (by rw[<-iW];exact e);exact⟨t,by rw[z];congr 1;omega⟩
  refine⟨.ref s.heap.objs.size,_,I.laid (t':=tk) (o:= .lst (((bp (hi-lo).toNat).map λ(i:Nat)=>lo+(i:Int)).map V.int)) kp (aF _) ⟨?_,acc.toList,c',d,by simpa using hl⟩,rfl,q _ (I.hok.fresh (aF _))⟩;rw[ak,ak,me];exact fX (show(hi-lo).toNat<=20000 by omega) ⋯
theorem Tr(hc:X.calm=true):fV X (.builtin "sum") (zz X.K):=by
 intro pins s σ H xs us Q I rv h;obtain⟨p,ns,rfl,hp,q⟩:=h;obtain⟨u,rfl,ru⟩:=vals1 rv;cases ru;obtain⟨its,L,d,hz⟩:=I.list hp;have hI:=DL L;obtain⟨ys,e⟩:=hI.allInts.items;have hn:=hI.numsOf;refine sum_intListG (xs:=ys) (I.ok.hd hc) (by rw[<-e];exact d.isList) λh' tk t' kp=>?_;have e2:preSum (numAt ys) ys.size=ns.sum:=by
  rw[preSum_eq,Aq (by simp),<-nums_intItems,<-e,<-hn]
 rw[e2];exact⟨.int ns.sum,H,I.kept kp,⟨_,rfl⟩,q⟩
theorem S2(hc:X.calm=true):fV X (.builtin "all") (Dr X.K):=by
  intro pins s σ H xs us Q I rv h;obtain⟨p,bs,rfl,hp,q⟩:=h;obtain⟨u,rfl,ru⟩:=vals1 rv;cases ru;obtain⟨its,L,d,hz⟩:=I.list hp;have hl:=L.length;have hv:∀(i:Nat) (v:ag),its.toArray[i]?=some v->v= .bool (bs.getD i false):=λi v e=>by
    have hi:i<bs.length:=by
      have:=(rV.mp e).1;rw[ak] at hl;simp at this;omega
    obtain⟨u,hu,ru⟩:=L.get (i:=i) (x:= .bl bs[i]) (by rw[cB,aQ hi];rfl);rw[E2,hu] at e;cases e;rw[ko,aQ hi];exact ru
  have ll:=d.isList;have hlt:p<s.heap.objs.size:=by obtain⟨o,e,_⟩:=ll;exact bF e
  refine call_all_walk (hG ll ⟨s.heap.objs.size,_,_,_,_,_,λi=>bs.getD i false,rfl,wa (A:=X.A.in1) (I.ok.hd hc) _ p (dz hlt) its.toArray,⟨⟨_,fO _ rfl,rfl,rfl⟩,ll.push _⟩,λi v s Q E Y C=>?_,λh' tk kp=>?_⟩);· rw[hv i v Y];exact fw C
  · have e:(bp its.toArray.size).all (λi=>bs.getD i false)=bs.all id:=by
      have hs:its.toArray.size=bs.length:=by rw[ak] at hl;simp;omega
      rw[hs];clear hv hl L q hp hs hz;induction bs with
      |nil=>rfl
      | cons b r ih =>
        rw[eY,yT,oW,oW,List.all_map];simpa[md] using congrArg (b && ·) ih
    rw[e];refine⟨.bl (bs.all id),H,I.kept λb o q=>kp b o (λm=>?_) (bV _ q),rfl,q⟩;have:=aN.mp m;rw[this] at q;exact absurd (bF q) (jk _)
end
section
variable{G:Gx}{ρ:Rh}{te:TE}{K:PySem.W.Frag}{Φ:Pd}
theorem au.Vg(h:Ev G ρ te λ_ x=>∃n:Int,x= .int n/\ -10000<=n/\n<=10000/\Θ true (((bp n.toNat).map λ(i:Nat)=>(0:Int)+(i:Int)).map .int)):au G ρ (eX Gg (aX (eX Ex (aX te bK)) bK)) Θ:=λnb σ H Q W z=>
 h nb σ H _ W λf v H1 x ⟨n,ex,h1,h2,q⟩ s1 hv=>by
  subst ex;rw[hv.cz];refine⟨n,rfl,λa ha=>⟨a,0,n,rfl,aT,∅,λl hl=>?_⟩⟩;rw[uT];exact au.fin (f:=true) W (s1.trans (.same s1.2 (cF ha))) hl (xq _) q z
theorem Ev.sum(h:Ev G ρ te λ_ x=>∃ns:List Int,x= .list (ns.map .int)/\Φ true (.int ns.sum)):Ev G ρ (eX (zz K) (aX te bK)) Φ:=λnb σ H Q W z=>
 h nb σ H _ W λf v H1 x ⟨ns,ex,q⟩ s1 hv=>by
  subst ex;obtain⟨a,xs,rfl,na,hx,hd⟩:=hv.dN;have e:=ur hd;subst e;exact⟨a,ns,rfl, .of hx,z true _ H1 _ q s1 (.int _)⟩
theorem Lh{nb:aw->Prop}{H:Hp}:∀{is:List Bool} {xs:List V},af nb H (is.map uk) xs->xs=is.map V.bl
  |[],_,h=>by unfold df af at h;exact h
  | i :: is, _, h => by
    rw[bw] at h;unfold af at h;obtain⟨y,ys,rfl,h1,h2⟩:=h;unfold ah at h1;rw[bw,h1,Lh h2]
theorem Ev.all(h:Ev G ρ te λ_ x=>∃bs:List Bool,x= .list (bs.map .bool)/\Φ true (.bool (bs.all id))):Ev G ρ (eX (Dr K) (aX te bK)) Φ:=λnb σ H Q W z=>
 h nb σ H _ W λf v H1 x ⟨bs,ex,q⟩ s1 hv=>by
  subst ex;obtain⟨a,xs,rfl,na,hx,hd⟩:=hv.dN;have e:=Lh hd;subst e;exact⟨a,bs,rfl, .of hx,z true _ H1 _ q s1 (.bl _)⟩
end
noncomputable def iN:PyData->String->Bool
 | .bool _,T=>T=="bool" ||T=="int"
 | .int _,T=>T=="int"
 | .str _,T=>T=="str"
 | .list _,T=>T=="list"
 | .tuple _,T=>T=="tuple"
 |_,_=>false
noncomputable def zS:PyData->String
 | .none=> "NoneType" | .bool _=> "bool" | .int _=> "int" | .str _=> "str" | .list _=> "list" | .tuple _=> "tuple" | .dict _=> "dict"
theorem G8(ds:List PyData):iN (.list ds) "list"=true/\iN (.list ds) "tuple"=false:=⟨rfl,rfl⟩
theorem EU(ds:List PyData):iN (.tuple ds) "list"=false/\iN (.tuple ds) "tuple"=true:=⟨rfl,rfl⟩
theorem OP{K:PySem.W.Frag}{v:V}(h:ah nb H d v):iF K H v (.type (zS d)):=by
 cases d<;>unfold ah at h;·subst h;exact .aD
 .subst h;exact .bl _
 .subst h;exact .int _
 .subst h;exact .str _
 .obtain⟨a,xs,rfl,_,e,_⟩:=h;exact .lst e
 .obtain⟨a,xs,rfl,_,e,_⟩:=h;exact .tup e
 .obtain⟨a,xs,rfl,_,e,_⟩:=h;exact e.elim .dK λ⟨_,e⟩=> .J0 e
def pG(T:String):Prop:=T="int" \/T="bool" \/T="list" \/T="tuple" \/T="str"
theorem KO{K:PySem.W.Frag}(hT:pG T):PySem.W.kitOne K (.type (zS d)) (.type T)=some (iN d T):=by
 rcases hT with rfl|rfl|rfl|rfl|rfl<;>cases d<;>(with_unfolding_all rfl)
theorem JW{K:PySem.W.Frag}{d:PyData}:∀{b:List String},(∀T∈b,pG T)->PySem.W.kitAny K (.type (zS d)) (b.map dE)=some (b.any (iN d))
  |[],_=>rfl
  | T :: r, h => by
    rw[bw];unfold PySem.W.kitAny;rw[KO (h T (bY ..)),nH];cases iN d T with
    |true=>rfl
    |false=>exact JW λT m=>h T (bA _ m)
def xj:List V->Hp->VK->Prop:=λxs H Q=>∃(x:V) (tp:aw) (b:List String) (nb:aw->Prop) (d:PyData),xs=[x, .ref tp]/\H tp=some (.tup (b.map V.ty))/\ah nb H d x/\(∀T∈b,pG T)/\Q (.bl (b.any (iN d))) H
theorem Gf:∀{b:List String} {us:List ag},Vals (b.map V.ty) us->us=b.map dE
 |[],_, .nil=>rfl
 |T::r,_, .cons h t=>by rw[bw,Gf t,show _=dE T from h]
section
variable{X:Cx}
theorem G7:fV X (.builtin "isinstance") xj:=by
 intro pins s σ H xs us Q I rv h;obtain⟨x,tp,b,nb,d,rfl,ht,hd,h5,q⟩:=h;obtain⟨u,v,rfl,ru,rv⟩:=rv.two;cases (show v=c4 tp from rv);obtain⟨_,its,f,o,U,hc,n,c⟩:=(show cA X.prog X.w H s.heap tp (.tup (b.map V.ty)) from I.hok tp _ ht);have e:=Gf f;subst e;obtain⟨c0,d0,dt,sl⟩:=o;dsimp only at hc c;subst hc c;have fin:∀tk,EP X pins σ Q (.bool (b.any (iN d))) {s with toks:=tk}:=λtk=>⟨.bl _,H,I.tok tk,rfl,q⟩;have ka:=JW (K:=X.K) (d:=d) h5;cases d<;>unfold ah at hd;·subst hd;cases (show u=fv from ru);exact nE PySem.W.kitx_none I.cE dq U ka (λz=>nomatch z) fin
 .subst hd;cases (show u=jW _ from ru);exact nE PySem.W.kitx_bool I.cE dq U ka (λz=>nomatch z) fin
 .subst hd;obtain⟨t,rfl⟩:=(show∃t,u=gz _ t from ru);exact nE PySem.W.kitx_int I.cE dq U ka (λz=>nomatch z) fin
 .subst hd;obtain⟨t,rfl⟩:=(show∃t,u=ix _ t from ru);exact nE PySem.W.kitx_str I.cE dq U ka (λz=>nomatch z) fin
 .obtain⟨a,ys,rfl,_,ea,_⟩:=hd;cases (show u=c4 a from ru);obtain⟨_,_,n,_,h1⟩:=(show cA X.prog X.w H s.heap a (.lst ys) from I.hok a _ ea);exact nE yS I.cE ⟨_,h1,rfl⟩ U ka (λz=>nomatch z) fin
 .obtain⟨a,ys,rfl,_,ea,_⟩:=hd;cases (show u=c4 a from ru);obtain⟨_,_,_,o',h1,h2,_⟩:=(show cA X.prog X.w H s.heap a (.tup ys) from I.hok a _ ea);exact nE PySem.W.kitx_tuple I.cE ⟨o',h1,h2⟩ U ka (λz=>nomatch z) fin
 .obtain⟨a,ys,rfl,_,ea,_⟩:=hd;cases (show u=c4 a from ru);obtain⟨_,_,vs,_,dd⟩:=(show cA X.prog X.w H s.heap a (.dK ys) from ea.ok I.hok);exact nE vp I.cE dd.typeIs U ka (λz=>nomatch z) fin
end
section
variable{G:Gx}{ρ:Rh}{ta tb te:TE}{K:PySem.W.Frag}{Φ:Pd}{T U:String}
theorem Ev.NN(hT:pG T)(h:Ev G ρ te λ_ x=>Φ true (.bool (iN x T))):Ev G ρ (eX (kE K) (aX te (aX (tC (.ty T)) bK))) Φ:=λnb σ H Q W z=>
 h nb σ H _ W λf v H1 d q s1 hv=>⟨v,T,_,_,rfl,OP hv,KO hT,z true _ H1 _ q s1 (.bl _)⟩
theorem Ev.Og(hT:pG T)(g:pG U)(h:Ev G ρ te λ_ x=>Φ true (.bool (iN x T||iN x U))):Ev G ρ (eX xj (aX te (aX (pH (aX (tC (.ty T)) (aX (tC (.ty U)) bK))) bK))) Φ:=λnb σ H Q W z=>
 h nb σ H _ W λf v H1 d q s1 hv=>by
  refine⟨by show 2<=sizeLine;decide,λp hp=>⟨v,p,[T,U],G.S nb f,d,rfl,aT,hv.keep (aP.of (cF hp)),λS m=>?_,?_⟩⟩
  .rcases aA.mp m with e|m
   .rw[e];exact hT
   .rw[aN.mp m];exact g
  .rw[nH,nH,List.any_nil,nY];exact z true _ _ _ q (s1.trans (.same s1.2 (cF hp))) (.bl _)
theorem Ev.wX(h:Ev G ρ te λ_ x=>∃ds,(x= .list ds\/x= .tuple ds)/\Φ true (.int ds.length)):Ev G ρ (eX (gK K) (aX te bK)) Φ:=λnb σ H Q W z=>
 h nb σ H _ W λf v H1 d ⟨ds,e,q⟩ s1 hv=>by
  rcases e with e|e
  .subst e;obtain⟨a,xs,rfl,n,hx,hd⟩:=hv.dN;exact⟨a,xs,rfl, .inl (.of hx),by rw[hd.length];exact z true _ H1 _ q s1 (.int _)⟩
  .subst e;obtain⟨a,xs,rfl,n,hx,hd⟩:=hv.ofT;exact⟨a,xs,rfl, .inr (.of hx),by rw[hd.length];exact z true _ H1 _ q s1 (.int _)⟩
theorem Ev.B5(h:Ev G ρ ta λf x=>∃ds,(x= .list ds\/x= .tuple ds)/\Ev G ρ tb λ_ y=>∃k,y= .int k/\∃e,bO ds k=some e/\Φ f e):Ev G ρ (dG (vF K) ta tb) Φ:=
 Ev.jK (h.mono λf x ⟨ds,ex,q⟩=>q.mono λg y ⟨k,m,e,he,p⟩ nb σ H u v Q W hu hv z=>by
  subst m;rcases ex with ex|ex
  .subst ex;obtain⟨a,xs,rfl,n,hx,hd⟩:=hu.dN;obtain⟨w,hw,c⟩:=hd.bO he;exact .inl ⟨a,xs,k,w,rfl,hv.cz, .of hx,hw,z f _ H _ p (.refl W.ao) c⟩
  .subst ex;obtain⟨a,xs,rfl,n,hx,hd⟩:=hu.ofT;obtain⟨w,hw,c⟩:=hd.bO he;exact .inr (.inl ⟨a,xs,k,w,rfl,hv.cz, .of hx,hw,z f _ H _ p (.refl W.ao) c⟩))
end
theorem Callee.void{P:be}{K:PySem.W.Frag}{st:ft}{k:Nat}{f:aw}(F:bN K x x st f fd)(b:Binds K fd ps [])(m:mg x=some (.ref f))(hv:∀vs H Q E,¬sp vs H Q E):Callee P w K mg base x k ps sp:=
 ⟨f,fd,⟨λvs H Q E h=>(hv vs H Q E h).elim,λA outer s H args us vs Q E _ _ _ _ h=>(hv vs H Q E h).elim⟩,b,F.kp,m⟩
section
variable{G:Gx}{ρ bL:Rh}{te:TE}{gt:TG}{n i:Nat}{it:Nat->PyData->Prop}{fi:Bool}{Θ:Bool->List PyData->Prop}{E:DE}
theorem V3(os:List Int):dZ (os.map bj)=true:=by
 unfold dZ;rw[pF];intro x hx;obtain⟨y,_,rfl⟩:=fk.mp hx
 rfl
theorem iw.ints(P:Int->Prop)(ht:∀i d,it i d->Gv G bL gt fi d λp=>Wk bL p/\Ev G p te λ_ e=>∃r:Int,e= .int r/\P r)(h:∀os:List Int,os.length=n->(∀x∈os,P x)->Θ true (os.map .int)):iw G bL n it fi gt oB te Θ:=by
 refine⟨false,λi ds=>ds.length=i/\∃os:List Int,ds=os.map .int/\∀x∈os,P x,⟨rfl,[],rfl,λ_ h=>nomatch h⟩,?_,?_⟩
 .rintro i d ds hd hl ⟨hl2,os,rfl,ho⟩;refine λnb σ H v Q W hv z=>ht i d hd nb σ H v Q W hv λL C ⟨w,q⟩ W'=>z L C ⟨w,Tv.tF (ye (q.mono λf e ⟨r,a,hr⟩=>⟨λz=>(by cases z),?_,os++[r],?_,λx hx=>?_⟩))⟩ W';·rw[gx,j8,hl2]
  .rw[a];simp
  .rcases fK.mp hx with h|h
   .exact ho x h
   .rw[aN.mp h];exact hr
 .rintro ds hl ⟨hl2,os,rfl,ho⟩;rw[V3,Bool.or_true];exact h os (by rw[ak] at hl2;exact hl2) ho
theorem iw.rel(φ:α->PyData)(fl:Bool)(P:Nat->α->Prop)(ht:∀i d,it i d->Gv G bL gt fi d λp=>Wk bL p/\Ev G p te λf e=>(fl=true->f=true)/\∃r:α,e=φ r/\P i r)
  (h:∀os:List α,os.length=n->(∀(i:Nat) x,os[i]?=some x->P i x)->Θ (fl||dZ (os.map φ)) (os.map φ)):iw G bL n it fi gt oB te Θ:=by
 refine⟨fl,λi ds=>ds.length=i/\∃os:List α,ds=os.map φ/\∀(i:Nat) x,os[i]?=some x->P i x,⟨rfl,[],rfl,λj x e=>by simp at e⟩,?_,?_⟩
 .rintro i d ds hd hl ⟨hl2,os,rfl,ho⟩;refine λnb σ H v Q W hv z=>ht i d hd nb σ H v Q W hv λL C ⟨w,q⟩ W'=>z L C ⟨w,Tv.tF (ye (q.mono λf e ⟨hf,r,a,hr⟩=>⟨hf,?_,os++[r],?_,λj x hj=>?_⟩))⟩ W';·rw[gx,j8,hl2]
  .rw[a];simp
  .rw[ak] at hl2;rcases D3 j os.length with h|h|h
   .exact ho j x (by rwa[fG h] at hj)
   .subst h;simp at hj;subst hj;rw[hl2];exact hr
   .rw[mT (by rw[gx,j8];omega)] at hj;cases hj
 .rintro ds hl ⟨hl2,os,rfl,ho⟩;exact h os (by rw[ak] at hl2;exact hl2) ho
theorem Sv.Q5(h:∀a,E.nx (ρ.set i (.own a true []))):Sv G ρ (fP (pS bK) (gc i)) E:=Sv.GS (au.lst (Av.nil ⟨⋯,λa=>h a⟩))
end
theorem sP{X:Cx}{K:PySem.W.Frag}{a:eu}{ta:TE}(c:X.K=K)(ha:PE X a ta)(he:∀whole,isTrue a X.env whole=(do let v<-whole;standAt a.pos;holding [v] (truthy v))):PT X a (zg K ta):=by
 subst c;exact O8 ha he
theorem ku{X:Cx}{K:PySem.W.Frag}{es:List eu}{k:Nat}{t:iB}{n:Nat}{pos:Pos}(c:X.K=K)(hc:X.calm=true)(h:rE X es t)(hn:(fx es X.env).length=n:=by rfl)(d:(fx es X.env).findIdx? (·.1)=none:=by rfl):PG X (.Tuple es k pos) (wj K n t):=by
 subst c;exact Lx hc h hn d
theorem Jj(cs:List aC):cm (cs.map cN)<=2/\ba (cs.map cN)=true:=by
  induction cs with
  |nil=>simp[cm,ba]
  | cons a r ih =>
    have h:=Vt a;simp[cm,ej,ba,br,ih.2,h.2.2];have:=ih.1;have:=h.2.1;omega
theorem Sv.KU{G:Gx}{ρ:Rh}{s:TS}{E:DE}(I:Rh->Prop)(h:Sv G ρ s {E with nx:=I})(hI:∀C,I C->E.nx C):Sv G ρ s E:=λnb σ H D W K=>h nb σ H D W ⟨λnb ρ σ H q W=>K.nx nb ρ σ H (hI ρ q) W,K.bk,K.ct,K.rt,K.rw⟩
theorem pick{L:List Int}{k:Int}(h0:0<=k)(h1:k<L.length)(P:Int->Prop)(Y:∀x∈L,P x):∃x,bO (L.map bj) k=some (.int x)/\P x:=by
 have C:k.toNat<L.length:=∅
 exact⟨L[k.toNat],lF h0 (by rw[cB,aQ C];rfl),Y _ (iA C)⟩
theorem Vo(a b:aC)(wd:Wo):bQ (a++b) wd=bQ a wd+bQ b wd:=by
 unfold bQ;rw[e7,yR]
theorem PX(a:Int×Int)(b:aC)(wd:Wo):bQ (a::b) wd=kR wd a+bQ b wd:=by
 unfold bQ;rw[bw,List.sum_cons]
theorem WB{w:List Int}{x:Int}(h:w[pr.1.toNat]?=some x):kR (w.map some) pr=pr.2*x:=by
 unfold kR;rw[cB,h];rfl
def Hj(K:PySem.W.Frag)(te:TE)(ts:TO):TE:=λσ H Q=>te σ H λx H1=>ts σ H1 λk H2=>k=some (-1)/\∃a xs,x= .ref a/\aO K H2 a xs/\∀p,H2 p=none->Q (.ref p) (upd H2 p (.lst xs.reverse))
theorem af.rev{nb:aw->Prop}{H:Hp}:∀{ds:List PyData} {xs:List V},af nb H ds xs->af nb H ds.reverse xs.reverse
  |[],xs,h=>by unfold af at h;subst h;exact .nil
  | d :: ds, xs, h => by
    unfold af at h;obtain⟨y,ys,e,h1,h2⟩:=h;subst e;rw[mi,mi];exact af.append (af.rev h2) (.cons h1 .nil)
section
variable{G:Gx}{ρ:Rh}{Φ:Pd}{ta tb te:TE}{K:PySem.W.Frag}
theorem au.rev{ts:TO}{Θ:Bool->List PyData->Prop}(h:Ev G ρ te λf x=>∃ds,x= .list ds/\Ov G ρ ts λo=>o=some (-1)/\Θ (f||dZ ds.reverse) ds.reverse):au G ρ (Hj K te ts) Θ:=λnb σ H Q W z=>
 h nb σ H _ W λf v H1 d ⟨ds,e,q⟩ s1 hv=>q nb σ H1 _ (W.step s1) λo H2 ⟨j,M⟩ s2=>by
  subst e;obtain⟨a,xs,rfl,n,hx,hd⟩:=(hv.keep s2.c9).dN;exact⟨j,a,xs,rfl, .of hx,λp hp=>au.fin W (s1.trans s2) hp hd.rev M z⟩
theorem Ev.rev{ts:TO}(h:Ev G ρ te λf x=>∃ds,x= .list ds/\Ov G ρ ts λo=>o=some (-1)/\Φ (f||dZ ds.reverse) (.list ds.reverse)):Ev G ρ (Hj K te ts) Φ:=(au.rev (Θ:=λf ds=>Φ f (.list ds)) h).ev
end
def Vk(p n:Int)(prs:aC):Prop:=prs≠[]/\(prs.Pairwise λa b=>a.1<b.1)/\∀pr∈prs,0<=pr.1/\pr.1<n/\1<=pr.2/\pr.2<p
theorem BE(p n:Int)(cs:List aC):c5 (cO p n cs)=true:=by
 have h1:=Jj cs;unfold c5 cO;simp[br,ba,ej,cm,h1.2];have:=h1.1;omega
end L2
variable{cs:List L2.aC}{wd:L2.Wo}{ρ:L2.Rh}{G:L2.Gx}{c':L2.Cu}
namespace PC
def aE(n:Nat):Prop:=2<=n/\∀d,d∣n->d=1\/d=n
noncomputable def tr(q:Nat):Nat->Nat->Bool
 |0,_=>false
 |f+1,d=>if q<d*d then true else if q%d=0 then false else tr q f (d+1)
theorem EC{q:Nat}:∀{f d:Nat},tr q f d=true->∀e,d<=e->e*e<=q->q%e≠0
  |0,_,h=>by simp[tr] at h
  | f + 1, d, h => by
    intro e hde hee;unfold tr at h;by_cases h1:q<d*d
    · have:=qx hde hde
      omega
    · rw[if_neg h1] at h
      by_cases h2:q%d=0;· rw[if_pos h2] at h;cases h
      · rw[if_neg h2] at h
        by_cases h3:d=e;· rw[<-h3];exact h2
        · exact EC h e ∅ hee
theorem Ld{q:Nat}(h2:2<=q)(h:∀e,2<=e->e*e<=q->q%e≠0):aE q:=by
 refine⟨h2,λd hd=>?_⟩;obtain⟨e,he⟩:=hd;by_cases d1:d=1;·exact .inl d1
 by_cases e1:e=1;·right;rw[he,e1,DU]
 exfalso;have d0:d≠0:=λz=>by rw[z,D5] at he;omega
 have O:e≠0:=λz=>by rw[z,sF] at he;omega
 by_cases l:d<=e
 .refine h d ∅ (by rw[he];exact Nat.mul_le_mul_left d l) ?_;rw[he];exact Nat.mul_mod_right d e
 .refine h e ∅ (by rw[he];exact Nat.mul_le_mul_right e ∅) ?_;rw[he];exact Nat.mul_mod_left d e
theorem bR(f:Nat){q:Nat}(h2:2<=q)(h:tr q f 2=true):aE q:=Ld h2 (EC h)
noncomputable def pw(N:Nat):Nat->Nat->Nat->Nat->Nat
 |0,_,_,acc=>acc
 |f+1,e,g,acc=>pw N f (e/2) (g*g%N) (if e%2=1 then acc*g%N else acc)
theorem Kw{N:Nat}:∀(f e g acc:Nat),e<2^f->pw N f e g acc%N=acc*g^e%N
  | 0, e, g, acc, h => by
    have:e=0:=by simp at h;exact h
    subst this;simp[pw]
  | f + 1, e, g, acc, h => by
    have h2:e/2<2^f:=by rw[Nat.pow_succ] at h;omega
    unfold pw;rw[Kw f _ _ _ h2];have e2:g^e=(g*g)^(e/2)*g^(e%2):=by
      conv=>lhs;rw[<-DW e 2]
      rw[uY,vb,Nat.pow_two]
    have m1:(g*g%N)^(e/2)%N=(g*g)^(e/2)%N:=(vc _ _ _).symm;rw[e2];by_cases U:e%2=1
    · rw[if_pos U,U,Nat.pow_one,lz,m1,Bw,<-lz]
      congr 1
      rw[tR,rq g]
    · have d:e%2=0:=∅
      rw[if_neg U,d,sT,DU,lz,m1,<-lz]
theorem NO{P:Nat->Prop}:∀n,P n->∃m,P m/\∀k,k<m->¬P k:=by
  intro n;induction n using Nat.strongRecOn with
  | _ n ih =>
    intro h;by_cases hk:∃k,k<n/\P k
    · obtain⟨k,a,f⟩:=hk
      exact ih k a f
    · exact⟨n,h,λk a f=>hk ⟨k,a,f⟩⟩
theorem Fq:∀(n:Nat) (f:Nat->Nat),(∀i,i<n+1->f i<n)->∃i j,i<j/\j<n+1/\f i=f j
  |0,f,h=>absurd (h 0 ∅) ∅
  | n + 1, f, h => by
    by_cases he:∃i,i<n+1/\f i=f (n+1)
    · obtain⟨i,h1,h2⟩:=he
      exact⟨i,n+1,h1,∅,h2⟩
    · have T:∀i,i<n+1->f i≠f (n+1):=λi hi e=>he ⟨i,hi,e⟩
      have qG:=h (n+1) ∅
      obtain⟨i,j,h1,h2,h3⟩:=Fq n (λi=>if f i=n then f (n+1) else f i) (λi hi=>by
        have g1:=h i ∅;have g2:=T i hi;by_cases c:f i=n
        · simp only[c,if_true]
          have:f (n+1)≠n:=λz=>g2 (c.trans z.symm);omega
        · simp only[c,if_false]
          omega)
      refine⟨i,j,h1,∅,?_⟩;have gi:=T i ∅;have gj:=T j ∅;by_cases b:f i=n
      · by_cases a:f j=n
        · rw[b,a]
        · simp only[b,a,if_true,if_false] at h3
          exact absurd h3.symm gj
      · by_cases a:f j=n
        · simp only[b,a,if_true,if_false] at h3
          exact absurd h3 gi
        · simpa only[b,a,if_false] using h3
noncomputable def jX:List (Nat×Nat)->Nat
 |[]=>1
 |qe::r=>Nat.lcm (qe.1^qe.2) (jX r)
theorem J2{o:Nat}:∀{fs:List (Nat×Nat)},(∀qe∈fs,qe.1^qe.2∣o)->jX fs∣o
 |[],_=>⟨o,by simp[jX]⟩
 |qe::r,h=>Nat.lcm_dvd (h qe bY) (J2 λx hx=>h x (bA _ hx))
theorem R3{q:Nat}(hq:aE q)(h:¬q∣m):h8 q m:=by
 rcases hq.2 _ (Nat.gcd_dvd_left q m) with e|e
 .exact e
 .exact absurd (e▸Nat.gcd_dvd_right q m) h
theorem T4{q:Nat}(h:h8 q m)(e:Nat):h8 (q^e) m:=tx e h
theorem Ut(a b c d:Nat):(a%d)*(b%d)%d*(c%d)%d=a*b*c%d:=by
 rw[<-lz a b,<-lz (a*b) c]
theorem LI{N g d:Nat}{fs:List (Nat×Nat)}(hN:2<=N)(hd:d∣N)(d1:1<d)(h1:g^(N-1)%N=1%N)
  (hq:∀qe∈fs,aE qe.1/\qe.1^qe.2∣N-1/\vh (g^((N-1)/qe.1)%N+(N-1)) N=1):jX fs<d:=by
 have s:∀{a b:Nat},a%N=b%N->a%d=b%d:=λ{a b} e=>by
  rw[<-zq a hd,e,zq b hd]
 have one:1%d=1:=nz d1;have B:g^(N-1)%d=1:=by rw[s h1,one]
 obtain⟨o,⟨t,o1⟩,A⟩:=NO (P:=λk=>0<k/\g^k%d=1) (N-1) ⟨∅,B⟩;have p:∀q r:Nat,g^(o*q+r)%d=g^r%d:=λq r=>by
  rw[uY,vb,lz,vc,o1,Nat.one_pow,one,CH,Bw]
 have G:∀k,g^k%d=1->o∣k:=λk hk=>by
  have e:=DW k o;rw[<-e,p] at hk;by_cases h0:k%o=0;·exact J5 h0
  .exact absurd ⟨∅,hk⟩ (A (k%o) (uf _ t))
 have od:=G _ B;have h:jX fs∣o:=J2 λqe v=>by
  obtain⟨x,⟨c,hc⟩,D⟩:=hq qe v;obtain⟨m,hm⟩:=od;by_cases y:qe.1∣m
  .exfalso;obtain⟨m',n⟩:=y;have q0:0<qe.1:=by have:=x.1;omega
   have I:(N-1)/qe.1=o*m':=by
    rw[hm,n,show o*(qe.1*m')=qe.1*(o*m') by rw[<-tR,rq o,tR],Nat.mul_div_cancel_left _ q0]
   have e1:g^((N-1)/qe.1)%d=1:=by
    have:=p m' 0;rw[qA,sT,one] at this;rw[I];exact this
   have e2:d∣g^((N-1)/qe.1)%N+(N-1):=by
    have e3:(g^((N-1)/qe.1)%N)%d=1:=by rw[zq _ hd];exact e1
    obtain⟨k,hk⟩:=hd;have e4:=DW (g^((N-1)/qe.1)%N) d;rw[e3] at e4;refine⟨(g^((N-1)/qe.1)%N)/d+k,?_⟩;rw[Nat.mul_add,<-hk];omega
   have e5:=Nat.dvd_gcd e2 hd;rw[D] at e5;have:=za ∅ e5;omega
  .have cp:=T4 (R3 x y) qe.2;have F:qe.1^qe.2∣o*m:=⟨c,by rw[<-hm];exact hc⟩;exact cp.dvd_of_dvd_mul_right F
 have C:o<d:=by
  refine Nat.lt_of_not_le λl=>?_;have f:∀i,i<=N-1->(g^i%d)*(g^(N-1-i)%d)%d=1:=λi hi=>by
   rw[<-lz,<-uY,show i+(N-1-i)=N-1 by omega];exact B
  have YG:o<=N-1:=za ∅ od;have pos:∀i,i<o->0<g^i%d:=λi hi=>by
   refine lr λz=>?_;have:=f i ∅;rw[z,D5,Nat.zero_mod] at this;cases this
  obtain⟨i,j,h1,h2,h3⟩:=Fq (d-1) (λi=>g^i%d-1) (λi hi=>by
   have a1:=pos i ∅;have a2:=uf (g^i) (show d>0 by omega);omega)
  have pi:=pos i ∅;have pj:=pos j ∅;have e:g^i%d=g^j%d:=∅
  have E:g^j=g^i*g^(j-i):=by rw[<-uY,show i+(j-i)=j by omega]
  have u:=f i ∅;have k1:g^(j-i)%d=1:=by
   have w:(g^i%d)*(g^(N-1-i)%d)%d*(g^(j-i)%d)%d=(g^j%d)*(g^(N-1-i)%d)%d:=by
    rw[Ut,<-lz (g^j),E]
    congr 1
    rw[tR,tR,rq (g^(N-1-i))]
   rw[u,CH,Bw,<-e,u] at w;exact w
  exact A (j-i) ∅ ⟨∅,k1⟩
 exact uA (za t h) C
theorem UZ{N g:Nat}(fs:List (Nat×Nat))(hN:2<=N)(h1:g^(N-1)%N=1%N)
  (hq:∀qe∈fs,aE qe.1/\qe.1^qe.2∣N-1/\vh (g^((N-1)/qe.1)%N+(N-1)) N=1) (I:N<(jX fs+1)*(jX fs+1)):aE N:=by
 refine⟨hN,λd hd=>?_⟩;obtain⟨e,he⟩:=id hd;by_cases d1:d=1;·exact .inl d1
 by_cases e1:e=1;·right;rw[he,e1,DU]
 exfalso;have d0:d≠0:=λz=>by rw[z,D5] at he;omega
 have O:e≠0:=λz=>by rw[z,sF] at he;omega
 have b1:=LI hN hd ∅ h1 hq;have b2:=LI hN ⟨d,by rw[he,rq]⟩ (show 1<e by omega) h1 hq;have:=qx (show jX fs+1<=d from b1) (show jX fs+1<=e from b2);omega
noncomputable def JY(N g:Nat)(fs:List (Nat×Nat)):Bool:=
 decide (2<=N) && decide (N<2^140) &&(pw N 140 (N-1) g 1%N==1) && fs.all (λqe=>((N-1)%qe.1^qe.2==0) &&(vh (pw N 140 ((N-1)/qe.1) g 1%N+(N-1)) N==1)) && decide (N<(jX fs+1)*(jX fs+1))
theorem cU{N:Nat}(g:Nat)(fs:List (Nat×Nat))(hp:∀qe∈fs,aE qe.1)(h:JY N g fs=true):aE N:=by
 unfold JY at h;simp only[eZ,decide_eq_true_eq,beq_iff_eq,pF] at h;obtain⟨⟨⟨⟨h1,h2⟩,h3⟩,h4⟩,h5⟩:=h;have P:∀e,e<=N-1->pw N 140 e g 1%N=g^e%N:=λe he=>by
  rw[Kw 140 e g 1 ∅,CH]
 refine UZ (g:=g) fs h1 (by rw[<-P _ (aF _),h3,nz ∅]) (λqe v=>?_) h5;obtain⟨g1,g2⟩:=h4 qe v;refine⟨hp qe v,J5 g1,?_⟩;rw[<-P _ (Nat.div_le_self _ _)];exact g2
theorem CS:aE 2:=bR 4 ⋯ (by decide+kernel)
theorem Q4:aE 3:=bR 4 ⋯ (by decide+kernel)
theorem MH:aE 5:=bR 5 ⋯ (by decide+kernel)
theorem Ce:aE 7:=bR 5 ⋯ (by decide+kernel)
theorem Mq:aE 11:=bR 6 ⋯ (by decide+kernel)
theorem OH:aE 101:=bR 13 ⋯ (by decide+kernel)
theorem Mb:aE 10007:=bR 103 ⋯ (by decide+kernel)
theorem Va:aE 65537:=bR 259 ⋯ (by decide+kernel)
theorem L6:aE 1000003:=bR 1003 ⋯ (by decide+kernel)
theorem O3:aE 17:=bR 7 ⋯ (by decide+kernel)
theorem RA:aE 998244353:=cU 3 [(17,1),(7,1),(2,23)] (λqe h=>by
 simp only[aA,cK,or_false] at h;rcases h with rfl|rfl|rfl
 .exact O3
 .exact Ce
 .exact CS) (by decide+kernel)
theorem Qf:aE 148721:=bR 388 ⋯ (by decide+kernel)
theorem Xo:aE 500000003:=cU 2 [(148721,1)] (λqe h=>by
 simp only[aA,cK,or_false] at h;subst h;exact Qf) (by decide+kernel)
theorem QC:aE 1000000007:=cU 2 [(500000003,1)] (λqe h=>by
 simp only[aA,cK,or_false] at h;subst h;exact Xo) (by decide+kernel)
theorem Gz:aE 331:=bR 21 ⋯ (by decide+kernel)
theorem JP:aE 151:=bR 15 ⋯ (by decide+kernel)
theorem Pz:aE 2147483647:=cU 3 [(331,1),(151,1)] (λqe h=>by
 simp only[aA,cK,or_false] at h;rcases h with rfl|rfl
 .exact Gz
 .exact JP) (by decide+kernel)
theorem RP:aE 250049:=bR 503 ⋯ (by decide+kernel)
theorem QX:aE 26005097:=cU 2 [(250049,1)] (λqe h=>by
 simp only[aA,cK,or_false] at h;subst h;exact RP) (by decide+kernel)
theorem TR:aE 1000000000039:=cU 2 [(26005097,1)] (λqe h=>by
 simp only[aA,cK,or_false] at h;subst h;exact QX) (by decide+kernel)
theorem Nz:aE 234931:=bR 487 ⋯ (by decide+kernel)
theorem Yj:aE 8740842787:=cU 2 [(234931,1)] (λqe h=>by
 simp only[aA,cK,or_false] at h;subst h;exact Nz) (by decide+kernel)
theorem Sj:aE 52445056723:=cU 2 [(8740842787,1)] (λqe h=>by
 simp only[aA,cK,or_false] at h;subst h;exact Yj) (by decide+kernel)
theorem Tg:aE 1000000000000000003:=cU 2 [(52445056723,1)] (λqe h=>by
 simp only[aA,cK,or_false] at h;subst h;exact Sj) (by decide+kernel)
theorem Wa:aE 15331:=bR 126 ⋯ (by decide+kernel)
theorem Sd:aE 2131:=bR 49 ⋯ (by decide+kernel)
theorem R9:aE 5594472617641:=cU 2 [(15331,1),(2131,1)] (λqe h=>by
 simp only[aA,cK,or_false] at h;rcases h with rfl|rfl
 .exact Wa
 .exact Sd) (by decide+kernel)
theorem XG:aE 18446744073709551557:=cU 2 [(5594472617641,1)] (λqe h=>by
 simp only[aA,cK,or_false] at h;subst h;exact R9) (by decide+kernel)
theorem Wr:aE 1321:=bR 39 ⋯ (by decide+kernel)
theorem Uq:aE 61:=bR 10 ⋯ (by decide+kernel)
theorem Q6:aE 2305843009213693951:=cU 3 [(1321,1),(331,1),(151,1),(61,1)] (λqe h=>by
 simp only[aA,cK,or_false] at h;rcases h with rfl|rfl|rfl|rfl
 .exact Wr
 .exact Gz
 .exact JP
 .exact Uq) (by decide+kernel)
theorem PY:aE 8707:=bR 96 ⋯ (by decide+kernel)
theorem T6:aE 1913:=bR 46 ⋯ (by decide+kernel)
theorem Vy:aE 2931542417:=cU 3 [(8707,1),(1913,1)] (λqe h=>by
 simp only[aA,cK,or_false] at h;rcases h with rfl|rfl
 .exact PY
 .exact T6) (by decide+kernel)
theorem Wh:aE 2113:=bR 48 ⋯ (by decide+kernel)
theorem XE:aE 683:=bR 29 ⋯ (by decide+kernel)
theorem Pa:aE 618970019642690137449562111:=cU 3 [(2931542417,1),(2113,1),(683,1)] (λqe h=>by
 simp only[aA,cK,or_false] at h;rcases h with rfl|rfl|rfl
 .exact Vy
 .exact Wh
 .exact XE) (by decide+kernel)
theorem Oq:aE 1097:=bR 36 ⋯ (by decide+kernel)
theorem O7:aE 131:=bR 14 ⋯ (by decide+kernel)
theorem P9:aE 67254877:=cU 2 [(1097,1),(131,1)] (λqe h=>by
 simp only[aA,cK,or_false] at h;rcases h with rfl|rfl
 .exact Oq
 .exact O7) (by decide+kernel)
theorem X8:aE 28059810762433:=cU 3 [(67254877,1)] (λqe h=>by
 simp only[aA,cK,or_false] at h;subst h;exact P9) (by decide+kernel)
theorem VF:aE 53:=bR 10 ⋯ (by decide+kernel)
theorem NP:aE 37:=bR 9 ⋯ (by decide+kernel)
theorem Ug:aE 13:=bR 6 ⋯ (by decide+kernel)
theorem Wu:aE 20394401:=cU 3 [(53,1),(37,1),(13,1)] (λqe h=>by
 simp only[aA,cK,or_false] at h;rcases h with rfl|rfl|rfl
 .exact VF
 .exact NP
 .exact Ug) (by decide+kernel)
theorem TX:aE 162259276829213363391578010288127:=cU 3 [(28059810762433,1),(20394401,1)] (λqe h=>by
 simp only[aA,cK,or_false] at h;rcases h with rfl|rfl
 .exact X8
 .exact Wu) (by decide+kernel)
theorem WA:aE 699053:=bR 839 ⋯ (by decide+kernel)
theorem Wb:aE 77158673929:=cU 3 [(699053,1)] (λqe h=>by
 simp only[aA,cK,or_false] at h;subst h;exact WA) (by decide+kernel)
theorem N9:aE 649657:=bR 809 ⋯ (by decide+kernel)
theorem WM:aE 92737:=bR 307 ⋯ (by decide+kernel)
theorem Qy:aE 170141183460469231731687303715884105727:=cU 3 [(77158673929,1),(649657,1),(92737,1)] (λqe h=>by
 simp only[aA,cK,or_false] at h;rcases h with rfl|rfl|rfl
 .exact Wb
 .exact N9
 .exact WM) (by decide+kernel)
theorem Tj:aE 7963:=bR 92 ⋯ (by decide+kernel)
theorem WZ:aE 3011:=bR 57 ⋯ (by decide+kernel)
theorem Na:aE 575438233:=cU 2 [(7963,1),(3011,1)] (λqe h=>by
 simp only[aA,cK,or_false] at h;rcases h with rfl|rfl
 .exact Tj
 .exact WZ) (by decide+kernel)
theorem WC:aE 52316542391429:=cU 2 [(575438233,1)] (λqe h=>by
 simp only[aA,cK,or_false] at h;subst h;exact Na) (by decide+kernel)
theorem LX:aE 104633084782859:=cU 2 [(52316542391429,1)] (λqe h=>by
 simp only[aA,cK,or_false] at h;subst h;exact WC) (by decide+kernel)
theorem UK:aE 179:=bR 16 ⋯ (by decide+kernel)
theorem QZ:aE 31:=bR 8 ⋯ (by decide+kernel)
theorem OE:aE 7935071:=cU 2 [(179,1),(31,1)] (λqe h=>by
 simp only[aA,cK,or_false] at h;rcases h with rfl|rfl
 .exact UK
 .exact QZ) (by decide+kernel)
theorem Q9:aE 15870143:=cU 2 [(7935071,1)] (λqe h=>by
 simp only[aA,cK,or_false] at h;subst h;exact OE) (by decide+kernel)
theorem RQ:aE 401321030361983486780957614729:=cU 2 [(104633084782859,1),(15870143,1)] (λqe h=>by
 simp only[aA,cK,or_false] at h;rcases h with rfl|rfl
 .exact LX
 .exact Q9) (by decide+kernel)
theorem QB:aE 1000000000000000000000000000000000000003:=cU 2 [(401321030361983486780957614729,1)] (λqe h=>by
 simp only[aA,cK,or_false] at h;subst h;exact RQ) (by decide+kernel)
theorem Ur:aE 25733:=bR 163 ⋯ (by decide+kernel)
theorem UE:aE 1151:=bR 36 ⋯ (by decide+kernel)
theorem Uj:aE 4916701379:=cU 2 [(25733,1),(1151,1)] (λqe h=>by
 simp only[aA,cK,or_false] at h;rcases h with rfl|rfl
 .exact Ur
 .exact UE) (by decide+kernel)
theorem RM:aE 83:=bR 12 ⋯ (by decide+kernel)
theorem NZ:aE 23:=bR 7 ⋯ (by decide+kernel)
theorem UR:aE 1676254721:=cU 5 [(83,1),(23,1),(7,3)] (λqe h=>by
 simp only[aA,cK,or_false] at h;rcases h with rfl|rfl|rfl
 .exact RM
 .exact NZ
 .exact Ce) (by decide+kernel)
theorem Xs:aE 149927568276670622397029177:=cU 2 [(4916701379,1),(1676254721,1)] (λqe h=>by
 simp only[aA,cK,or_false] at h;rcases h with rfl|rfl
 .exact Uj
 .exact UR) (by decide+kernel)
theorem MX:aE 9999999999999999999999999999999999999983:=cU 2 [(149927568276670622397029177,1)] (λqe h=>by
 simp only[aA,cK,or_false] at h;subst h;exact Xs) (by decide+kernel)
end PC
namespace L2
open PC
def fE(p:Int):Prop:=2<=p/\∀d:Int,0<d->d∣p->d=1\/d=p
theorem eH(h:aE n):fE (n:Int):=by
 refine⟨by have:=h.1;omega,λd d0 hd=>?_⟩;obtain⟨k,rfl⟩:=Ga (sC d0);rcases h.2 k (Int.natCast_dvd_natCast.mp hd) with e|e
 .left;rw[e];rfl
 .right;rw[e]
theorem Rn(h2:2<=p)(h:wF p):fE p:=by
 obtain⟨n,rfl⟩:=Ga (show 0<=p by omega);refine eH (Ld ∅ λe e1 e2 e3=>?_);refine h (e:Int) ∅ (by rw[<-oy];exact Int.ofNat_le.mpr e2) ?_;have:=congrArg (Nat.cast:Nat->Int) e3;simpa using this
theorem RK:∀p∈uG,fE p:=by
 intro p hp;simp only[uG,aA,cK,or_false] at hp;rcases hp with rfl|rfl|rfl|rfl|rfl|rfl|rfl|rfl|rfl|rfl|rfl|rfl|rfl|rfl|rfl|rfl|rfl|rfl|rfl|rfl|rfl|rfl
 .exact eH CS
 .exact eH Q4
 .exact eH MH
 .exact eH Ce
 .exact eH CS
 .exact eH Mq
 .exact eH OH
 .exact eH Mb
 .exact eH Va
 .exact eH L6
 .exact eH RA
 .exact eH QC
 .exact eH Pz
 .exact eH TR
 .exact eH Tg
 .exact eH XG
 .exact eH Q6
 .exact eH Pa
 .exact eH TX
 .exact eH Qy
 .exact eH QB
 .exact eH MX
def Iv:Sp:=λvs H Q _=>∃p b:Int,vs=[.int p, .int b]/\fE p/\p<10^40/\b%p≠0/\∀u:Int,0<=u->u<p->(∃k,u*b=1+p*k)->Q (.int u) H
def zd:Sp:=λvs H Q _=>∃p a b:Int,vs=[.int p, .int a, .int b]/\fE p/\p<10^40/\b%p≠0/\ -(10^61)<=a/\a<=10^61/\∀x:Int,0<=x->x<p->(∃k,b*x-a=p*k)->Q (.int x) H
end L2
namespace L2
theorem af.three{a b c:PyData}(h:af nb H [a,b,c] vs):∃x y z,vs=[x,y,z]/\ah nb H a x/\ah nb H b y/\ah nb H c z:=by
 unfold af at h;obtain⟨x,ys,rfl,h1,h⟩:=h;unfold af at h;obtain⟨y,zs,rfl,h2,h⟩:=h;unfold af at h;obtain⟨z,ws,rfl,h3,h⟩:=h;unfold af at h;subst h;exact⟨x,y,z,rfl,h1,h2,h3⟩
theorem Ev.over{Φ:Pd}(h:Av G ρ t λes=>∃p a b:Int,es.map (·.2)=[.int p, .int a, .int b]/\fE p/\p<10^40/\b%p≠0/\ -(10^61)<=a/\a<=10^61/\∀x:Int,0<=x->x<p->(∃k,b*x-a=p*k)->Φ true (.int x)):
  Ev G ρ (fN zd [] E0 t) Φ:=λnb σ H Q W z=>
 h nb σ H _ W λes vs H1 ⟨p,a,b,e,h1,h2,h3,h4,h5,q⟩ s1 J=>by
  have hd:=J.all (f:=false) (λz=>by cases z);rw[e] at hd;obtain⟨x,y,w,rfl,d1,d2,c⟩:=hd.three;rw[d1.cz,d2.cz,c.cz];exact⟨p,a,b,rfl,h1,h2,h3,h4,h5,λx x1 x2 x3=>z true _ H1 _ (q x x1 x2 x3) s1 (.int x)⟩
theorem Rm{a b:Int}(hp:fE p)(h:p∣a*b)(ha:¬p∣a):p∣b:=by
 have p2:=hp.1;have g1:((h9 a p:Nat):Int)∣p:=ml ..;have g2:((h9 a p:Nat):Int)∣a:=nB ..;have d:0<((h9 a p:Nat):Int):=by
  have:h9 a p≠0:=λz=>by have:=(Ja.mp z).2;omega
  omega
 rcases hp.2 _ d g1 with e|e
 .have c:h8 p.natAbs a.natAbs:=by
   show vh p.natAbs a.natAbs=1;have:h9 a p=1:=∅
   rw[Nat.gcd_comm];exact this
  have h':p.natAbs∣b.natAbs*a.natAbs:=by rw[rq,<-Cs];exact yi.mpr h
  exact yi.mp (c.dvd_of_dvd_mul_right h')
 .rw[e] at g2;exact absurd g2 ha
theorem OU{a b:Int}(ha:0<=a)(c:a<p)(hb:0<=b)(l:b<p)(h:p∣a-b):a=b:=by
 obtain⟨k,e⟩:=h;rcases mr k 0 with z|z|z
 .have:p*k<=p*(-1):=rQ ∅ ∅;omega
 .subst z;omega
 .have:p*1<=p*k:=rQ ∅ ∅;omega
section
variable{X:Cx}{pins:List (aw×Obj)}{σ:List (Option V)}{H:Hp}{s:ar}{h':ek}
theorem Inv.MZ{e T:aw}{o:HO}(I:Inv X pins σ H s)(k:∀b u,b≠e->b≠it->s.heap.get? b=some u->h'.get? b=some u)(fe:iJ X pins H e)(fi:iJ X pins H it)(hT:s.heap.objs.size<=T)(A:T≠e)(N:T≠it)
  (le:∃u,s.heap.get? e=some u) (li:∃u,s.heap.get? it=some u) (new:cA X.prog X.w (upd H T o) h' T o):Inv X pins σ (upd H T o) {s with heap:=h',toks:=t'}:=by
 have hn:=I.hok.fresh hT;obtain⟨O,e1,e2,e3,e4,e5⟩:=fe;obtain⟨p,B,C,f,d,i5⟩:=fi;have ne:∀b u,H b=some u->b≠e:=λb u q z=>by rw[z,O] at q;cases q
 have ni:∀b u,H b=some u->b≠it:=λb u q z=>by rw[z,p] at q;cases q
 have l:∀b u,H b=some u->b≠T:=λb u q z=>by rw[z,hn] at q;cases q
 refine I.step (g':=s.gens) (d':=s.drawn) (ch:=[e,it]) (λb hb=>?_) (λb o _ _ hc q _=>k b o (λz=>hc (by simp[z])) (λz=>hc (by simp[z])) q) (λb o _ _ hc q _=>⟨o.slots,k b o (λz=>hc (by simp[z])) (λz=>hc (by simp[z])) q⟩)
  (λb o hc q n=>?_) (λb o hc q=>⟨o,k b o (λz=>hc (by simp[z])) (λz=>hc (by simp[z])) q⟩) (λb xs q=>by rw[aM (l b _ q)];exact q) (λb o u q=>by rw[aM (l b _ q)];exact q) (λb ps q=>⟨#[],by rw[aM (l b _ q),q];simp⟩) (λm hm=>?_) (λb u q=>?_) I.bare
 .rcases(show b=e\/b=it by simpa using hb) with z|z
  .subst z;exact⟨e3,e1,e4,e5⟩
  .subst z;exact⟨f,B,d,i5⟩
 .rw[aM (λz=>absurd (eG (bF q) (by rw[z];exact hT)) (jk _))];exact n
 .obtain⟨o,es,ep,U,r⟩:=hm;exact⟨o,es,ep,k _ o (bJ e1) (bJ B) U,r⟩
 .by_cases hb:b=T;·subst hb;rw[aT] at q;cases q;exact new
  .rw[aM hb] at q;refine(I.hok b u q).stay (λc v hc z=>?_) (λc z=>by rw[aM (l c _ z)];exact z) λc xs z=>by rw[aM (l c _ z)];exact z
   rcases hc with y|y
   .subst y;exact k _ v (ne _ u q) (ni _ u q) z
   .exact k c v (ne c _ y) (ni c _ y) z
theorem Inv.RG{e:aw}(I:Inv X pins σ H s)(k:∀b u,b≠e->b≠it->s.heap.get? b=some u->h'.get? b=some u)(fe:iJ X pins H e)(fi:iJ X pins H it):Inv X pins σ H {s with heap:=h',toks:=t'}:=by
 obtain⟨O,e1,e2,e3,e4,e5⟩:=fe;obtain⟨p,B,C,f,d,i5⟩:=fi;have ne:∀b u,H b=some u->b≠e:=λb u q z=>by rw[z,O] at q;cases q
 have ni:∀b u,H b=some u->b≠it:=λb u q z=>by rw[z,p] at q;cases q
 refine I.step (g':=s.gens) (d':=s.drawn) (ch:=[e,it]) (λb hb=>?_) (λb o _ _ hc q _=>k b o (λz=>hc (by simp[z])) (λz=>hc (by simp[z])) q) (λb o _ _ hc q _=>⟨o.slots,k b o (λz=>hc (by simp[z])) (λz=>hc (by simp[z])) q⟩)
  (λ_ _ _ _ n=>n) (λb o hc q=>⟨o,k b o (λz=>hc (by simp[z])) (λz=>hc (by simp[z])) q⟩) (λ_ _ q=>q) (λ_ _ _ q=>q) (λb ps q=>⟨#[],by rw[q];simp⟩) (λm hm=>?_) (λb u q=>?_) I.bare
 .rcases(show b=e\/b=it by simpa using hb) with z|z
  .subst z;exact⟨e3,e1,e4,e5⟩
  .subst z;exact⟨f,B,d,i5⟩
 .obtain⟨o,es,ep,U,r⟩:=hm;exact⟨o,es,ep,k _ o (bJ e1) (bJ B) U,r⟩
 .refine(I.hok b u q).stay (λc v hc z=>?_) (λc z=>z) λc xs z=>z;rcases hc with y|y
  .subst y;exact k _ v (ne _ u q) (ni _ u q) z
  .exact k c v (ne c _ y) (ni c _ y) z
end
noncomputable def xU(K:PySem.W.Frag)(a:aw):It:=
 ⟨λi H=>∃xs x,aO K H a xs/\xs[i]?=some x,λi H x H'=>∃p y,x= .ref p/\H p=none/\(∀xs,aO K H a xs->xs[i]?=some y)/\H'=upd H p (.tup [.int i,y]),λi H=>∃xs,aO K H a xs/\xs.length=i⟩
theorem RY{P:be}{K:PySem.W.Frag}{g:List eu}{k:Nat}(a e it:aw)(n:e≠it):
  Turn P w K (.Tuple g k pos) (xU K a) [e,it] e (λi h=>(∃old,IsEnum h e it i old)/\h.IsListIter it a i) where
 mem:=by simp
 obj:=λi h st b hb=>by
  obtain⟨⟨old,s1⟩,⟨o,e1,c,d⟩⟩:=st;rcases(show b=e\/b=it by simpa using hb) with z|z
  .subst z
   exact⟨_,s1,λv z=>by
    have z':tI _=wq v:=z;cases z'⟩
  .subst z;exact⟨o,e1,λv z=>by rw[d] at z;cases z⟩
 keep:=λi h h' st k=>⟨let ⟨old,s1⟩:=st.1;⟨old,k e (by simp) _ s1⟩,st.2.at λo q=>k it (by simp) o q⟩
 item:=by
  intro X hP hw hK hc i pins s σ H E I hf st hg;subst hP hw hK;obtain⟨xs,x,hq,hx⟩:=hg;obtain⟨its,rv,p,hz⟩:=I.list hq;obtain⟨u,hu,ru⟩:=rv.get hx;have fe:=hf e (by simp);have fi:=hf it (by simp);obtain⟨⟨old,s1⟩,s2⟩:=st;obtain⟨L,F,G,r⟩:=id p.isList;obtain⟨D,B,C,f⟩:=id s2;have O:a≠e:=λz=>by
   subst z;rw[s1] at F;cases F
   exact absurd G (by simp)
  have m:a≠it:=λz=>by
   subst z;rw[B] at F;cases F
   rw[C] at G;exact absurd G (by simp)
  have W:=nC (prog:=X.prog) (w:=X.w) (I.ok.hd hc) e it a n O m its.toArray;have hi:i<its.toArray.size:=by
   have:=(bH.mp hu).1;simpa using this
  refine W.item i s _ _ hi ⟨⟨old,s1⟩,s2,p.isList⟩ λT j h' tk hv hT V Q kp=>⟨.ref T,rfl,?_⟩;refine W.go g k pos i T _ _ _ Q λZ st' R=>?_;obtain⟨t,J,M,Vh⟩:=hv;have LZ:J=u:=by
   have:its.toArray[i]?=some u:=by simpa using hu
   rw[M] at this;exact ie this
  subst LZ Vh;have NR:=W.apart i T h' Q;obtain⟨_,_,_,A,N⟩:=Q;obtain⟨U,Y,y,l,S⟩:=V;have t1':=R T U NR Y;refine⟨.ref T,upd H T (.tup [.int i,x]),I.MZ (λb v h1 h2 q=>R b v (by simp[h1,h2]) (kp b v (by simp[h1,h2]) q)) fe fi hT A N ⟨_,s1⟩ ⟨_,B⟩ ?_,rfl,⟨T,x,rfl,I.hok.fresh hT,λys hy=>by rw[I.IW hy hq];exact hx,rfl⟩,⟨st'.1,st'.2.1⟩,λb hb=>?_⟩;·exact⟨by show 2<=sizeLine;decide,[.int i t,J], .cons ⟨t,rfl⟩ (.cons ru .nil),U,t1',y,l,S⟩
  .rw[aM,(hf b hb).1];rcases(show b=e\/b=it by simpa using hb) with z|z
   .rw[z];exact bJ A
   .rw[z];exact bJ N
 done:=by
  intro X hP hw hK hc i pins s σ H E I hf st hg;subst hP hw hK;obtain⟨xs,hq,hx⟩:=hg;obtain⟨its,rv,p,hz⟩:=I.list hq;have fe:=hf e (by simp);have fi:=hf it (by simp);obtain⟨⟨old,s1⟩,s2⟩:=st;obtain⟨L,F,G,r⟩:=id p.isList;obtain⟨D,B,C,f⟩:=id s2;have hl:=rv.length;have O:a≠e:=λz=>by
   subst z;rw[s1] at F;cases F
   exact absurd G (by simp)
  have m:a≠it:=λz=>by
   subst z;rw[B] at F;cases F
   rw[C] at G;exact absurd G (by simp)
  have W:=nC (prog:=X.prog) (w:=X.w) (I.ok.hd hc) e it a n O m its.toArray;have hn:its.toArray.size=i:=by rw[cT];omega
  refine W.done s _ _ (by rw[hn];exact⟨⟨old,s1⟩,s2,p.isList⟩) λh' tk kp=>⟨rfl,?_⟩;exact I.RG (λb v h1 h2 q=>kp b v (by simp[h1,h2]) q) fe fi
 self:=λ_ _ _ _ _ st h=>let ⟨old,s1⟩:=st.1;mu s1 h
def Kn(K:PySem.W.Frag)(tl:TE):TI:=λσ H R=>tl σ H λx H1=>∃a,x= .ref a/\(∃xs,aO K H1 a xs)/\R (xU K a) H1
theorem VN{X:Cx}{K:PySem.W.Frag}{g:List eu}{k:Nat}{tpos:Pos}{l:eu}{tl:TE}{p pos:Pos}(c:X.K=K)(hg:Gl X "enumerate")(hm:X.mg "enumerate"=none)(hl:PE X l tl)(hs:cn [l] X.env=[(false,eval l X.env)]:=by rfl):
    PI X (.Tuple g k tpos) (.Call (.Name "enumerate" p) [l] [] pos) (Kn K tl):=by
  subst c;intro pins s σ H R I h;have ha:PA X [l] (aX tl bK):=aa hl aj (by rw[hs];rfl);refine Call_ (pC I hg hm boot_enumerate (vL (aJ (ha pos pins s σ H (λvs H1=>match vs with|[x]=>∃a,x= .ref a/\(∃xs,aO X.K H1 a xs)/\R (xU X.K a) H1|_=>False) I h) λus s1 ⟨vs,H1,I1,O,J⟩=>?_) hs rfl));cases O with
  |nil=>exact J.elim
  | cons r f =>
    cases f with
    |cons _ _=>exact J.elim
    |nil=>
    obtain⟨a,e2,⟨xs,hq⟩,q⟩:=J;subst e2;cases r;obtain⟨its,rv,p,hz⟩:=I1.list hq;obtain⟨m,hn,_⟩:=I1.loc;refine enum_rows (h₀:={objs:= #[]}) (L:=X.env.locals) (m:=m) ⟨hn,λb o z=>?_,eW _⟩ p.isList λh' e1 e2 e3 e4 kp ne n1 n2 _ _=>?_;· cases z
    refine mu e1 ?_;have I2:Inv X pins σ H1 {s1 with heap:=h'}:=I1.kept (t':=s1.toks) kp;refine⟨s1.heap.objs.size+1,[s1.heap.objs.size+1,s1.heap.objs.size],_,_,H1,rfl,I2,RY a _ _ ne,⟨⟨_,e1⟩,e2⟩,λb hb=>?_,q⟩;rcases(show b=s1.heap.objs.size+1\/b=s1.heap.objs.size by simpa using hb) with z|z
    · subst z;exact I1.tQ (pK _) (I1.hok.fresh (pK _))
    · subst z;exact I1.tQ (aF _) (I1.hok.fresh (aF _))
theorem R.V1{K:PySem.W.Frag}{c:Hp->Prop}(Pv:Nat->qb->Hp->Prop)(h0:Pv 0 σ H)(hl:∀i σ H,i<=xs.length->Pv i σ H->aO K H a xs)
  (hs:∀i x σ H p,xs[i]?=some x->Pv i σ H->H p=none->g (.ref p) σ (upd H p (.tup [.int i,x])) λk H2=>tc k H2 λb H3=>if b=true then te k H3 λv H4=>∃ys,H4 acc=some (.lst ys)/\ys.length<sizeLine/\Pv (i+1) k (upd H4 acc (.lst (ys++[v]))) else Pv (i+1) k H3)
  (hd:∀σ H,Pv xs.length σ H->c H):pY (xU K a) g tc te acc c σ H:=by
 refine⟨λi m σ H=>m=xs.length-i/\i<=xs.length/\Pv i σ H,⟨xs.length,by simp,eW _,h0⟩,?_⟩;rintro i m σ H ⟨rfl,hi,p⟩;have q:=hl i σ H hi p;by_cases hlt:i<xs.length
 .refine .inr ⟨⟨xs,xs[i],q,by simp[hlt]⟩,Pv (i+1),λL H' j=>⟨xs.length-(i+1),∅,rfl,hlt,j⟩,λx H' y=>?_⟩;obtain⟨pp,y,e,hn,hy,e2⟩:=y;subst e e2;exact hs i y σ H pp (hy xs q) p hn
 .have e:i=xs.length:=∅
  subst e;exact .inl ⟨⟨xs,q,rfl⟩,hd σ H p⟩
section
variable{G:Gx}{ρ bL:Rh}{te:TE}{s:TS}{gt:TG}{E:DE}{K:PySem.W.Frag}{Θ:Bool->List PyData->Prop}{tc:TT}{mp:List (Option Nat)}
theorem au.P8(hm:(mp.filterMap id).Nodup)(r:kT mp ρ=bL)(h:Ev G ρ t0 λfi x=>∃es,x= .list es/\es.length<=10000/\∀v,iw (G.hd fi (.list es) v) bL es.length (λi d=>∃e,es[i]?=some e/\d= .tuple [.int i,e]) fi gt tc te Θ):au G ρ (k8 (Kn K t0) gt tc te mp) Θ:=λnb σ H Q W z=>
 h nb σ H _ W λfi v H1 x ⟨es,ex,hn,q⟩ s1 hv=>by
  subst ex;obtain⟨fl,I,h0,ht,he⟩:=q v;have W0:=(W.step s1).hd hv;obtain⟨a,xs,rfl,n,hx,hd⟩:=hv.dN;refine⟨a,rfl,⟨xs, .of hx⟩,λacc g=>?_⟩;have w:Wd (G.hd fi (.list es) (.ref a)) nb bL (L2.fT mp σ) H1:=by rw[<-r];exact W0.fT hm
  have W1:=w.more g (o:= .lst []);have hN:=NB.new s1.2 g;have hno:=yv w g;have cG:Step G.B H1 (upd H1 acc (.lst [])):= .same s1.2 (cF g);have t:NB G.B a:=iS λz=>n (.inr (.inr (.inl z)));refine R.V1 (xs:=xs) (λi σ H=>∃ds ys,Wd (G.hd fi (.list es) (.ref a)) (λx=>nb x\/x=acc) bL σ H/\Step G.B H1 H/\H acc=some (.lst ys)/\af (G.S (λx=>nb x\/x=acc) fl) H ds ys/\ds.length<=i/\I i ds/\H a=some (.lst xs)) ⟨[],[],W1,cG,aT, .nil,aF _,h0,cG.1 _ _ t hx⟩ ?_ ?_ ?_
  .rintro i σ H hi ⟨ds,ys,W,st,_,_,_,_,ha⟩;exact .of ha
  .rintro i x σ H p hi ⟨ds,ys,W,st,hy,j,hl,hI,ha⟩ hp;obtain⟨u,l,e',_,h',d'⟩:=W.mO.2.dN;cases e';rw[ha] at h';cases h'
   have hil:i<es.length:=by have:=(bH.mp hi).1;have:=d'.length;omega
   obtain⟨J,M,dx⟩:=d'.get (aQ hil);rw[hi] at M;cases M
   have st2:Step (G.hd fi (.list es) (.ref a)).B H (upd H p (.tup [.int i,x])):= .same W.ao (cF hp);have hap:acc≠p:=λz=>by subst z;rw[hp] at hy;cases hy
   have Yp:a≠p:=λz=>by subst z;rw[hp] at ha;cases ha
   refine Dl (G:=G.hd fi (.list es) (.ref a)) hn hil (W.step st2) (.inr rfl) hN hno (st.trans st2) g (by rw[aM hap];exact hy) (j.keep st2.c9) hl (.tup (W.fresh hp) aT (.cons (.int _) (.cons (dx.keep st2.c9) .nil))) (ht i _ ds ⟨_,aQ hil,rfl⟩ hl hI) λL H' k l W' st' M j b s=>⟨k,l,W',st',M,j,b,s,st'.1 _ _ t hx⟩
  .rintro σ H' ⟨ds,ys,W',st,hy,j,hl,hI,_⟩;rw[hd.length] at hl hI;exact Ar W s1 g st hy j (he ds hl hI) z
end
def Jz(ρ:Rh)(a:aw):Prop:=∃(i:Nat) (f:Bool) (ds:List PyData),ρ[i]?=some (.own a f ds)
def iO(G:Gx)(ρ:Rh)(ta:TA)(Φ:List PyData->Prop):Prop:=∀nb σ H (Q:List V->Hp->Prop),Wd G nb ρ σ H->(∀ds vs H',Φ ds->Step G.B H H'->af (λc=>G.S nb false c/\¬Jz ρ c) H' ds vs->Q vs H')->ta σ H Q
section
variable{G:Gx}{ρ:Rh}{Φ:Pd}{te:TE}{t:TA}{i n:Nat}{f:Bool}{ds:List PyData}{Θ:List PyData->Prop}
theorem iO.nil(h:Θ []):iO G ρ bK Θ:=λnb σ H Q W z=>z [] [] H h (.refl W.ao) .nil
theorem iO.cons(h:Ev G ρ te λ_ d=>iO G ρ t λds=>Θ (d::ds)):iO G ρ (aX te t) Θ:=λnb σ H Q W z=>
 h nb σ H _ W λf v H1 d j s1 J=>j nb σ H1 _ (W.step s1) λds vs H2 p2 s2 M=>z _ _ H2 p2 (s1.trans s2) (.cons ((J.keep s2.c9).av λc hc=>bM (λz=>by cases z) (λ_ z=>z) c hc.1) M)
theorem iO.own{a:aw}(e:ρ[i]?=some (.own a f ds))(h:iO G ρ t λes=>Θ (.list ds::es)):iO G ρ (aX (bz i) t) Θ:=λnb σ H Q W z=>by
 obtain⟨x,e1,h1,h2,h3,xs,hx,hd⟩:=W.ok i _ e;subst h1;refine⟨.ref a,e1,h nb σ H _ W λes vs H1 p s1 J=>z _ _ H1 p s1 (.cons ?_ J)⟩;exact .lst (λhc=>hc.2 ⟨i,f,ds,e⟩) (s1.1 _ _ h3 hx) ((hd.keep s1.c9).av λc hc=>bM (λz=>by cases z) (λ_ z=>z) c hc.1)
theorem Ev.GA{F:DF}(hm:dJ F)(h:iO G ρ t λds=>ds.length=n/\F ds λf d=>(f=true\/fU d=true)/\Φ true d):Ev G ρ (fN (cQ n F) [] E0 t) Φ:=λnb σ H Q W z=>
 h nb σ H _ W λds vs H1 ⟨hl,p⟩ s1 J=>by
  have W1:=W.step s1;rw[ic];refine⟨by rw[J.length,hl],λc=>G.S nb false c/\¬Jz ρ c,ds,λc hc=>W1.fL c hc.1,J,hm _ _ _ p λf d hp v H' sm hd=>?_⟩;obtain⟨hf,q⟩:=hp;rcases hf with rfl|hs
  .exact z true v H' d q (s1.trans (.same W1.ao sm)) (hd.av λa b=> .inr ⟨rfl,W1.fL a b⟩)
  .exact z true v H' d q (s1.trans (.same W1.ao sm)) (hd.fF hs)
theorem Ev.V8(h:Ev G ρ te λ_ x=>∃n:Int,x= .int n/\2<=n/\n<=10002/\∀r:Int,fE r->r<10^40->Φ true (.int r)):Ev G ρ (fN Au [] E0 (aX te bK)) Φ:=λnb σ H Q W z=>
 h nb σ H _ W λf v H1 d ⟨n,e,h1,h2,p⟩ s1 hv=>by
  subst e;exact⟨n,by rw[hv.cz];rfl,h1,h2,λr H' sm O N B=>z true _ H' _ (p r (Rn O B) ∅) (s1.trans (.same (W.step s1).ao sm)) (.int r)⟩
theorem Ev.str{x:Str}(h:Φ true (.str x)):Ev G ρ (tC (.str x)) Φ:=λnb σ H Q W z=>z true _ H _ h (.refl W.ao) (by unfold ah;rfl)
end
theorem Eu.fin{b L lt t:Int}(h:Eu p b L lt 0 t)(hp:fE p)(hb:b%p≠0):∃k,lt%p*b=1+p*k:=by
 obtain⟨g1,g2⟩:=h.dv L (Int.dvd_refl L) (Int.dvd_zero L);have m1:=gP b (show p≠0 by have:=hp.1;omega);have m2:=gM b (show 0<p by have:=hp.1;omega);have C:L=1:=by
  rcases hp.2 L h.l0 g1 with e|e
  .exact e
  .exfalso;rw[e] at g2;have:=zJ ∅ g2;omega
 obtain⟨k,hk⟩:=h.lc;have e:=qo lt p;refine⟨-k-lt/p*b,?_⟩;have e2:lt%p=lt-p*(lt/p):=∅
 rw[e2,u3,nW,uU,lW];omega
noncomputable def sol(p b a:Int):Int:=open Classical in if h:∃x,0<=x/\x<p/\∃k,b*x-a=p*k then nM h else 0
theorem Er{b a x:Int}(hp:fE p)(hb:b%p≠0)(h0:0<=x)(h1:x<p)(hx:∃k,b*x-a=p*k):x=sol p b a:=by
 have ex:∃x,0<=x/\x<p/\∃k,b*x-a=p*k:=⟨x,h0,h1,hx⟩;unfold sol;rw[dif_pos ex];obtain⟨d,g1,k',c⟩:=Hz ex;generalize nM ex=y at*;obtain⟨k,hk⟩:=hx;refine OU h0 h1 d g1 (Rm hp (a:=b) ⟨k-k',?_⟩ λz=>hb (Int.emod_eq_zero_of_dvd z));rw[nW,nW];omega
theorem Ic{b a:Int}(hp:0<p):0<=sol p b a/\sol p b a<p:=by
 unfold sol;split
 .rename_i h
  obtain⟨d,g1,_⟩:=Hz h;exact⟨d,g1⟩
 .omega
noncomputable def ff(wd:Wo)(prs:aC):aC:=prs.filter λpr=>wd[pr.1.toNat]?==some none
theorem Hu{prs:aC}:ff wd (prs++[pr])=if wd[pr.1.toNat]?=some none then ff wd prs++[pr] else ff wd prs:=by
 unfold ff;rw[lg];by_cases c:wd[pr.1.toNat]?=some none;·rw[if_pos c,sL (by rw[c];rfl)];rfl
 .rw[if_neg c,q9 (by simpa using c)];simp
noncomputable def gY(p:Int)(prs:aC)(rest:Int)(wd:Wo):Option (Int×Int):=match ff wd prs with
 |[pr]=>some (pr.1,sol p pr.2 (rest-bQ prs wd%p))
 |_=>none
noncomputable def JN:Option (Int×Int)->PyData
 |none=> .none
 |some pr=>xk pr
noncomputable def qi(wd:Wo):List Int:=((bp wd.length).filter λi=>wd[i]?==some none).map λ(i:Nat)=>(i:Int)
def BR(p:Int)(prs:aC):Prop:=∀pr∈prs,pr.2%p≠0
def jP(p:Int)(cs:List aC)(m:Nat):Prop:=fE p/\p<10^40/\cs.length<=1000/\∀prs∈cs,prs.length<=1000/\p9 prs m/\BR p prs
theorem jP.at{c:Int}(h:jP p cs m)(h0:0<=c)(h1:c<cs.length):∃prs,cs[c.toNat]?=some prs/\cs.getD c.toNat []=prs/\prs.length<=1000/\p9 prs m/\BR p prs:=by
 have hc:c.toNat<cs.length:=∅
 refine⟨cs[c.toNat],aQ hc,?_,h.2.2.2 _ (iA hc)⟩;rw[ko,aQ hc];rfl
noncomputable abbrev gp:=Int×Int×Int
noncomputable abbrev oN(m:gp):PyData:= .tuple [.int m.1, .int m.2.1, .int m.2.2]
noncomputable def xl(wd:Wo)(ms:List gp):Wo:=ms.foldl (λw m=>w.set m.1.toNat (some m.2.2)) wd
theorem GP{prs:aC}(h:pr∈ff wd prs):pr∈prs/\wd[pr.1.toNat]?=some none:=by
 unfold ff at h;have:=lM.mp h;exact⟨this.1,by simpa using this.2⟩
theorem Ke{prs:aC}{rest:Int}{a x:Int}(hp:0<p)(h:gY p prs rest wd=some (a,x)):∃pr∈prs,pr.1=a/\wd[a.toNat]?=some none/\0<=x/\x<p:=by
 unfold gY at h;split at h
 .rename_i pr e
  cases h;have:=GP (wd:=wd) (prs:=prs) (pr:=pr) (by rw[e];simp);exact⟨pr,this.1,rfl,this.2,Ic hp⟩
 .cases h
theorem HH{k:Int}(h0:0<=k)(h1:k<n):gU n k=some k.toNat:=by
 unfold gU;rw[if_pos h0,if_pos h1]
theorem Bb{ms:List gp}:(xl wd ms).length=wd.length:=by
 unfold xl;induction ms generalizing wd with
 |nil=>rfl
 |cons m r ih=>rw[o3,ih,iQ]
theorem gm{K:PySem.W.Frag}{l:eu}{tl:TE}(c:X.K=K)(hl:PE X l tl):PI X tg l (mL K tl):=by subst c;exact Su hl
section
variable{G:Gx}{ρ:Rh}{Φ:Pd}{ta tb te:TE}{E:DE}{K:PySem.W.Frag}
end
noncomputable def uw(es:List Fd):Bool:=es.all λe=>e.1||fU e.2
section
variable{G:Gx}{ρ:Rh}{Φ:Pd}{t:TA}{te:TE}
theorem jG.Gp{nb:aw->Prop}{H:Hp}:∀{es:List Fd} {vs:List V} {f:Bool},jG G nb H es vs->(f=true->uw es=true)->af (G.S nb f) H (es.map (·.2)) vs
  |[],_,_,h,_=>by unfold jG at h;subst h;exact .nil
  | e :: es, _, f, h, hf => by
    obtain⟨v,ws,rfl,h1,h2⟩:=h;have O:f=true->(e.1||fU e.2)=true/\uw es=true:=λz=>by
      have:=hf z;unfold uw at this;rw[oW,eZ] at this;exact this
    refine .cons ?_ (h2.Gp λz=>(O z).2);cases hs:fU e.2 with
    |true=>exact h1.fF hs
    |false=>exact h1.av (bM (λz=>by have:=(O z).1;rw[hs,nY] at this;exact this) λ_ z=>z)
theorem Ev.L8(h:Av G ρ t λes=>es.length<=10000/\Φ (uw es) (.tuple (es.map (·.2)))):Ev G ρ (pH t) Φ:=λnb σ H Q W z=>
 h nb σ H _ W λes vs H1 ⟨hl,p⟩ s1 J=>⟨fX (by rw[J.len];exact hl) ⋯,λa ha=>z _ _ _ _ p (s1.trans (.same (W.step s1).ao (cF ha)))
  (.tup ((W.step s1).fresh ha) aT ((J.Gp λz=>z).keep (aP.of (cF ha))))⟩
end
section
variable{κ:Type}[DecidableEq κ]
noncomputable def gV(kvs:List (κ×V))(k:κ):Option V:=(kvs.find? λa=>decide (a.1=k)).map (·.2)
noncomputable def putK(kvs:List (κ×V))(k:κ)(v:V):List (κ×V):=
 if(kvs.any λa=>decide (a.1=k))=true then kvs.map (λa=>if a.1=k then(a.1,v) else a) else kvs++[(k,v)]
theorem O0{k:κ}:gV ([]:List (κ×V)) k=none:=rfl
theorem wu{p:κ×V}{r:List (κ×V)}{k:κ}(e:p.1=k):gV (p::r) k=some p.2:=by simp[gV,m8,e]
theorem uL{p:κ×V}{r:List (κ×V)}{k:κ}(e:¬p.1=k):gV (p::r) k=gV r k:=by simp[gV,m8,e]
theorem CL(k:κ):∀kvs:List (κ×V),(kvs.any λa=>decide (a.1=k))=(gV kvs k).isSome
  |[]=>rfl
  | p :: r => by
    rw[nH];by_cases e:p.1=k;· simp only[wu e,decide_eq_true e,tE,Option.isSome_some]
    · rw[uL e,decide_eq_false e,nV];exact CL k r
theorem Qs(kvs:List (κ×V))(k:κ)(v:V):(putK kvs k v).length<=kvs.length+1:=by
 unfold putK;split;·rw[ak];omega
 .rw[gx,eY,B6];omega
theorem iG.wg{o:Option V}{u:Option ag}(r:iG o u):o.isSome=u.isSome:=by
  cases o with
  | none => cases u with
    |none=>rfl
    |some _=>exact(show False from r).elim
  | some _ => cases u with
    |none=>exact(show False from r).elim
    |some _=>rfl
theorem KV.val{kvs:List (κ×V)}{vs:List (κ×ag)}(r:KV kvs vs)(k:κ):iG (gV kvs k) (mv vs k):=by
  unfold KV at r;induction r with
  |nil=>exact dq
  | @cons p q ps c h t ih =>
    obtain⟨h1,h2⟩:=h;by_cases e:p.1=k
    · have e':q.1=k:=h1.symm.trans e
      have b:mv (q::c) k=some q.2:=by simp[mv,m8,e']
      rw[wu e,b];exact h2
    · have e':¬q.1=k:=λz=>e (h1.trans z)
      have b:mv (q::c) k=mv c k:=by simp[mv,m8,e']
      rw[uL e,b];exact ih
theorem KV.any{kvs:List (κ×V)}{vs:List (κ×ag)}(r:KV kvs vs)(k:κ):(kvs.any λa=>decide (a.1=k))=vs.any λa=>decide (a.1=k):=by
 unfold KV at r;induction r with
 |nil=>rfl
 |cons h t ih=>rw[nH,nH,ih,h.1]
theorem KV.repl{kvs:List (κ×V)}{vs:List (κ×ag)}(r:KV kvs vs)(k:κ){y:V}{u:ag}(d:RelV y u):
    KV (kvs.map λa=>if a.1=k then(a.1,y) else a) (vs.map λa=>if a.1=k then(a.1,u) else a):=by
  unfold KV at r⊢;induction r with
  |nil=>exact .nil
  | @cons p q ps c h t ih =>
    rw[bw,bw];refine .cons ?_ ih;obtain⟨h1,h2⟩:=h;by_cases e:p.1=k;· rw[if_pos e,if_pos (h1.symm.trans e)];exact⟨h1,d⟩
    · rw[if_neg e,if_neg (λz=>e (h1.trans z))];exact⟨h1,h2⟩
theorem KV.put{kvs:List (κ×V)}{vs:List (κ×ag)}(r:KV kvs vs)(k:κ){y:V}{u:ag}(d:RelV y u):KV (putK kvs k y) (stored vs k u):=by
 unfold putK stored;rw[r.any k];by_cases e:(vs.any λa=>decide (a.1=k))=true;·rw[if_pos e,if_pos e];exact r.repl k d
 .rw[if_neg e,if_neg e];exact Paired.snoc r ⟨rfl,d⟩
theorem KV.keys{kvs:List (κ×V)}{vs:List (κ×ag)}(r:KV kvs vs):kvs.map (·.1)=vs.map (·.1):=by
 unfold KV at r;induction r with
 |nil=>rfl
 |cons h t ih=>rw[bw,bw,ih,h.1]
theorem KV.length{kvs:List (κ×V)}{vs:List (κ×ag)}(r:KV kvs vs):kvs.length=vs.length:=Paired.length r
end
theorem rD{P:be}{k:Key}(r:RelV (kV k) u):(iH P w).is k u=true:=by
 cases k with
 |inl i=>obtain⟨t,e⟩:=(show∃t,u=gz i t from r);subst e;exact QE P w i t
 |inr x=>obtain⟨t,e⟩:=(show∃t,u=ix x t from r);subst e;exact Vn P w x t
theorem Gq{P:be}{w:cx}:∀{ks:List Key} {us:List ag},Vals (ks.map kV) us->ItemsAre (iH P w) ks us
  |[],_,r=>by rw[Ae] at r;cases r;exact .nil
  | k :: ks, _, r => by
    rw[bw] at r;cases r with
    |cons h t=>exact .cons (rD h) (Gq t)
abbrev KT(H:Hp):List (List Key×V)->List (List Key×aw×ag)->Prop:=Paired λp q=>p.1=q.1/\H q.2.1=some (.tup (p.1.map kV))/\RelV p.2 q.2.2
theorem KT.val{kvs:List (List Key×V)}{xs:List (List Key×aw×ag)}(r:KT H kvs xs)(k:List Key):iG (gV kvs k) ((xc xs k).map (·.2)):=by
  induction r with
  |nil=>exact dq
  | @cons p q ps c h t ih =>
    obtain⟨h1,_,h2⟩:=h;by_cases e:p.1=k
    · have e':q.1=k:=h1.symm.trans e
      have b:xc (q::c) k=some q.2:=by simp[xc,m8,e']
      rw[wu e,b];exact h2
    · have e':¬q.1=k:=λz=>e (h1.trans z)
      have b:xc (q::c) k=xc c k:=by simp[xc,m8,e']
      rw[uL e,b];exact ih
section
variable{P:be}{w:cx}{H:Hp}{h:ek}{a:aw}
theorem Kv{u:HO}(ok:cW P w H h)(e:Rd H a u):cA P w H h a u:=e.ok ok
theorem rO(ok:cW P w H h)(e:Rd H a (.dK kvs)):kvs.length<=sizeLine/\(a==eI)=false/\∃vs,KV kvs vs/\h.DictOf (iH P w) a vs:=
 show cA P w H h a (.dK kvs) from Kv ok e
theorem Nj(ok:cW P w H h)(e:H a=some (.dK kvs)):kvs.length<=sizeLine/\(a==eI)=false/\∃vs,KV kvs vs/\h.DictOf (iH P w) a vs:=rO ok (.inl e)
theorem AW{ks:List Key}(ok:cW P w H h)(e:H a=some (.tup (ks.map kV))):(n4 (iH P w)).is h ks a:=by
 obtain⟨_,its,r,o,h1,h2,n,h3⟩:=(show cA P w H h a (.tup (ks.map kV)) from ok a _ e);exact⟨o,its.toArray,n,h1,h2,h3,by simpa using Gq r⟩
theorem Kg{kvs:List (List Key×V)}(ok:cW P w H h)(e:Rd H a (.dT kvs)):kvs.length<=sizeLine/\(a==eI)=false/\
    ∃xs,KT H kvs xs/\h.DictOfH (n4 (iH P w)) a xs:=by
  obtain⟨z,y,xs,r,o,es,ep,h1,h2,h3,h4,h5⟩:=(show cA P w H h a (.dT kvs) from Kv ok e);refine⟨z,y,xs,r,o,es,ep,h1,h2,h3,h4,λx hx=>?_,h5⟩;have all:∀{l:List (List Key×V)} {m:List (List Key×aw×ag)},KT H l m->∀x∈m,(n4 (iH P w)).is h x.1 x.2.1:=by
    intro l m q;induction q with
    |nil=>intro x hx;exact nomatch hx
    | @cons p q ps c hq t ih =>
      intro x hx;rcases aA.mp hx with e|hx
      · subst e
        exact AW ok (by rw[<-hq.1];exact hq.2.1)
      · exact ih x hx
  exact all r x hx
end
def qt(H:Hp)(a:aw)(y:V)(r:Option V):Prop:=
 (∃kvs k,Rd H a (.dK kvs)/\y=kV k/\r=gV kvs k)\/∃kvs k b,Rd H a (.dT kvs)/\y= .ref b/\H b=some (.tup (k.map kV))/\r=gV kvs k
theorem qt.k{H:Hp}{a:aw}{kvs:List (Key×V)}{k:Key}(e:H a=some (.dK kvs)):qt H a (kV k) (gV kvs k):= .inl ⟨kvs,k, .inl e,rfl,rfl⟩
section
variable{X:Cx}{pins:List (aw×Obj)}{σ:qb}{H:Hp}{s:ar}{a:aw}{y v:V}{u r:ag}{o:Option V}{A:cC}{E:ag->ar->Prop}
theorem Inv.big(I:Inv X pins σ H s):eI<s.heap.objs.size:=by
 have h:bg<s.heap.objs.size:=(I.mod.glob.keeps I.bk).lt;exact rM ⋯ h
theorem Us(hu:A.units+1<wx)(I:Inv X pins σ H s)(g:qt H a y o)(d:RelV y u)(h:∀s',Inv X pins σ H s'->Q (.bool (!o.isSome)) s'):
  wpAny (a6 X.prog X.w) A (dy .NotIn u (.ref a)) Q E s:=by
 rcases g with ⟨kvs,k,e,ey,l⟩|⟨kvs,k,b,e,ey,eb,l⟩
 .subst ey;obtain⟨z,hd,vs,rel,dd⟩:=rO I.hok e;refine wpAny_notIn_of (rD d) hd dd.mapOf ?_;rw[<-(rel.val k).wg,<-l];exact h _ (I.tok _)
 .subst ey;cases (show u=c4 b from d);obtain⟨z,hd,xs,rel,dd⟩:=Kg I.hok e;refine wpAny_notIn_heap (tupleKind_room_in1 hu) (AW I.hok eb) hd dd ?_;have q:=(rel.val k).wg;rw[Dz] at q;rw[<-q,<-l];exact h _ (I.tok _)
theorem Ui{ob:HO}(I:Inv X pins σ H s)(d:qR (H a))(hs:eC a s.heap h')(he:∃q,h'.get? a=some q)(new:cA X.prog X.w (upd H a ob) h' a ob):
  Inv X pins σ (upd H a ob) {s with heap:=h',toks:=t'}:=
 I.write (x:=a) (e:=a) d (.inl rfl) (λb q hb z=>(hs.2 b hb).trans z) he new
theorem Rw{P:be}{vs:List (Key×ag)}(z:kvs.length<=sizeLine)(hd:(a==eI)=false)(rel:KV kvs vs)(dd:h'.DictOf (iH P w) a vs):
  cA P w H' h' a (.dK kvs):=⟨z,hd,vs,rel,dd⟩
end
theorem P4{P:be}(h:ek)(hb:eI<h.objs.size):cA P w H (h.push {cls:= .type "dict",data:= .dict #[]}) h.objs.size (.dK []):=
 ⟨eW _,beq_eq_false_iff_ne.mpr (bJ (dz hb)),[], .nil,xf h⟩
def Ir:TE:=λ_ H Q=>∀p,H p=none->Q (.ref p) (upd H p (.dK []))
section
variable{X:Cx}{pos:Pos}
theorem LO:PE X (.Dict [] [] pos) Ir:=λpins s σ H Q I h=>
 wpAny_Dict_empty ⟨.ref s.heap.objs.size,_,I.laid (a:=s.heap.objs.size) (o:= .dK []) (t':=s.toks) (λ_ _ q=>bV _ q) (aF _) (P4 s.heap I.big),rfl,h _ (I.hok.fresh (aF _))⟩
end
end L2
/-THE LAST THEOREM (shape;LID,My.*are yours):
   My.Adr:a structure of the addresses that your layer names (classes,functions);My.Txt K t:a structure (Prop) of the equations over K;
   My.txt_mk:{K} {implicit addresses ..} (e1:nsIn K bg "law"=some (some (.ref f))) (e2:K.lookup f=some ⟨oc,od, .func (fnOf "law" "law" params body scope dV kV doc pm an cdv ct),sl⟩) (e3:codeIn K cdv "law"=true) .. :∃t,My.Txt K t
(the tactic k_is has no namespace:write k_is)-/
namespace L2
section
variable{prog:be}{w:cx}{A:cC}{E:ag->ar->Prop}{s:ar}
theorem OJ{r d:aw}{P:Nat->ag->Prop}{c:ek->Prop}{Q:List ag->ar->Prop}(K:PySem.W.KdlSrc prog w T r d n P c)(O:A.handled=none)(hok:c s.heap)(hn:n<=sizeLine)
  (C:∀h' tk' items,(∀b o,s.heap.get? b=some o->h'.get? b=some o)->s.heap.objs.size<=h'.objs.size->items.length=n->(∀(i:Nat) v,items[i]?=some v->P i v)->Q items {s with heap:=h',toks:=tk'}):wpAny (a6 prog w) A (u4 (.ref r)) Q E s:=by
 obtain⟨f,ld⟩:=K.there _ hok;unfold u4;refine ae (ke (dA GK ?_));rw[oM JA _];show wpAny _ A.in1 (ui []>>=λl=>again (.builtin "list.__iadd__" ⟨[l, .ref r],[]⟩)) _ _ s;refine ae (de ?_);refine ax ⟨fo xF _,dA KD ?_⟩;rw[oM xF _];have y:(s.heap.push ({cls:= .type "list",data:= .seq ([]:List ag).toArray}:Obj)).get? s.heap.objs.size=some {cls:= .type "list",data:= .seq ([]:List ag).toArray}:=fO _ rfl;show wpAny _ A.in1 (eF (.ref s.heap.objs.size) (.ref r) (.ref s.heap.objs.size)) _ _ {s with heap:=s.heap.push ({cls:= .type "list",data:= .seq ([]:List ag).toArray}:Obj)}
 refine PySem.W.kdl_extend (A:=A) (R:=λr s'=>match r with
    | .ok (.ret v)=>wpAny (a6 prog w) A (match v with| .ref x=>(do match(<-load x).data with| .seq xs _=>pure xs.toList|_=>eD "internal:collect")|_=>eD "internal:collect") Q E s'
    | .ok _=>False
    | .error e=>E e s') (s:={s with heap:=s.heap.push ({cls:= .type "list",data:= .seq ([]:List ag).toArray}:Obj)}) K O (K.keep _ _ hok λb _ o e=>bV _ e) s.heap.objs.size (pe f) (pe ld) _ _ y (λh' tk a c' hk N g=>?_) hn
 refine ae (q5 N (ax ?_));refine C h' tk a.toList (λb o e=>hk b o (dz (bF e)) (bV _ e)) (j4 (bF N)) (by rw[cX];exact g.1) λi v e=>g.2 i v (by rw[<-iW];exact e)
end
section
variable{X:Cx}
def tT:R2:=λx y H Q=>∃a kvs k v,x= .ref a/\y=kV k/\Rd H a (.dK kvs)/\gV kvs k=some v/\Q v H
theorem Jd:kq X tT:=by
 intro value slice pins s σ H x y v u Q I rx ry h hs;obtain⟨a,kvs,k,z,rfl,rfl,O,hv,q⟩:=h;cases rx;obtain⟨hz,hd,vs,rel,dd⟩:=rO I.hok O;have hT:=dd.typeIs (s:=s);obtain⟨w',hw,c⟩:=iG.some_of (v:=z) (o:=mv vs k) (by rw[<-hv];exact rel.val k);unfold kS;refine ae ?_;rw[getitemInPython_of_ne hT.not_modules];refine ae (oL hT PySem.F.slot_dict_getitem.lookup ?_);have fin:wpAny (a6 X.prog X.w) X.A (ot slice false (.ref a) u) (λr b=>wpAny (a6 X.prog X.w) X.A (letTemporaryGo value (.ref a) r>>=λ_=>pure r) (EP X pins σ Q) X.xe b) X.xe s:=by
  rw[hs];refine wpAny_operating (wpAny_getItem_of (rD ry) dd.mapOf hw ?_);exact ae (wpAny_letTemporaryGo (ax ⟨z,H,I.tok _,c,q⟩))
 first
  |exact ax (ae fin)
  |exact ae (ax (ae fin))
  |exact ae fin
def G4:V->V->V->Hp->(Hp->Prop)->Prop:=λo i v H Q=>∃a kvs k,o= .ref a/\i=kV k/\H a=some (.dK kvs)/\kvs.length<sizeLine/\Q (upd H a (.dK (putK kvs k v)))
theorem set_dict:Bx X G4:=by
 intro pins s σ H o i v ov iv u Q I ro ri rv h;obtain⟨a,kvs,k,rfl,rfl,O,YX,q⟩:=h;cases ro;obtain⟨z,hd,vs,rel,dd⟩:=Nj I.hok O;have hz:vs.length<=sizeLine:=by rw[<-rel.length];exact z
 have hl:(putK kvs k v).length<=sizeLine:=by have:=Qs kvs k v;omega
 refine wpAny_setItem_pairs (hsz:=hz) (rD ri) dd λh' b hs=>?_;have he:∃q,h'.get? a=some q:=let ⟨q,_,_,hq,_⟩:=b;⟨q,hq⟩;exact⟨_,Ui I (by rw[O];exact dq) hs he (Rw hl hd (rel.put k rv) b),q⟩
end
theorem Oe{P:qb->Hp->Prop}(hl:gy nb H)(hd:af nb H ds vs)(r:ρ=ds.map (Sl.d false)++cj (N.length-ds.length) .no)
  (h:∀ay σ H1,Wd ⟨none,H,nb,[]⟩ ay ρ σ H1->P σ H1):P (start N vs) H:=
 Sv.jY (t:=λ_ σ H1=>P σ H1) (Φ:=λ_ _=>False) (Q:=λ_ _=>True) hl hd (λ_ _ _ _ z=>z.elim) r (λay σ H1 _ W _=>h ay σ H1 W)
noncomputable abbrev Cn:=List (Int×Int)
structure Ht(cs:Cn):Prop where
 mJ:∀c∈cs,0<=c.1/\c.1<=12/\0<=c.2/\c.2<=10^7
 nd:(cs.map (·.1)).Nodup
 len:cs.length<=14
 pos:∃c∈cs,0<c.1/\0<c.2
noncomputable def Ef:Cn->Rat->Rat
 |[],_=>0
 |c::r,v=>(if 0<c.1 then((c.1*c.2:Int):Rat)*v^(c.1.toNat-1) else 0)+Ef r v
noncomputable def KC:Cn->Int
 |[]=>0
 |c::r=>c.1*c.2+KC r
noncomputable def IS(cs:Cn)(v:Rat):Rat:=Ef cs v/(KC cs:Int)
noncomputable def NJ(l c:Cn)(s v:Rat):Rat:=s*IS l (1-IS c (1-v))
section
variable{l c:Cn}{s:Rat}(hl:Ht l)(hc:Ht c)(s0:0<=s)
include hl hc s0
end
noncomputable def IF(x:Rat):Int:= -((-x).floor)
structure Gw where
 l:Cn
 c:Cn
 s:Rat
 u:Int
noncomputable def Gw.gr(g:Gw)(x:Int):Rat:=NJ g.l g.c g.s ((x:Rat)/g.u)*g.u
noncomputable def Gw.lo(g:Gw):Nat->Int
 |0=>(g.s*g.u).floor
 |k+1=>(g.gr (g.lo k)).floor
noncomputable def Gw.hi(g:Gw):Nat->Int
 |0=>IF (g.s*g.u)
 |k+1=>IF (g.gr (g.hi k))
def VI(K:PySem.W.Frag)(n:Nat)(t:iB):TG:=λv σ H Q=>∃a xs,v= .ref a/\aO K H a xs/\xs.length=n/\t xs σ H Q
theorem Gv.lst{G:Gx}{ρ:Rh}{f:Bool}{ds:List PyData}{K:PySem.W.Frag}{Θ:Rh->Prop}{n:Nat}{u:iB}(hl:ds.length=n)(h:nD G ρ u f ds Θ):Gv G ρ (VI K n u) f (.list ds) Θ:=λnb σ H v Q W hv z=>by
 obtain⟨a,xs,rfl,m,hx,hd⟩:=hv.dN;exact⟨a,xs,rfl, .of hx,by rw[hd.length];exact hl,h nb σ H xs Q W hd z⟩
end L2
namespace L2
open PySem PySem.Spec PyProof.Rows PySem.W
section
variable{n:Nat}{cmp:Nat->Nat->(Bool->ar->Prop)->ar->Prop}{s:ar}
variable(h0:0<n)(hc:∀i j C,i<n->j<n->(∀b,C b s)->cmp i j C s)
include h0 hc
end
section
variable{n:Nat}{key:Nat->Int}{cmp:Nat->Nat->(Bool->ar->Prop)->ar->Prop}{s:ar}
variable(h0:0<n)(hc:∀i j C,i<n->j<n->C (decide (key i<key j)) s->cmp i j C s)
include h0 hc
end
end L2
namespace L2
theorem Tv.lend{t:TT}{Θ:Bool->Prop}{f:Bool}(i:Nat)(e:ρ[i]?=some (.own a f ds))(h:Tv G (ρ.set i (.d f (.list ds))) t Θ):Tv G ρ t Θ:=λnb σ H Q W z=>
 h _ σ H Q (Sv.share W e) z
noncomputable abbrev Ks:=List (Int×PyData)
noncomputable def jv(ks:Ks)(k:Int):Option PyData:=(ks.find? λp=>decide (p.1=k)).map (·.2)
noncomputable def ju(ks:Ks)(k:Int):Bool:=ks.any λp=>decide (p.1=k)
noncomputable def rz(ks:Ks)(k:Int)(d:PyData):Ks:=if ju ks k then ks.map λp=>if p.1=k then(p.1,d) else p else ks++[(k,d)]
theorem PD(ks:Ks)(k:Int):(jv ks k).isSome=ju ks k:=by
  unfold jv ju;rw[Dz];induction ks with
  |nil=>rfl
  | cons p r ih =>
    rw[m8,nH];by_cases h:p.1=k;· simp[h]
    · simp only[h,decide_false,nV];exact ih
theorem yM{ks:Ks}{k:Int}:ju ks k=true↔k∈ks.map (·.1):=by
 unfold ju;rw[wR,fk];constructor;·rintro⟨p,h1,h2⟩;exact⟨p,h1,by simpa using h2⟩
 .rintro⟨p,h1,h2⟩;exact⟨p,h1,by simpa using h2⟩
theorem qV{p:Int×PyData}{r:Ks}{k:Int}:jv (p::r) k=if p.1=k then some p.2 else jv r k:=by
 unfold jv;rw[m8];by_cases h:p.1=k<;>simp[h]
section
variable{S:aw->Prop}{H:Hp}
theorem aq.val:∀{ks:Ks} {ps:List (Key×V)} (k:Int),aq S H (ks.map iE) ps->match jv ks k with|some d=>∃v,gV ps (dh k)=some v/\ah S H d v|none=>gV ps (dh k)=none
  |[],ps,k,h=>by unfold aq at h;subst h;exact O0
  | p :: r, ps, k, h => by
    rw[bw] at h;unfold aq at h;obtain⟨q,c,rfl,h1,h2⟩:=h;unfold bX at h1;obtain⟨h3,h4⟩:=h1;have h3:q.1=dh p.1:=h3;rw[qV];have ih:=aq.val k h2;by_cases e:p.1=k
    · rw[if_pos e]
      refine⟨q.2,?_,h4⟩;rw[wu (by rw[h3,e])]
    · rw[if_neg e,uL (λz=>e (by rw[h3] at z;exact zV z))]
      exact ih
theorem aq.snoc:∀{ks:Ks} {ps:List (Key×V)} {k:Int} {d:PyData} {v:V},aq S H (ks.map iE) ps->ah S H d v->aq S H ((ks++[(k,d)]).map iE) (ps++[(dh k,v)])
  | [], ps, k, d, v, h, hd => by
    unfold aq at h;subst h;show aq S H [iE (k,d)] [(dh k,v)];unfold aq;exact⟨_,_,rfl,by unfold bX;exact⟨rfl,hd⟩,by unfold aq;rfl⟩
  | p :: r, ps, k, d, v, h, hd => by
    rw[bw] at h;unfold aq at h;obtain⟨q,c,rfl,h1,h2⟩:=h;rw[j5,bw,j5];unfold aq;exact⟨q,_,rfl,h1,aq.snoc h2 hd⟩
theorem aq.repl:∀{ks:Ks} {ps:List (Key×V)} {k:Int} {d:PyData} {v:V},aq S H (ks.map iE) ps->ah S H d v->aq S H ((ks.map λp=>if p.1=k then(p.1,d) else p).map iE) (ps.map λa=>if a.1=dh k then(a.1,v) else a)
  |[],ps,k,d,v,h,hd=>by unfold aq at h;subst h;simp only[Ae];unfold aq;rfl
  | p :: r, ps, k, d, v, h, hd => by
    rw[bw] at h;unfold aq at h;obtain⟨q,c,rfl,h1,h2⟩:=h;rw[bw,bw,bw];unfold bX at h1;obtain⟨h3,h4⟩:=h1;have h3:q.1=dh p.1:=h3;unfold aq;refine⟨_,_,rfl,?_,aq.repl h2 hd⟩;by_cases e:p.1=k
    · rw[if_pos e,if_pos (by rw[h3,e])]
      unfold bX;exact⟨h3,hd⟩
    · rw[if_neg e,if_neg (λz=>e (by rw[h3] at z;exact zV z))]
      unfold bX;exact⟨h3,h4⟩
theorem aq.any:∀{ks:Ks} {ps:List (Key×V)} (k:Int),aq S H (ks.map iE) ps->(ps.any λa=>decide (a.1=dh k))=ju ks k:=λ{ks ps} k h=>by
 rw[CL,<-PD];have:=aq.val k h;cases hv:jv ks k with
 |none=>rw[hv] at this;rw[this];rfl
 |some d=>rw[hv] at this;obtain⟨v,e,_⟩:=this;rw[e];rfl
theorem aq.put{ks:Ks}{ps:List (Key×V)}{k:Int}{v:V}(h:aq S H (ks.map iE) ps)(hd:ah S H d v):aq S H ((rz ks k d).map iE) (putK ps (dh k) v):=by
 unfold rz putK;rw[aq.any k h];split;·exact aq.repl h hd
 .exact aq.snoc h hd
theorem aq.len:∀{ks:Ks} {ps:List (Key×V)},aq S H (ks.map iE) ps->ps.length=ks.length
  |[],ps,h=>by unfold aq at h;subst h;rfl
  | p :: r, ps, h => by
    rw[bw] at h;unfold aq at h;obtain⟨q,c,rfl,_,h2⟩:=h;simp[aq.len h2]
theorem aq.keys:∀{ks:Ks} {ps:List (Key×V)},aq S H (ks.map iE) ps->ps.map (·.1)=(ks.map (·.1)).map dh
  |[],ps,h=>by unfold aq at h;subst h;rfl
  | p :: r, ps, h => by
    rw[bw] at h;unfold aq at h;obtain⟨q,c,rfl,h1,h2⟩:=h;unfold bX at h1;have h3:q.1=dh p.1:=h1.1;simp[aq.keys h2,h3]
end
def qT(G:Gx)(ρ:Rh)(te:TE)(Φ:Bool->Ks->Prop):Prop:=∀nb σ H (Q:VK),Wd G nb ρ σ H->
 (∀f a ps H' ks,Φ f ks->Step G.B H H'->H a=none->H' a=some (.dK ps)->aq (λx=>G.S nb f x\/x=a) H' (ks.map iE) ps->Q (.ref a) H')->te σ H Q
section
variable{G:Gx}{ρ bL:Rh}{Φ Ψ:Pd}{ta tb te:TE}{t:TA}{i:Nat}{f g:Bool}{d e:PyData}{ks:Ks}{K:PySem.W.Frag}{E:DE}{Θ:Bool->Ks->Prop}
theorem Wd.grow{o:HO}(W:Wd G nb ρ σ H)(s1:Step G.B H H1)(ha:H a=none)(e:H1 a=some o):Wd G (λx=>nb x\/x=a) ρ σ H1/\NB G.B a/\∀f x,G.S (λx=>nb x\/x=a) f x->(G.S nb f x\/x=a):=by
  have hN:NB G.B a:=NB.new W.ao ha;have hA:∀f x,G.S (λx=>nb x\/x=a) f x->(G.S nb f x\/x=a):=λf x z=>by
    rcases z with (z|z)|z|z|z
    · exact .inl (.inl z)
    · exact .inr z
    · exact .inl (.inr (.inl z))
    · exact .inl (.inr (.inr (.inl z)))
    · exact .inl (.inr (.inr (.inr z)))
  have W1:=W.step s1;refine⟨?_,hN,hA⟩;refine⟨W1.ao,λx n=>?_,W1.old,λx n q=>?_,W.gA,W.len,W.gB,λh m=>(((W.ez h m).fresh ha).keep (s1.but λx z=> .inl (.inr (.inr (.inl z))))).av (hA h.1),λj s e'=>?_,W.apart,W.fQ,W.dw⟩
  · rcases n with n|n
    · exact W1.live x n
    · subst n;rw[e];exact dS _
  · rcases n with n|n
    · exact W.cP x n q
    · subst n
      cases z:G.H0 x with
      |none=>rfl
      |some o=>rw[W.old x o q z] at ha;cases ha
  · obtain⟨x,e1,h⟩:=W.ok j s e'
    refine⟨x,e1,?_⟩;cases s with
    |no=>trivial
    |d f d=>obtain⟨v,e,h⟩:=h;exact⟨v,e,((h.fresh ha).keep (s1.but λx z=> .inl (.inr (.inr (.inl z))))).av (hA f)⟩
    |own c f es=>obtain⟨e,n,q,xs,hx,hd⟩:=h;exact⟨e, .inl n,q,xs,s1.1 _ _ q hx,((hd.fresh ha).keep (s1.but λx z=> .inl (.inr (.inr (.inl z))))).av (hA f)⟩
    |ao=>exact h
    |raw v=>exact h
    |bD c f es=>obtain⟨e,n,q,xs,hx,hd⟩:=h;exact⟨e, .inl n,q,xs,s1.1 _ _ q hx,((hd.fresh ha).keep (s1.but λx z=> .inl (.inr (.inr (.inl z))))).av (hA f)⟩
    | cu c =>
      obtain⟨e,n,q⟩:=h;refine⟨e,λa ha=>⟨.inl (n a ha).1,(n a ha).2⟩,c.av (hA c.f) (c.keep (.of λx o hx e=>s1.1 x o ?_ e) (c.fresh ha q))⟩;rcases hx with hx|hx
      · exact iS λz=>hx (.inl (.inr (.inr (.inl z))))
      · exact(n x hx).2
theorem M9{ps:List (Key×V)}(W:Wd G nb ρ σ H)(s1:Step G.B H H1)(ha:H a=none)(e:H1 a=some (.dK ps))(hd:aq (λx=>G.S nb f x\/x=a) H1 (ks.map iE) ps):
  Wd G (λx=>nb x\/x=a) (ρ.set i (.bD a f ks)) (σ.set i (some (.ref a))) H1:=by
 obtain⟨W2,hN,hA⟩:=W.grow s1 ha e;refine W2.set ⟨rfl, .inr rfl,hN,ps,e,hd.av (hA f)⟩ (λ_ _ _ z=>by cases z) ?_ (λx hx j t hj ht hc=>?_)
 rotate_left
 .have hx:x=a:=aN.mp hx;subst hx;rcases hc with ⟨c,z⟩|⟨c,rfl⟩
  .cases z
  .exact λz=>W.live x ((W.ok j _ ht).choose_spec.2.2.1 x z).1 ha
 rintro a' f' ds' ⟨rfl,rfl,rfl⟩ j c g cs hj hc z;subst z;obtain⟨x,e1,h1,h2,h3,ys,hy,_⟩:=W.ok j _ hc;rw[hy] at ha;cases ha
theorem Sv.LH(h:qT G ρ te λf ks=>∀a,E.nx (ρ.set i (.bD a f ks))):Sv G ρ (fP te (gc i)) E:=λnb σ H D W K=>h nb σ H _ W λf a ps H1 ks q s1 ha e hd=>K.nx _ _ _ H1 (q a) (M9 W s1 ha e hd)
theorem qT.new(h:Θ true []):qT G ρ Ir Θ:=λnb σ H Q W z p hp=>z true p [] _ [] h (.same W.ao (cF hp)) hp aT (by unfold aq;rfl)
theorem Ri{ps:List (Key×V)}{b:Ks}(W:Wd G nb ρ σ H)(e:ρ[i]?=some (.bD a f ks))(hd:aq (G.S nb g) H (b.map iE) ps):Wd G nb (ρ.set i (.bD a g b)) σ (upd H a (.dK ps)):=by
 obtain⟨x,e1,h1,h2,h3,ys,hy,_⟩:=W.ok i _ e;subst h1;have hil:i<ρ.length:=(bH.mp e).1;have W0:Wd G nb (ρ.set i .no) (σ.set i (some (.ref a))) H:=W.set trivial λ_ _ _ z=>by cases z
 have W1:Wd G nb (ρ.set i .no) (σ.set i (some (.ref a))) (upd H a (.dK ps)):=W0.write h2 h3 (λj c d cs hc z=>by
   subst z;have hij:i≠j:=λz=>by subst z;rw[cD hil] at hc;cases hc
   rw[bu hij] at hc;obtain⟨_,_,_,_,_,ps,hp,_⟩:=W.ok j _ hc;rw[hy] at hp;cases hp) (λj c d cs hc=>by
   by_cases hij:i=j;·subst hij;rw[cD hil] at hc;cases hc
   .rw[bu hij] at hc;exact(W.fQ i j _ _ _ _ _ _ hij e hc).symm) (λj c hc z=>by
   have hij:i≠j:=λz=>by subst z;rw[cD hil] at hc;cases hc
   rw[bu hij] at hc;exact W.dw j i c _ (bJ hij) hc e a z (aN.mpr rfl))
 have W2:=W1.set (i:=i) (s:= .bD a g b) (x:=some (.ref a)) ⟨rfl,h2,h3,ps,aT,hd.keep (aP.set (.inl h2))⟩ (λ_ _ _ z=>by cases z) (by
  rintro a' d ds' ⟨rfl,rfl,rfl⟩ j c g' cs hj hc;rw[bu (bJ hj)] at hc;exact W.fQ i j _ _ _ _ _ _ (bJ hj) e hc) (λx hx j t hj ht hc z=>by
  rw[bu (bJ hj)] at ht;have hx:x=a:=aN.mp hx;subst hx;rcases hc with ⟨c,q⟩|⟨c,rfl⟩
  .cases q
  .exact W.dw j i c _ hj ht e x z (aN.mpr rfl))
 rw[jx,jx] at W2;have:σ.set i (some (.ref a))=σ:=by
  apply lD;intro j;by_cases hij:i=j;·subst hij;rw[cD (by rw[W.len];exact hil),e1]
  .rw[bu hij]
 rwa[this] at W2
theorem Sv.FL(e:ρ[i]?=some (.bD a f ks))(h:Ev G ρ te λg d=>Ev G ρ tb λ_ y=>∃k,y= .int k/\ks.length<10000/\E.nx (ρ.set i (.bD a (f && g) (rz ks k d)))):Sv G ρ (fP te (nU (bz i) tb G4)) E:=λnb σ H D W KK=>
 h nb σ H _ W λg v H1 d q s1 hv=>by
  obtain⟨x,e1,h1,h2,h3,ps,hp,hd⟩:=(W.step s1).ok i _ e;subst h1;refine⟨.ref a,e1,q nb σ H1 _ (W.step s1) λg' u H2 y ⟨k,m,hl,p⟩ s2 hu=>?_⟩;subst m;have W2:=(W.step s1).step s2;have hlen:=hd.len;refine⟨a,ps, .inl k,rfl,hu.cz,s2.1 _ _ h3 hp,eG (by rw[hlen];exact hl) ⋯,KK.nx nb _ _ _ p (Ri W2 e ?_)⟩;exact aq.put ((hd.keep s2.c9).av (bM (λz=>(eZ _ _▸z).1) λ_ z=>z)) ((hv.keep s2.c9).av (bM (λz=>(eZ _ _▸z).2) λ_ z=>z))
namespace Ev
theorem JI(e:ρ[i]?=some (.bD a f ks))(h:Ev G ρ tb λ_ y=>∃k,y= .int k/\∃d,jv ks k=some d/\Φ f d):Ev G ρ (dG tT (bz i) tb) Φ:=λnb σ H Q W z=>by
 obtain⟨x,e1,h1,h2,h3,ps,hp,hd⟩:=W.ok i _ e;subst h1;refine⟨.ref a,e1,h nb σ H _ W λg w H1 y ⟨k,m,d,hv,p⟩ s1 hw=>?_⟩;subst m;have:=aq.val k (hd.keep s1.c9);rw[hv] at this;obtain⟨v,b,c⟩:=this;exact⟨a,ps, .inl k,v,rfl,hw.cz, .inl (s1.1 _ _ h3 hp),b,z f _ H1 _ p s1 c⟩
end Ev
end
def zp(b:Bool):R2:=λx y H Q=>∃a o,y= .ref a/\qt H a x o/\Q (.bl (o.isSome !=b)) H
theorem K7(hu:X.A.units+64<wx):dR X (dy .NotIn) (zp true):=by
 intro pins s σ H x y v u Q I rx ry h;obtain⟨a,o,rfl,g,q⟩:=h;cases ry;exact Us ∅ I g rx λs' b=>⟨.bl (!o.isSome),H,b,rfl,by simpa using q⟩
section
variable{G:Gx}{ρ:Rh}{Φ:Pd}{ta tb te:TE}{i:Nat}{f:Bool}{ks:Ks}{K:PySem.W.Frag}{E:DE}
theorem Ev.Gu{b:Bool}(e:ρ[i]?=some (.bD a f ks))(h:Ev G ρ ta λ_ y=>∃k,y= .int k/\Φ true (.bool (ju ks k !=b))):Ev G ρ (dG (zp b) ta (bz i)) Φ:=λnb σ H Q W z=>
 h nb σ H _ W λg w H1 y ⟨k,m,p⟩ s1 hw=>by
  obtain⟨x,e1,h1,h2,h3,ps,hp,hd⟩:=(W.step s1).ok i _ e;subst h1 m;refine⟨.ref a,e1,a,_,rfl,by rw[hw.cz];exact qt.k (k:= .inl k) hp,?_⟩;have:(gV ps (dh k)).isSome=ju ks k:=by rw[<-CL];exact aq.any k hd
  rw[this];exact z true _ H1 _ p s1 (.bl _)
end
structure Wc(n:Int)(cs:List aC):Prop where
 n0:1<=n
 n1:n<=10
 c0:cs≠[]
 c1:cs.length<=8
 ok:∀prs∈cs,prs≠[]/\prs.length<=4/\(prs.map (·.1)).Pairwise (· < ·)/\∀pr∈prs,0<=pr.1/\pr.1<n
section
variable{n:Int}{cs:List aC}(h:Wc n cs)
include h
end
theorem Tn{xs ys:List (Key×V)}(h:Rd H a (.dK xs))(g:Rd H a (.dK ys)):xs=ys:=by
 rcases h with h|⟨o,h⟩<;>rcases g with g|⟨u,g⟩<;>rw[h] at g<;>cases g<;>rfl
theorem sN.fn:∀{d e:PyData} {k:Key},sN d k->sN e k->d=e
  | .int i, e, k, h, g => by
    have h:k= .inl i:=h;cases e<;>first|exact g.elim|(have g:k=_:=g;rw[h] at g;injection g with g;subst g;rfl)|(have g:k=_:=g;rw[h] at g;cases g)
  | .str i, e, k, h, g => by
    have h:k= .inr i:=h;cases e<;>first|exact g.elim|(have g:k=_:=g;rw[h] at g;injection g with g;subst g;rfl)|(have g:k=_:=g;rw[h] at g;cases g)
  | .none,_,_,h,_=>h.elim
  | .bool _,_,_,h,_=>h.elim
  | .list _,_,_,h,_=>h.elim
  | .tuple _,_,_,h,_=>h.elim
  | .dict _,_,_,h,_=>h.elim
mutual
theorem ah.fn{S S':aw->Prop}{H:Hp}:∀{d e:PyData} {v:V},ah S H d v->ah S' H e v->d=e
  | .none, e, v, h, g => by
    unfold ah at h;subst h;cases e<;>unfold ah at g<;>first|rfl|(cases g;done)|(obtain⟨_,_,z,_⟩:=g;cases z)
  | .bool b, e, v, h, g => by
    unfold ah at h;subst h;cases e<;>unfold ah at g<;>first|(cases g;done)|(cases g;rfl)|(obtain⟨_,_,z,_⟩:=g;cases z)
  | .int b, e, v, h, g => by
    unfold ah at h;subst h;cases e<;>unfold ah at g<;>first|(cases g;done)|(cases g;rfl)|(obtain⟨_,_,z,_⟩:=g;cases z)
  | .str b, e, v, h, g => by
    unfold ah at h;subst h;cases e<;>unfold ah at g<;>first|(cases g;done)|(cases g;rfl)|(obtain⟨_,_,z,_⟩:=g;cases z)
  | .list ds, e, v, h, g => by
    unfold ah at h;obtain⟨a,xs,rfl,n,hx,hd⟩:=h;cases e<;>unfold ah at g<;>first|(cases g;done)|skip
    all_goals (obtain⟨u,l,z,c,M,j⟩:=g;cases z)
    all_goals first
      |(rcases M with M|⟨o,M⟩<;>rw[hx] at M<;>cases M;done)
      |(rw[hx] at M;cases M;done)
      |(rw[hx] at M;cases M;rw[af.fn hd j])
  | .tuple ds, e, v, h, g => by
    unfold ah at h;obtain⟨a,xs,rfl,n,hx,hd⟩:=h;cases e<;>unfold ah at g<;>first|(cases g;done)|skip
    all_goals (obtain⟨u,l,z,c,M,j⟩:=g;cases z)
    all_goals first
      |(rcases M with M|⟨o,M⟩<;>rw[hx] at M<;>cases M;done)
      |(rw[hx] at M;cases M;done)
      |(rw[hx] at M;cases M;rw[af.fn hd j])
  | .dict ds, e, v, h, g => by
    unfold ah at h;obtain⟨a,xs,rfl,n,hx,hd⟩:=h;cases e<;>unfold ah at g<;>first|(cases g;done)|skip
    all_goals (obtain⟨u,l,z,c,M,j⟩:=g;cases z)
    all_goals first
      |(rcases hx with hx|⟨o,hx⟩<;>rw[hx] at M<;>cases M;done)
      |(rw[aq.fn hd (by rw[Tn hx M];exact j)])
  termination_by structural d=>d
theorem af.fn{S S':aw->Prop}{H:Hp}:∀{ds es:List PyData} {vs:List V},af S H ds vs->af S' H es vs->ds=es
  | [], es, vs, h, g => by
    unfold af at h;subst h;cases es with
    |nil=>rfl
    |cons e es=>unfold af at g;obtain⟨_,_,z,_⟩:=g;cases z
  | d :: ds, es, vs, h, g => by
    unfold af at h;obtain⟨y,ys,rfl,h1,h2⟩:=h;cases es with
    |nil=>unfold af at g;cases g
    | cons e es =>
      unfold af at g;obtain⟨a,b,z,g1,g2⟩:=g;cases z;rw[ah.fn h1 g1,af.fn h2 g2]
  termination_by structural ds=>ds
theorem aq.fn{S S':aw->Prop}{H:Hp}:∀{ds es:List (PyData×PyData)} {vs:List (Key×V)},aq S H ds vs->aq S' H es vs->ds=es
  | [], es, vs, h, g => by
    unfold aq at h;subst h;cases es with
    |nil=>rfl
    |cons e es=>unfold aq at g;obtain⟨_,_,z,_⟩:=g;cases z
  | d :: ds, es, vs, h, g => by
    unfold aq at h;obtain⟨y,ys,rfl,h1,h2⟩:=h;cases es with
    |nil=>unfold aq at g;cases g
    | cons e es =>
      unfold aq at g;obtain⟨a,b,z,g1,g2⟩:=g;cases z;rw[bX.fn h1 g1,aq.fn h2 g2]
  termination_by structural ds=>ds
theorem bX.fn{S S':aw->Prop}{H:Hp}:∀{d e:PyData×PyData} {v:Key×V},bX S H d v->bX S' H e v->d=e
  | (k, d), (k', e), v, h, g => by
    unfold bX at h g;rw[sN.fn h.1 g.1,ah.fn h.2 g.2]
  termination_by structural d=>d
end
mutual
theorem ah.out{S:aw->Prop}{H:Hp}{c:aw}{D:PyData}(hc:ah S H D (.ref c)):∀{d:PyData} {v:V},sizeOf d<sizeOf D->ah S H d v->ah (λx=>S x\/x=c) H d v
  | .none,_,_,h=>by unfold ah at h⊢;exact h
  | .bool _,_,_,h=>by unfold ah at h⊢;exact h
  | .int _,_,_,h=>by unfold ah at h⊢;exact h
  | .str _,_,_,h=>by unfold ah at h⊢;exact h
  | .list ds, v, hs, h => by
    have h0:=h;unfold ah at h⊢;obtain⟨a,xs,rfl,n,hx,hd⟩:=h;refine⟨a,xs,rfl,λz=>z.elim n λz=>?_,hx,af.out hc (by simp at hs;omega) hd⟩;subst z;rw[ah.fn hc h0] at hs;exact absurd hs (jk _)
  | .tuple ds, v, hs, h => by
    have h0:=h;unfold ah at h⊢;obtain⟨a,xs,rfl,n,hx,hd⟩:=h;refine⟨a,xs,rfl,λz=>z.elim n λz=>?_,hx,af.out hc (by simp at hs;omega) hd⟩;subst z;rw[ah.fn hc h0] at hs;exact absurd hs (jk _)
  | .dict ds, v, hs, h => by
    have h0:=h;unfold ah at h⊢;obtain⟨a,xs,rfl,n,hx,hd⟩:=h;refine⟨a,xs,rfl,λz=>z.elim n λz=>?_,hx,aq.out hc (by simp at hs;omega) hd⟩;subst z;rw[ah.fn hc h0] at hs;exact absurd hs (jk _)
theorem af.out{S:aw->Prop}{H:Hp}{c:aw}{D:PyData}(hc:ah S H D (.ref c)):∀{ds:List PyData} {vs:List V},sizeOf ds<sizeOf D->af S H ds vs->af (λx=>S x\/x=c) H ds vs
  |[],_,_,h=>by unfold af at h⊢;exact h
  | d :: ds, _, hs, h => by
    unfold af at h⊢;obtain⟨y,ys,e,h1,h2⟩:=h;exact⟨y,ys,e,ah.out hc (by simp at hs;omega) h1,af.out hc (by simp at hs;omega) h2⟩
theorem aq.out{S:aw->Prop}{H:Hp}{c:aw}{D:PyData}(hc:ah S H D (.ref c)):∀{ds:List (PyData×PyData)} {vs:List (Key×V)},sizeOf ds<sizeOf D->aq S H ds vs->aq (λx=>S x\/x=c) H ds vs
  |[],_,_,h=>by unfold aq at h⊢;exact h
  | d :: ds, _, hs, h => by
    unfold aq at h⊢;obtain⟨y,ys,e,h1,h2⟩:=h;exact⟨y,ys,e,bX.out hc (by simp at hs;omega) h1,aq.out hc (by simp at hs;omega) h2⟩
theorem bX.out{S:aw->Prop}{H:Hp}{c:aw}{D:PyData}(hc:ah S H D (.ref c)):∀{d:PyData×PyData} {v:Key×V},sizeOf d<sizeOf D->bX S H d v->bX (λx=>S x\/x=c) H d v
  | (k, d), _, hs, h => by
    unfold bX at h⊢;exact⟨h.1,ah.out hc (by simp at hs;omega) h.2⟩
end
def kQ(G:Gx)(ρ:Rh)(te:TE)(Φ:PyData->Prop):Prop:=∀nb σ H (Q:VK),Wd G nb ρ σ H->(∀v H' d,Φ d->Step G.B H H'->ah (λa=>H a≠none) H' d v->Q v H')->te σ H Q
section
variable{G:Gx}{ρ:Rh}{ta tb te:TE}{t:TA}{E:DE}{i j k m:Nat}{f:Bool}{K:PySem.W.Frag}{Φ:PyData->Prop}
theorem Wd.Hf(W:Wd G nb ρ σ H)(s:Step G.B H H1)(h:H a≠none):H1 a≠none:=λe=>h (W.none_of s e)
theorem kQ.iT{F:DF}(hm:dJ F)(e:ρ[i]?=some .ao)(h:Av G ρ t λes=>es.length+1=n/\F (es.map (·.2)) λf d=>f=true/\Φ d):kQ G ρ (fN (dM n F) [] E0 (aX (bz i) t)) Φ:=λnb σ H Q W z=>by
 obtain⟨b,l,M,e1,B⟩:=W.xE e;refine⟨.ref b,e1,h nb σ H _ W λes vs H1 ⟨hl,p⟩ s1 J=>?_⟩;have W1:=W.step s1;show dM n F ((V.ref b::vs)++[]) H1 Q E0;rw[ic];have hb:∀f,G.S nb f b:=λf=> .inr (.inr (.inl λn=>n b l M rfl));refine⟨by rw[eY,J.len,hl],b,l,vs,G.S nb (jb es),es.map (·.2),rfl,W1.ao b l M,W1.fL,hb _,J.all λz=>z,hm _ _ _ p λf d ⟨hf,hp⟩ v H' bt c hd=>z v H' d hp (s1.trans (.vM M bt c)) (hd.av λa q=>?_)⟩;exact .inr ⟨hf,W.Hf s1 q⟩
theorem Wd.Px{c:aw}(W:Wd G nb ρ σ H)(s1:Step G.B H H1)(h:ah (λa=>H a≠none) H1 (.list ds) (.ref c)):
  Wd G (λx=>nb x\/x=c) (ρ.set i (.own c true ds)) (σ.set i (some (.ref c))) H1:=by
 have h0:=h;obtain⟨c',xs,e,n,hx,hd⟩:=h.dN;cases e;have hc:H c=none:=iS λz=>n z;refine Sv.A8 W s1 hc hx ((af.out h0 (by simp) hd).av λx z=>?_);rcases z with z|z
 .exact .inl (W.fL x z)
 .exact .inr z
theorem kQ.Rv(h:kQ G ρ te λd=>∃ds,d= .list ds/\Θ true ds):au G ρ te Θ:=λnb σ H Q W z=>
 h nb σ H _ W λv H' d ⟨ds,e,p⟩ st hd=>by
  subst e;have h0:=hd;obtain⟨c,xs,rfl,n,hx,D⟩:=hd.dN;have hc:H c=none:=iS λz=>n z;refine z true c xs H' ds p st hc hx ((af.out h0 (by simp) D).av λx z=>?_);rcases z with z|z
  .exact .inl (W.fL x z)
  .exact .inr z
end
noncomputable def UI(lV:List Int)(prs:aC):Nat:=(prs.filter λpr=>decide (pr.1∈lV)).length
noncomputable def Ek(cs:List aC)(lV:List Int):Bool:=cs.all λprs=>decide (UI lV prs≠1)
structure FO(cs:List aC)(lV g:List Int):Prop where
 sub:∃q:Int->Bool,g=lV.filter q
 out:Ek cs g=true
 max:∀T:List Int,(∀x∈T,x∈lV)->Ek cs T=true->∀x∈T,x∈g
theorem FO.mem{lV g:List Int}(h:FO cs lV g):∀x∈g,x∈lV:=λx hx=>by
 obtain⟨q,e⟩:=h.sub;rw[e] at hx;exact(lM.mp hx).1
noncomputable def ET(row:List Int):Int:=match row.getLast? with|none=>0|some l=>l+1
noncomputable def Ql(n:Int)(a:List Int):List Int:=(bp (n-ET a).toNat).map λ(i:Nat)=>ET a+(i:Int)
noncomputable def ext(n:Int)(a:List Int):List (List Int):=(Ql n a).map λp=>a++[p]
theorem Ed{c:Type}{φ:α->c}{F G:List c}(h:F.Perm G):∀xs:List α,G=xs.map φ->∃ys:List α,F=ys.map φ/\ys.Perm xs:=by
  induction h with
  |nil=>intro xs e;exact⟨[],rfl,by cases xs<;>first|exact .nil|cases e⟩
  | cons x _ ih =>
    intro xs e;cases xs with
    |nil=>cases e
    | cons a xs =>
      obtain⟨e1,e2⟩:=sD e;obtain⟨ys,e3,p⟩:=ih xs e2;exact⟨a::ys,by rw[e3,e1];rfl,p.cons a⟩
  | swap x y l =>
    intro xs e
    match xs,e with
    | a :: b :: xs, e =>
      obtain⟨e1,e2⟩:=sD e;obtain⟨e3,e4⟩:=sD e2;exact⟨b::a::xs,by rw[e1,e3,e4];rfl, .swap a b xs⟩
  | trans _ _ d f =>
    intro xs e;obtain⟨ys,e1,j⟩:=f xs e;obtain⟨zs,e2,p2⟩:=d ys e1;exact⟨zs,e2,p2.trans j⟩
section
variable{G:Gx}{ρ:Rh}{Φ:Pd}{t:TA}{te:TE}
theorem Sv.Yl{E:DE}(h:kQ G ρ te λd=>(∃ds,d= .list ds/\∀a,E.nx (ρ.set i (.own a true ds)))\/(fU d=true/\E.nx (ρ.set i (.d true d)))):Sv G ρ (fP te (gc i)) E:=λnb σ H D W K=>
 h nb σ H _ W λv H1 d hd st hv=>by
  rcases hd with ⟨ds,rfl,q⟩|⟨hs,q⟩
  .have h0:=hv;obtain⟨c,xs,rfl,_⟩:=hv.dN;exact K.nx _ _ _ _ (q c) (Wd.Px (i:=i) W st h0)
  .exact K.nx nb _ _ _ q ((W.step st).n5 (i:=i) (f:=true) (hv.fF hs))
theorem Sv.clear{E:DE}{f:Bool}{K:PySem.W.Frag}(e:ρ[i]?=some (.own a f ds))(h:E.nx (ρ.set i (.own a true []))):Sv G ρ (o8 (xy K "list" Ba (bz i))) E:=λnb σ H D W KK=>by
 obtain⟨x,e1,h1,h2,h3,xs,hx,hd⟩:=W.ok i _ e;subst h1;exact⟨.ref a,e1, .inl ⟨rfl,_,aO.of hx⟩,a,xs,rfl,rfl,hx,KK.nx nb _ _ _ h (Sv.DQ W e .nil)⟩
end
noncomputable def gI(r:List Int)(i:Nat):Int:=r.getD i 0
noncomputable def co(prs:aC)(j:Nat):Int:=(prs.map λpr=>if pr.1.toNat=j then pr.2 else 0).sum
def oV(p:Int)(m:Nat)(prs:aC):Prop:=(prs.map (·.1)).Nodup/\prs.length<=1000/\∀pr∈prs,0<=pr.1/\pr.1<m/\1<=pr.2/\pr.2<p
theorem jz{P:(aw->Prop)->Prop}{H:Hp}(Y:∀{S S':aw->Prop},(∀a,S' a->S a)->P S->P S')(hf:∀{S:aw->Prop} {p:aw},H p=none->P S->P λa=>S a\/a=p):∀{L:List aw} {S:aw->Prop},(∀a∈L,H a=none)->P S->P λa=>S a\/a∈L
 |[],S,_,h=>Y (λa z=>z.elim (λz=>z) λz=>by cases z) h
 | p :: L, S, hL, h => Y (λa z => by
   rcases z with z|z
   .exact .inl (.inl z)
   .rcases aA.mp z with z|z
    .exact .inr z
    .exact .inl (.inr z)) (hf (hL p (bY ..)) (jz Y hf (L:=L) (λa m=>hL a (bA _ m)) h))
section
variable{G:Gx}{ρ:Rh}{nb:aw->Prop}{σ:qb}{H H1:Hp}{i:Nat}{L:List aw}{c c':Cu}{f:Bool}{d:PyData}{p:aw}{o:HO}{E:DE}
theorem Wd.qp(W:Wd G nb ρ σ H)(s1:Step G.B H H1)(ha:∀a∈L,H a=none)(e:∀a∈L,H1 a≠none):Wd G (λx=>nb x\/x∈L) ρ σ H1/\(∀a∈L,NB G.B a)/\∀f x,G.S (λx=>nb x\/x∈L) f x->(G.S nb f x\/x∈L):=by
  have hN:∀a∈L,NB G.B a:=λa m=>NB.new W.ao (ha a m);have hA:∀f x,G.S (λx=>nb x\/x∈L) f x->(G.S nb f x\/x∈L):=λf x z=>by
    rcases z with (z|z)|z|z|z
    · exact .inl (.inl z)
    · exact .inr z
    · exact .inl (.inr (.inl z))
    · exact .inl (.inr (.inr (.inl z)))
    · exact .inl (.inr (.inr (.inr z)))
  have W1:=W.step s1;have K:∀{S:aw->Prop} {d:PyData} {v:V},ah S H d v->ah (λa=>S a\/a∈L) H d v:=λ{S d v} h=>jz (P:=λS=>ah S H d v) (λz h=>ah.av z h) (λhp h=>ah.fresh hp h) ha h;have D:∀{S:aw->Prop} {d:List PyData} {v:List V},af S H d v->af (λa=>S a\/a∈L) H d v:=λ{S d v} h=>jz (P:=λS=>af S H d v) (λz h=>af.av z h) (λhp h=>af.fresh hp h) ha h;have r:∀{S:aw->Prop} {d:List (PyData×PyData)} {v:List (Key×V)},aq S H d v->aq (λa=>S a\/a∈L) H d v:=λ{S d v} h=>jz (P:=λS=>aq S H d v) (λz h=>aq.av z h) (λhp h=>aq.fresh hp h) ha h;have t:∀{S:aw->Prop} {d:HD} {v:V},fW S H d v->fW (λa=>S a\/a∈L) H d v:=λ{S d v} h=>jz (P:=λS=>fW S H d v) (λz h=>fW.av h z) (λhp h=>fW.fresh h hp) ha h;refine⟨?_,hN,hA⟩;refine⟨W1.ao,λx n=>?_,W1.old,λx n q=>?_,W.gA,W.len,W.gB,λh m=>((t (W.ez h m)).keep (s1.but λx z=> .inl (.inr (.inr (.inl z))))).av (hA h.1),λj s e'=>?_,W.apart,W.fQ,W.dw⟩
  · rcases n with n|n
    · exact W1.live x n
    · exact e x n
  · rcases n with n|n
    · exact W.cP x n q
    · cases z:G.H0 x with
      |none=>rfl
      |some o=>have:=ha x n;rw[W.old x o q z] at this;cases this
  · obtain⟨x,e1,h⟩:=W.ok j s e'
    refine⟨x,e1,?_⟩;cases s with
    |no=>trivial
    |d f d=>obtain⟨v,e,h⟩:=h;exact⟨v,e,((K h).keep (s1.but λx z=> .inl (.inr (.inr (.inl z))))).av (hA f)⟩
    |own c f es=>obtain⟨e,n,q,xs,hx,hd⟩:=h;exact⟨e, .inl n,q,xs,s1.1 _ _ q hx,((D hd).keep (s1.but λx z=> .inl (.inr (.inr (.inl z))))).av (hA f)⟩
    |ao=>exact h
    |raw v=>exact h
    |bD c f es=>obtain⟨e,n,q,xs,hx,hd⟩:=h;exact⟨e, .inl n,q,xs,s1.1 _ _ q hx,((r hd).keep (s1.but λx z=> .inl (.inr (.inr (.inl z))))).av (hA f)⟩
    | cu c =>
      obtain⟨e,n,q⟩:=h;refine⟨e,λa ha=>⟨.inl (n a ha).1,(n a ha).2⟩,c.av (hA c.f) (c.keep (.of λx o hx e=>s1.1 x o ?_ e) (jz (P:=λS=>c.P S H) (λz h=>c.av z h) (λhp h=>c.fresh hp h) ha q))⟩;rcases hx with hx|hx
      · exact iS λz=>hx (.inl (.inr (.inr (.inl z))))
      · exact(n x hx).2
theorem nG.sj{x:Option V}{s:Sl}(h:nG G nb H x s):∀a∈s.adr,nb a/\NB G.B a:=by
 cases s with
 |own a f ds=>intro x hx;rw[aN.mp hx];exact⟨h.2.1,h.2.2.1⟩
 |bD a f ds=>intro x hx;rw[aN.mp hx];exact⟨h.2.1,h.2.2.1⟩
 |cu c=>exact h.2.1
 |no=>intro _ z;cases z
 |d _ _=>intro _ z;cases z
 |ao=>intro _ z;cases z
 |raw _=>intro _ z;cases z
theorem Wd.E5(W:Wd G nb ρ σ H)(s1:Step G.B H H1)(ha:∀a∈c.F,H a=none)(e:∀a∈c.F,H1 a≠none)(Y:c.P (λx=>G.S nb c.f x\/x∈c.F) H1):Wd G (λx=>nb x\/x∈c.F) (ρ.set i (.cu c)) (σ.set i (some c.v)) H1:=by
 obtain⟨W2,hN,hA⟩:=W.qp s1 ha e;refine W2.set ⟨rfl,λa m=>⟨.inr m,hN a m⟩,c.av (hA c.f) Y⟩ (λ_ _ _ z=>by cases z) (λ_ _ _ z=>by cases z) (λx hx j t hj ht hc z=>?_);obtain⟨y,e1,h⟩:=W.ok j _ ht;exact W.live x (h.sj x z).1 (ha x hx)
theorem Wd.zI(W:Wd G nb ρ σ H)(e:ρ[i]?=some (.cu c))(hp:p∈c.F)(hv:c'.v=c.v)(I:∀a∈c'.F,a∈c.F)(h:c'.P (G.S nb c'.f) (upd H p o)):Wd G nb (ρ.set i (.cu c')) σ (upd H p o):=by
 obtain⟨x,e1,h1,h2,h3⟩:=W.ok i _ e;subst h1;have hil:i<ρ.length:=(bH.mp e).1;have W0:Wd G nb (ρ.set i .no) (σ.set i (some c.v)) H:=W.set trivial λ_ _ _ z=>by cases z
 have A:∀(j:Nat) s,(ρ.set i .no)[j]?=some s->s≠ .no->p∉s.adr:=λj s hs hn=>by
  have hij:i≠j:=λz=>by subst z;rw[cD hil] at hs;cases hs;exact hn rfl
  rw[bu hij] at hs;exact W.dw i j c s hij e hs p hp
 have W1:Wd G nb (ρ.set i .no) (σ.set i (some c.v)) (upd H p o):=W0.write (h2 p hp).1 (h2 p hp).2 (λj a f ds hs z=>A j _ hs (by intro z;cases z) (aN.mpr z.symm)) (λj a f ds hs z=>A j _ hs (by intro z;cases z) (aN.mpr z.symm)) (λj c hs=>A j _ hs (by intro z;cases z))
 have W2:=W1.set (i:=i) (s:= .cu c') (x:=some c.v) ⟨by rw[hv],λa m=>h2 a (I a m),h⟩ (λ_ _ _ z=>by cases z) (λ_ _ _ z=>by cases z) (λx hx j t hj ht hc=>by
  rw[bu (bJ hj)] at ht;exact W.dw i j c t (bJ hj) e ht x (I x hx))
 rw[jx,jx] at W2;have:σ.set i (some c.v)=σ:=by
  apply lD;intro j;by_cases hij:i=j;·subst hij;rw[cD (by rw[W.len];exact hil),e1]
  .rw[bu hij]
 rwa[this] at W2
theorem Wd.Xf(W:Wd G nb ρ σ H)(e:ρ[i]?=some (.cu c))(h:c.P (G.S nb c.f) H->(∀a∈c.F,G.H0 a=none/\¬G.A a/\NB G.B a)->ah (G.S (λx=>nb x/\x∉c.F) f) H d c.v):Wd G (λx=>nb x/\x∉c.F) (ρ.set i (.d f d)) σ H:=by
 obtain⟨x,e1,h1,h2,h3⟩:=W.ok i _ e;subst h1;have hil:i<ρ.length:=(bH.mp e).1;have W0:Wd G nb (ρ.set i .no) (σ.set i (some c.v)) H:=W.set trivial λ_ _ _ z=>by cases z
 have W1:Wd G (λx=>nb x/\x∉c.F) (ρ.set i .no) (σ.set i (some c.v)) H:=by
  refine⟨W0.ao,λx n=>W0.live x n.1,W0.old,λx n=>W0.cP x n.1,W0.gA,W0.len,W0.gB,λh m=>(W0.ez h m).av (bM (λz=>z) λ_ z=>z.1),λj s e'=>?_,W0.apart,W0.fQ,W0.dw⟩;obtain⟨x,jU,O⟩:=W0.ok j s e';refine⟨x,jU,?_⟩;have hij:s≠ .no->i≠j:=λn z=>by subst z;rw[cD hil] at e';cases e';exact n rfl
  have ap:s≠ .no->∀a∈s.adr,a∉c.F:=λn a m z=>by
   have hij:=hij n;rw[bu hij] at e';exact W.dw i j c s hij e e' a z m
  cases s with
  |no=>trivial
  |d f d=>obtain⟨v,e,O⟩:=O;exact⟨v,e,O.av (bM (λz=>z) λ_ z=>z.1)⟩
  |own a f es=>obtain⟨e2,n,q,xs,hx,hd⟩:=O;exact⟨e2,⟨n,ap (by intro z;cases z) a (aN.mpr rfl)⟩,q,xs,hx,hd.av (bM (λz=>z) λ_ z=>z.1)⟩
  |ao=>exact O
  |raw v=>exact O
  |bD a f es=>obtain⟨e2,n,q,xs,hx,hd⟩:=O;exact⟨e2,⟨n,ap (by intro z;cases z) a (aN.mpr rfl)⟩,q,xs,hx,hd.av (bM (λz=>z) λ_ z=>z.1)⟩
  |cu c2=>obtain⟨e2,n,q⟩:=O;exact⟨e2,λa m=>⟨⟨(n a m).1,ap (by intro z;cases z) a m⟩,(n a m).2⟩,c2.av (bM (λz=>z) λ_ z=>z.1) q⟩
 have W2:=W1.n5 (i:=i) (f:=f) (d:=d) (v:=c.v) (h h3 λa m=>⟨W.cP a (h2 a m).1 (h2 a m).2,λz=>W.gA a z (W.cP a (h2 a m).1 (h2 a m).2),(h2 a m).2⟩);rw[jx,jx] at W2;have:σ.set i (some c.v)=σ:=by
  apply lD;intro j;by_cases hij:i=j;·subst hij;rw[cD (by rw[W.len];exact hil),e1]
  .rw[bu hij]
 rwa[this] at W2
end
noncomputable abbrev WR:=Int×aw×List PyData
section
variable{G:Gx}{ρ:Rh}{ta tb te tk:TE}{E:DE}{i:Nat}{f:Bool}{K:PySem.W.Frag}{Φ:Pd}{a:aw}{rows:List WR}
theorem Sv.Ry{gt:TG}{s:TS}(e:ρ[j]?=some (.own a f ds))(h:∃I:Nat->Rh->Prop,(∀i C,I i C->C[j]?=some (.own a f ds))/\I 0 ρ/\(∀i d C,ds[i]?=some d->I i C->Gv G C gt f d λg=>Sv G g s {nx:=I (i+1),rt:=E.rt,bk:=E.nx,ct:=I (i+1),rw:=E.rw})/\∀C,I ds.length C->E.nx C):
  Sv G ρ (pJ (mL K (bz j)) gt s) E:=λnb σ H D W KK=>by
 obtain⟨I,hj,h0,ht,he⟩:=h;obtain⟨x,e1,h1,h2,h3,xs,hx,hd⟩:=W.ok j _ e;subst h1;refine⟨.ref a,e1,a,rfl,⟨xs, .of hx⟩,?_⟩;refine⟨λi m σ H=>m=ds.length-i/\i<=ds.length/\∃nb C,I i C/\Wd G nb C σ H,⟨ds.length,by simp,eW _,nb,ρ,h0,W⟩,?_⟩;rintro i m σ H ⟨rfl,hi,nb,C,hI,W⟩;obtain⟨x,e1,h1,h2,h3,ys,hy,c⟩:=W.ok j _ (hj i C hI);have hl:=c.length;by_cases hlt:i<ds.length
 .refine .inr ⟨⟨ys,ys[i]'∅, .of hy,aQ _⟩,λσ H=>∃nb C,I (i+1) C/\Wd G nb C σ H,λL H' q=>⟨ds.length-(i+1),∅,rfl,hlt,q⟩,λx H' y=>?_⟩;obtain⟨e,y⟩:=y;subst e;have hx:=y ys (.of hy);obtain⟨J,M,dx⟩:=c.get (aQ hlt);rw[hx] at M;cases M
  refine ht i _ C (aQ hlt) hI nb σ _ _ _ W dx λk g q W2=>q nb k _ _ W2 ?_;exact⟨λnb ρ σ H q W=>⟨nb,ρ,q,W⟩,λnb ρ σ H q W=>KK.nx nb ρ σ H q W,λnb ρ σ H q W=>⟨nb,ρ,q,W⟩,λnb ρ σ f v H d q W hv=>KK.rt nb ρ σ f v H d q W hv,KK.rw⟩
 .have e:i=ds.length:=∅
  subst e;exact .inl ⟨⟨ys, .of hy,∅⟩,KK.nx nb C σ H (he C hI) W⟩
end
noncomputable def uI(prs:aC)(pl:Int):Option Int:=(prs.find? λpr=>decide (pr.1=pl)).map (·.2)
noncomputable def AQ(p:Int)(c:Nat):Option Int->List (Int×Int)
 |some f=>[((c:Int),sol p f 1)]
 |none=>[]
noncomputable def CG(p:Int)(cs:List aC)(pl:Int)(i:Nat):List (Int×Int):=(bp i).flatMap λc=>AQ p c (uI (cs.getD c []) pl)
theorem RN{pl:Int}{q:Int×Int}(hi:i<=cs.length)(h:q∈CG p cs pl i):∃(c:Nat) (prs:aC) (f:Int),cs[c]?=some prs/\c<i/\uI prs pl=some f/\q=((c:Int),sol p f 1):=by
  unfold CG at h;obtain⟨c,hc,hq⟩:=pR.mp h;have hc:=qX.mp hc;have e:cs[c]?=some cs[c]:=aQ ∅;rw[ko,e] at hq;cases hf:uI cs[c] pl with
  |none=>simp[AQ,hf] at hq
  | some f =>
    have hq:q∈AQ p c (uI cs[c] pl):=hq;rw[hf] at hq;exact⟨c,cs[c],f,e,hc,hf,aN.mp hq⟩
noncomputable def qM(p:Int)(cs:List aC)(ws:List Int)(pl:Int):List Int:=
 (CG p cs pl cs.length).map λq=>(ws.getD pl.toNat 0-bQ (cs.getD q.1.toNat []) (ws.map some)%p*q.2)%p
structure Df(p n:Int)(cs:List aC):Prop where
 hp:fE p
 i7:p<10^40
 n0:1<=n
 n1:n<=400
 cl:cs.length<=400
 ok:∀prs∈cs,oV p n.toNat prs
noncomputable def E8(L:List Int)(w x:Int):Bool:=decide (x≠w) && decide (L.length<2*L.count x)
noncomputable def uZ(L:List Int)(w:Int):List Int:=(L.filter (E8 L w)).take 1
noncomputable def GF(p:Int)(cs:List aC)(ws:List Int)(i:Nat):List (Int×Int×Int):=(uZ (qM p cs ws (i:Int)) (ws.getD i 0)).map λx=>((i:Int),ws.getD i 0,x)
noncomputable def sf(p:Int)(cs:List aC)(ws:List Int)(m:Nat):List (Int×Int×Int):=(bp m).flatMap (GF p cs ws)
noncomputable def brk(p:Int)(cs:List aC)(ws:List Int):Nat:=cs.countP λprs=>decide (bQ prs (ws.map some)%p≠0)
structure mU(P:be)(w:cx)(K:PySem.W.Frag)(mg:Str->Option ag)(base:ek)(C:aw)(m:Str)(k:Nat)(ps:List Str)(sp:Sp):Prop where
 cl:dX K C
 ex:∃f fd,bf P w K mg base bG k f fd ps sp/\Binds K fd ps []/\Meth K C m f
structure AH(P:be)(w:cx)(K:PySem.W.Frag)(mg:Str->Option ag)(base:ek)(C:aw)(x:Str)(k:Nat)(ps:List Str)(sp:Sp):Prop where
 ex:∃f fd,bf P w K mg base bG k f fd ps sp/\Binds K fd ps []/\Mk K C f/\mg x=some (.ref C)
section
variable{X:Cx}{C:aw}{k:Nat}{ps:List Str}{sp:Sp}{x m:Str}{p pos apos:Pos}{e o:eu}{es:List eu}{ta:TE}{t:TA}
theorem AG{pl:Sem Bool}(c:mU X.prog X.w X.K X.mg X.base C m k ps sp)(he:PE X o ta)(hr:dD k X.A)
  (ht : eval (.Call (.Attribute o m apos) [] [] pos) X.env = (do
   let ov<-eval o X.env
   standAt apos.atName
   let (f,first)<-holding [ov] (oe ov m pl)
   callWith pos f first (ij pos (cn [] X.env)) (vv pos (oi [] X.env))):=by rfl):
  PE X (.Call (.Attribute o m apos) [] [] pos) (pM C m sp [] E0 ta bK):=by
 obtain⟨f,fd,F,b,mm⟩:=c.ex;exact Oa (pl:=pl) he c.cl mm F hr b .nil wU ht
theorem RJ(c:AH X.prog X.w X.K X.mg X.base C x k ps sp)(hr:dD (k+1) X.A)(ha:PA X (e::es) t)(hg:Gl X x:=by rfl)
  (a:(x==("__debug__":Str))=false:=by decide) (he:cn (e::es) X.env=(false,eval e X.env)::cn es X.env:=by rfl) (o:(ij pos (cn es X.env)).any (·.1)=false:=by rfl):
  PE X (.Call (.Name x p) (e::es) [] pos) (CU C sp [] E0 t):=by
 obtain⟨f,fd,F,b,M,m⟩:=c.ex;exact WE M F hr hg m b .nil wU ha a he o
end
section
variable{G:Gx}{ρ:Rh}{nb:aw->Prop}{σ:qb}{H H':Hp}{i:Nat}{c c':Cu}{E:DE}
theorem Wd.xA(W:Wd G nb ρ σ H)(e:ρ[i]?=some (.cu c))(O:∀a o,a∉c.F->H a=some o->H' a=some o)(hv:c'.v=c.v)(I:∀a∈c'.F,a∈c.F\/H a=none\/(nb a/\NB G.B a/\∀(j:Nat) s,ρ[j]?=some s->a∉s.adr))(hl:∀a,a∈c.F\/a∈c'.F->H' a≠none)
    (h:c'.P (G.S (λx=>nb x\/x∈c'.F) c'.f) H'):Wd G (λx=>nb x\/x∈c'.F) (ρ.set i (.cu c')) σ H':=by
  obtain⟨Z,e1,h1,h2,h3⟩:=W.ok i _ e;subst h1;have hil:i<ρ.length:=(bH.mp e).1;obtain⟨L,C⟩:∃L,L=c'.F.filter λa=>(H a).isNone:=⟨_,rfl⟩;have ha:∀a∈L,H a=none:=λa m=>by
    rw[C,lM] at m;exact J7.mp m.2
  have J:∀a∈c'.F,nb a\/a∈L:=λa m=>by
    rcases I a m with z|z|z
    · exact .inl (h2 a z).1
    · exact .inr (by rw[C];exact lM.mpr ⟨m,J7.mpr z⟩)
    · exact .inl z.1
  have hA:∀f x,G.S (λx=>nb x\/x∈c'.F) f x->(G.S nb f x\/x∈L):=λf x z=>by
    rcases z with (z|z)|z|z|z
    · exact .inl (.inl z)
    · exact(J x z).elim (λz=> .inl (.inl z)) .inr
    · exact .inl (.inr (.inl z))
    · exact .inl (.inr (.inr (.inl z)))
    · exact .inl (.inr (.inr (.inr z)))
  have bt:∀f,aP (G.S (λx=>nb x\/x∈c'.F) f) H H':=λf a o n q=>O a o (λz=>n (.inl (.inl (h2 a z).1))) q;have K:∀{S:aw->Prop} {d:PyData} {v:V},ah S H d v->ah (λa=>S a\/a∈L) H d v:=λ{S d v} h=>jz (P:=λS=>ah S H d v) (λz h=>ah.av z h) (λhp h=>ah.fresh hp h) ha h;have D:∀{S:aw->Prop} {d:List PyData} {v:List V},af S H d v->af (λa=>S a\/a∈L) H d v:=λ{S d v} h=>jz (P:=λS=>af S H d v) (λz h=>af.av z h) (λhp h=>af.fresh hp h) ha h;have r:∀{S:aw->Prop} {d:List (PyData×PyData)} {v:List (Key×V)},aq S H d v->aq (λa=>S a\/a∈L) H d v:=λ{S d v} h=>jz (P:=λS=>aq S H d v) (λz h=>aq.av z h) (λhp h=>aq.fresh hp h) ha h;have t:∀{S:aw->Prop} {d:HD} {v:V},fW S H d v->fW (λa=>S a\/a∈L) H d v:=λ{S d v} h=>jz (P:=λS=>fW S H d v) (λz h=>fW.av h z) (λhp h=>fW.fresh h hp) ha h;have y:∀a∈c'.F,NB G.B a:=λa m=>(I a m).elim (λz=>(h2 a z).2) λz=>z.elim (λz=>NB.new W.ao z) λz=>z.2.1;have N:jB G.B H':=λb l eb=>by
    obtain⟨ns,p,c0,st,n,g1,g2,u⟩:=W.ao b l eb;have hb:b∉c.F:=λz=>(h2 b z).2 b l eb rfl;have Q:l∉c.F:=λz=>by
      obtain⟨_,_,_,_,_,_,M,_⟩:=W.gB b l eb;rw[W.cP l (h2 l z).1 (h2 l z).2] at M;cases M
    exact⟨ns,p,c0,st,n,O _ _ hb g1,O _ _ Q g2,u⟩
  have A:∀(j:Nat) s,i≠j->ρ[j]?=some s->∀a∈s.adr,a∉c.F:=λj s hij hs a m z=>W.dw i j c s hij e hs a z m;refine⟨N,λa n=>?_,λa o n q=>?_,λa n q=>?_,W.gA,by rw[iQ];exact W.len,W.gB,λh m=>((t (W.ez h m)).av (hA h.1)).keep (bt h.1),λj s e'=>?_,?_,?_,?_⟩
  · rcases n with n|n
    · by_cases z:a∈c.F
      · exact hl a (.inl z)
      · cases q:H a with
        |none=>exact absurd q (W.live a n)
        |some o=>rw[O a o z q];exact dS _
    · exact hl a (.inr n)
  · refine O a o (λz=>?_) (W.old a o n q)
    rw[W.cP a (h2 a z).1 n] at q;cases q
  · rcases n with n|n
    · exact W.cP a n q
    · rcases I a n with z|z|z
      · exact W.cP a (h2 a z).1 q
      · cases w:G.H0 a with
        |none=>rfl
        |some o=>rw[W.old a o q w] at z;cases z
      · exact W.cP a z.1 q
  · by_cases hij:i=j
    · subst hij
      rw[cD hil] at e';cases e';exact⟨some c.v,e1,by rw[hv],λa m=>⟨.inr m,y a m⟩,h⟩
    · rw[bu hij] at e'
      obtain⟨x,e2,q⟩:=W.ok j s e';refine⟨x,e2,?_⟩;have ap:=A j s hij e';cases s with
      |no=>trivial
      |d f d=>obtain⟨v,e,h⟩:=q;exact⟨v,e,((K h).av (hA f)).keep (bt f)⟩
      |own a f es=>obtain⟨e,n,q,xs,hx,hd⟩:=q;exact⟨e, .inl n,q,xs,O _ _ (ap a (aN.mpr rfl)) hx,((D hd).av (hA f)).keep (bt f)⟩
      |ao=>exact q
      |raw v=>exact q
      |bD a f es=>obtain⟨e,n,q,xs,hx,hd⟩:=q;exact⟨e, .inl n,q,xs,O _ _ (ap a (aN.mpr rfl)) hx,((r hd).av (hA f)).keep (bt f)⟩
      | cu c2 =>
        obtain⟨e,n,q⟩:=q;refine⟨e,λa ha=>⟨.inl (n a ha).1,(n a ha).2⟩,c2.keep (.of λx o hx e=>O x o ?_ e) (c2.av (hA c2.f) (jz (P:=λS=>c2.P S H) (λz h=>c2.av z h) (λhp h=>c2.fresh hp h) ha q))⟩;rcases hx with hx|hx
        · exact λz=>hx (.inl (.inl (h2 x z).1))
        · exact ap x hx
  all_goals
    intro j k
  · intro a f as c2 g cs hjk q1 M
    have hj:i≠j:=λz=>by subst z;rw[cD hil] at q1;cases q1
    have hk:i≠k:=λz=>by subst z;rw[cD hil] at M;cases M
    rw[bu hj] at q1;rw[bu hk] at M;exact W.apart j k a f as c2 g cs hjk q1 M
  · intro a f as c2 g cs hjk q1 M
    have hj:i≠j:=λz=>by subst z;rw[cD hil] at q1;cases q1
    have hk:i≠k:=λz=>by subst z;rw[cD hil] at M;cases M
    rw[bu hj] at q1;rw[bu hk] at M;exact W.fQ j k a f as c2 g cs hjk q1 M
  · intro c2 s hjk q1 M a m z
    have E:∀(j:Nat) s,i≠j->ρ[j]?=some s->∀a∈s.adr,a∉c'.F:=λj s hij hs a m z=>by
      rcases I a z with w|w|w
      · exact A j s hij hs a m w
      · obtain⟨x,_,q⟩:=W.ok j s hs
        exact W.live a (q.sj a m).1 w
      · exact w.2.2 j s hs m
    by_cases hj:i=j
    · subst hj
      rw[cD hil] at q1;cases q1;rw[bu hjk] at M;exact E k s hjk M a z m
    · rw[bu hj] at q1
      by_cases hk:i=k
      · subst hk
        rw[cD hil] at M;cases M;exact E j _ hj q1 a m z
      · rw[bu hk] at M
        exact W.dw j k c2 s hjk q1 M a m z
end
def iR(G:Gx)(ρ:Rh)(te:TE)(Φ:Rh->Pd):Prop:=∀nb σ H (Q:VK),Wd G nb ρ σ H->(∀ay C f v H' d,Φ C f d->Wd G ay C σ H'->ah (G.S ay f) H' d v->Q v H')->te σ H Q
def gR(G:Gx)(ρ:Rh)(c:TT)(Φ:Rh->Bool->Prop):Prop:=∀nb σ H (Q:Bool->Hp->Prop),Wd G nb ρ σ H->(∀ay C b H',Φ C b->Wd G ay C σ H'->Q b H')->c σ H Q
def xH(G:Gx)(ρ:Rh)(ta:TA)(Φ:Rh->List Fd->Prop):Prop:=∀nb σ H (Q:List V->Hp->Prop),Wd G nb ρ σ H->(∀ay C es vs H',Φ C es->Wd G ay C σ H'->jG G ay H' es vs->Q vs H')->ta σ H Q
section
variable{G:Gx}{ρ:Rh}{Φ:Rh->Pd}{ta tb te:TE}{t:TA}{c u:TT}{i:Nat}{E:DE}{s s':TS}
theorem iR.of(h:Ev G ρ te (Φ ρ)):iR G ρ te Φ:=λnb σ H Q W z=>h nb σ H Q W λf v H' d q st hv=>z nb ρ f v H' d q (W.step st) hv
theorem gR.of{Θ:Rh->Bool->Prop}(h:Tv G ρ c (Θ ρ)):gR G ρ c Θ:=λnb σ H Q W z=>h nb σ H Q W λb H' q st=>z nb ρ b H' q (W.step st)
theorem xH.cons{Θ:Rh->List Fd->Prop}(h:iR G ρ te λC f d=>Av G C t λes=>Θ C ((f,d)::es)):xH G ρ (aX te t) Θ:=λnb σ H Q W z=>
 h nb σ H _ W λay C f v H1 d j W1 J=>j ay σ H1 _ W1 λes vs H2 p2 s2 M=>z ay C _ _ H2 p2 (W1.step s2) ⟨v,vs,rfl,J.keep s2.c9,M⟩
theorem iR.jj{F:DF}(hm:dJ F)(h:xH G ρ t λC es=>es.length=n/\F (es.map (·.2)) λf d=>Φ C (f||jb es) d):iR G ρ (fN (cQ n F) [] E0 t) Φ:=λnb σ H Q W z=>
 h nb σ H _ W λay C es vs H1 ⟨hl,p⟩ W1 J=>by
  rw[ic];refine⟨by rw[J.len,hl],G.S ay (jb es),es.map (·.2),W1.fL,J.all λz=>z,hm _ _ _ p λf d hp v H' sm hd=>z ay C _ v H' d hp (W1.step (.same W1.ao sm)) (hd.av λa q=>?_)⟩;cases f with
  |false=>rw[nV] at q;exact .inl q
  |true=>exact .inr ⟨rfl,W1.fL a q⟩
theorem gR.t7{K:PySem.W.Frag}{Θ:Rh->Bool->Prop}(h:iR G ρ te λC _ x=>∃b,x= .bool b/\Θ C b):gR G ρ (zg K te) Θ:=λnb σ H Q W z=>
 h nb σ H _ W λay C f v H1 d ⟨b,e,q⟩ W1 hv=>by subst e;exact⟨b,by unfold ah at hv;subst hv;rfl,z ay C b H1 q W1⟩
theorem gR.or{Θ:Rh->Bool->Prop}(h:gR G ρ c λC b=>if b=true then Θ C true else gR G C u Θ):gR G ρ (CI c u) Θ:=λnb σ H Q W z=>
 h nb σ H _ W λay C b H1 q W1=>by
  cases b with
  |false=>rw[if_neg bT] at q⊢;exact q ay σ H1 _ W1 z
  |true=>rw[if_pos rfl] at q⊢;exact z ay C true H1 q W1
theorem gR.not{Θ:Rh->Bool->Prop}(h:gR G ρ c λC b=>Θ C (!b)):gR G ρ (z9 c) Θ:=λnb σ H Q W z=>h nb σ H _ W λay C b H1 q W1=>z ay C _ H1 q W1
namespace Sv
theorem SM(h:iR G ρ te λC f d=>∀nb v H,ah (G.S nb f) H d v->E.rw nb C v H):Sv G ρ (oU te) E:=λnb σ H D W K=>h nb σ H _ W λay C f v H1 d q W1 hv=>K.rw ay C σ v H1 (q ay v H1 hv) W1
theorem NC(h:gR G ρ c λC b=>if b=true then Sv G C s E else Sv G C s' E):Sv G ρ (ue c s s') E:=λnb σ H D W K=>h nb σ H _ W λay C b H1 q W1=>by
 cases b with
 |true=>rw[if_pos rfl] at q⊢;exact q ay σ H1 D W1 K
 |false=>rw[if_neg bT] at q⊢;exact q ay σ H1 D W1 K
end Sv
end
structure lN(c c':Cu)(H H':Hp):Prop where
 v:c'.v=c.v
 f:c'.f=false
 sub:∀a∈c.F,a∈c'.F
 new:∀a∈c'.F,a∈c.F\/H a=none
 kp:∀a o,a∉c.F->H a=some o->H' a=some o
 lv:∀a∈c'.F,H' a≠none
abbrev CF:=Cu->List PyData->(Cu->Pd)->Prop
def rC(F:CF):Prop:=∀c ds (Φ Ψ:Cu->Pd),F c ds Φ->(∀c f d,Φ c f d->Ψ c f d)->F c ds Ψ
def l6(n:Nat)(F:CF):Sp:=λvs H Q _=>vs.length=n/\∃(nb:aw->Prop) (c:Cu) (ws:List V) (ds:List PyData),vs=c.v::ws/\gy nb H/\(∀a∈c.F,nb a)/\c.f=false/\c.P nb H/\af nb H ds ws/\
 F c ds λc' f d=>∀v H',lN c c' H H'->c'.P (λa=>nb a\/a∈c'.F) H'->ah (λa=>nb a\/a∈c'.F\/(f=true/\H a≠none)) H' d v->Q v H'
section
variable{G:Gx}{ρ:Rh}{Φ:Rh->Pd}{ta tb te:TE}{t:TA}{i:Nat}{E:DE}{c:Cu}{C:aw}{m:Str}{n:Nat}{F:CF}
theorem iR.VX{Q:VK}{es:List Fd}(hm:rC F)(e:ρ[i]?=some (.cu c))(W1:Wd G nb ρ σ H1)(J:jG G nb H1 es vs)(hl:es.length+1=n)(b:c.f=false)(p:F c (es.map (·.2)) λc' f d=>Φ (ρ.set i (.cu c')) f d)
  (z:∀ay C f v H' d,Φ C f d->Wd G ay C σ H'->ah (G.S ay f) H' d v->Q v H'):l6 n F (c.v::(vs++[])) H1 Q E0:=by
 rw[ic];obtain⟨Z,e1,h1,h2,h3⟩:=W1.ok i _ e;refine⟨by rw[eY,J.len,hl],G.S nb false,c,vs,es.map (·.2),rfl,W1.fL,λa m=> .inl (h2 a m).1,b,by rw[b] at h3;exact h3,J.all (f:=false) (λz=>by cases z),hm _ _ _ _ p λc' f d hp v H' to Y hd=>?_⟩;refine z _ _ f v H' d hp (W1.xA (c':=c') e to.kp to.v (λa m=>(to.new a m).imp id .inl) (λa m=>m.elim (λm=>to.lv a (to.sub a m)) λm=>to.lv a m) (c'.av (λa y=>?_) Y)) (hd.av λa y=>?_)
 .rw[to.f] at y;rcases y with (y|y)|y|y|y
  .exact .inl (.inl y)
  .exact .inr y
  .exact .inl (.inr (.inl y))
  .exact .inl (.inr (.inr (.inl y)))
  .cases y.1
 .rcases y with (y|y)|y|y|y
  .exact .inl (.inl y)
  .exact .inr (.inl y)
  .exact .inl (.inr (.inl y))
  .exact .inl (.inr (.inr (.inl y)))
  .exact .inr (.inr ⟨y.1,W1.fL (f:=true) a (.inr (.inr (.inr ⟨rfl,y.2⟩)))⟩)
theorem iR.Ux(hm:rC F)(e:ρ[i]?=some (.cu c))(b:c.f=false)(hi:∀S H,c.P S H->∃a dx fs,c.v= .ref a/\H a=some (.ins C dx fs)/\fs.lookup m=none)
  (h:Av G ρ t λes=>es.length+1=n/\F c (es.map (·.2)) λc' f d=>Φ (ρ.set i (.cu c')) f d):iR G ρ (pM C m (l6 n F) [] E0 (bz i) t) Φ:=λnb σ H Q W z=>by
 obtain⟨Z,e1,h1,h2,h3⟩:=W.ok i _ e;subst h1;obtain⟨a,dx,fs,g1,g2,u⟩:=hi _ _ h3;refine⟨c.v,e1,a,dx,fs,g1,g2,u,h nb σ H _ W λes vs H1 ⟨hl,p⟩ s1 J=>?_⟩;exact iR.VX hm e (W.step s1) J hl b p z
end
noncomputable def eO(F:List aw)(H:Hp)(nb:aw->Prop):Gx:=⟨none,λa=>if a∈F then none else H a,λa=>nb a/\a∉F,[]⟩
structure nJ(c c':Cu):Prop where
 v:c'.v=c.v
 f:c'.f=false
 sub:∀a∈c.F,a∈c'.F
noncomputable def objE(G:Gx)(c:Cu)(Φ:Cu->Pd):DE where
 nx:=λρ=>∃c',ρ[0]?=some (.cu c')/\nJ c c'/\Φ c' true .none
 rt:=λ_ _=>False
 rw:=λnb ρ v H=>∃c' f d,ρ[0]?=some (.cu c')/\nJ c c'/\Φ c' f d/\ah (G.S nb f) H d v
section
variable{ρ:Rh}{t:TS}{N:List Str}{ws:List V}{ds:List PyData}{nb:aw->Prop}{H:Hp}{Q:VK}{Φ:Cu->Pd}{c:Cu}
theorem Sv.LD(hl:gy nb H)(I:∀a∈c.F,nb a)(hf:c.f=false)(Y:c.P nb H)(hd:af nb H ds ws)
    (G:∀c' f d v H',Φ c' f d->lN c c' H H'->c'.P (λa=>nb a\/a∈c'.F) H'->ah (λa=>nb a\/a∈c'.F\/(f=true/\H a≠none)) H' d v->Q v H')
    (r:ρ= .cu c::ds.map (Sl.d false)++cj (N.length-(ds.length+1)) .no) (h:Sv (eO c.F H nb) ρ t (objE (eO c.F H nb) c Φ)):t {nx:=λ_ H'=>Q .aD H',rt:=Q} (start N (c.v::ws)) H:=by
  have hlen:=hd.length;have y:∀a,NB (eO c.F H nb).B a:=λa b l e=>by cases e
  have key:∀{ay C L H' c'} {f:Bool} {d:PyData} {v:V},Wd (eO c.F H nb) ay C L H'->C[0]?=some (.cu c')->nJ c c'->Φ c' f d->ah ((eO c.F H nb).S ay f) H' d v->Q v H':=λ{ay C L H' c' f d v} W e up p hv=>by
    obtain⟨Z,e1,h1,h2,h3⟩:=W.ok 0 _ e;have u:∀(f:Bool) a,nb a\/a∈c'.F\/(f=true/\H a≠none)->(eO c.F H nb).S ay f a:=λf a z=>by
      by_cases m:a∈c'.F;· exact .inl (h2 a m).1
      have m':a∉c.F:=λz=>m (up.sub a z);rcases z with z|z|z
      · exact .inr (.inl ⟨z,m'⟩)
      · exact absurd z m
      · exact .inr (.inr (.inr ⟨z.1,by show(if a∈c.F then none else H a)≠none;rw[if_neg m'];exact z.2⟩))
    refine G c' f d v H' p ⟨up.v,up.f,up.sub,λa m=>?_,λa o n q=>?_,λa m=>W.live a (h2 a m).1⟩ (c'.av (λa z=>by rw[up.f];exact u false a (z.elim .inl λz=> .inr (.inl z))) h3) (hv.av (u f))
    · have:=W.cP a (h2 a m).1 (h2 a m).2
      by_cases z:a∈c.F;· exact .inl z
      · exact .inr (by have q:(if a∈c.F then none else H a)=none:=this;rwa[if_neg z] at q)
    · exact W.old a o (y a) (by show(if a∈c.F then none else H a)=_;rw[if_neg n];exact q)
  refine h (λa=>a∈c.F) _ H _ ⟨λ_ _ z=>(by cases z),λa z=>hl a (I a z),λa o _ e=>?_,λa z _=>by show(if a∈c.F then none else H a)=none;rw[if_pos z],λa z=>?_,?_,λ_ _ z=>(by cases z),λ_ m=>(by cases m),λi s e=>?_,?_,?_,?_⟩ ⟨λay C L H' ⟨c',e,up,p⟩ W=>key W e up p .aD,λ_ _ _ _ q _=>q.elim,λ_ _ _ _ q _=>q.elim,λ_ _ _ _ _ _ _ q _ _=>q.elim,λay C L v H' ⟨c',f,d,e,up,p,hv⟩ W=>key W e up p hv⟩
  · have e:(if a∈c.F then none else H a)=some o:=e
    by_cases z:a∈c.F;· rw[if_pos z] at e;cases e
    · rwa[if_neg z] at e
  · show(if a∈c.F then none else H a)≠none
    rw[if_neg z.2];exact hl a z.1
  · rw[r];unfold start;simp[hlen]
  · rw[r] at e
    unfold start;have av:∀a,(eO c.F H nb).S (λa=>a∈c.F) false a->nb a:=λa z=>by
      rcases z with z|z|z|z
      · exact I a z
      · exact z.1
      · exact absurd (y a) z
      · cases z.1
    cases i with
    |zero=>simp at e;subst e;exact⟨some c.v,by simp,rfl,λa m=>⟨m,y a⟩,by rw[hf];exact c.av av Y⟩
    | succ i =>
      simp only[j5,jS,bw,eY] at e⊢;by_cases hi:i<ds.length
      · rw[fG (by rw[ak];exact hi)] at e
        obtain⟨v,d,hv,rfl,q⟩:=j3 hd e;refine⟨some v,?_,v,rfl,q.av av⟩;rw[fG (by rw[ak,hlen];exact hi),cB,hv];rfl
      · rw[gb (by rw[ak];omega),fZ] at e
        split at e
        · rename_i h'
          cases e;refine⟨none,?_,trivial⟩;rw[ak] at h';rw[gb (by rw[ak];omega),fZ,if_pos (by rw[ak,hlen];exact h')]
        · cases e
  all_goals
    have sl:∀{i:Nat} {s:Sl},ρ[i+1]?=some s->s.adr=[]:=λ{i s} e1=>by
      rw[r] at e1;simp only[j5,jS] at e1;by_cases hi:i<ds.length
      · rw[fG (by rw[ak];exact hi)] at e1
        obtain⟨_,_,_,z,_⟩:=j3 hd e1;subst z;rfl
      · rw[gb (by rw[ak];omega),fZ] at e1
        split at e1;· cases e1;rfl
        · cases e1
    have s0:∀{s:Sl},ρ[0]?=some s->s= .cu c:=λ{s} e1=>by rw[r] at e1;simp at e1;exact e1.symm
  · intro i j a f as c2 g cs hij e1
    cases i with
    |zero=>cases s0 e1
    |succ i=>cases sl e1
  · intro i j a f as c2 g cs hij e1
    cases i with
    |zero=>cases s0 e1
    |succ i=>cases sl e1
  · intro i j c2 s hij e1 e2 a m
    cases i with
    | zero =>
      cases j with
      |zero=>exact absurd rfl hij
      |succ j=>rw[sl e2];exact λz=>by cases z
    | succ i =>
      have:=sl e1;rw[show Sl.adr (.cu c2)=c2.F from rfl] at this;rw[this] at m;cases m
end
theorem Kp.sub{S:aw->Prop}{F b:List aw}(k:Kp S F H H')(h:∀a∈b,a∈F):Kp S b H H':=⟨λa m=>k.own a (h a m),k.lst,k.tup,k.bD⟩
noncomputable def jd(a:aw)(ds:List PyData):Cu where
 v:= .ref a
 F:=[a]
 f:=false
 P:=λS H=>∃xs,H a=some (.lst xs)/\af S H ds xs
 keep:=λk ⟨xs,h,q⟩=>⟨xs,k.own _ (aN.mpr rfl) _ h,af.kp k q⟩
 av:=λz ⟨xs,h,q⟩=>⟨xs,h,q.av z⟩
 fresh:=λz ⟨xs,h,q⟩=>⟨xs,h,q.fresh z⟩
inductive Fl where
 |d (d:PyData)|cu (c:Cu)
noncomputable def Fl.adr:Fl->List aw
 | .d _=>[]
 | .cu c=>c.F
def ki(S:aw->Prop)(H:Hp)(v:V):Fl->Prop
 | .d d=>ah S H d v
 | .cu c=>v=c.v/\c.P S H
noncomputable abbrev Fs:=List (Str×Fl)
def bx(S:aw->Prop)(H:Hp):Fs->List (Str×V)->Prop
 |[],vs=>vs=[]
 |f::fs,vs=>∃v ws,vs=(f.1,v)::ws/\ki S H v f.2/\bx S H fs ws
noncomputable def aW(x dx:aw)(fs:Fs):List aw:=x::dx::fs.flatMap λf=>f.2.adr
theorem ki.map{S S':aw->Prop}{v:V}{fl:Fl}(h:ki S H v fl)(hd:∀d v,ah S H d v->ah S' H' d v)(hc:∀c,fl= .cu c->c.P S H->c.P S' H'):ki S' H' v fl:=by
 cases fl with
 |d d=>exact hd _ _ h
 |cu c=>exact⟨h.1,hc c rfl h.2⟩
theorem bx.map{S S':aw->Prop}{H H':Hp}:∀{fs:Fs} {vs:List (Str×V)},bx S H fs vs->(∀d v,ah S H d v->ah S' H' d v)->(∀f∈fs,∀c,f.2= .cu c->c.P S H->c.P S' H')->bx S' H' fs vs
 |[],_,h,_,_=>h
 |f::fs,_,⟨v,ws,e,h1,h2⟩,hd,hc=>⟨v,ws,e,h1.map hd (hc f (bY ..)),bx.map h2 hd λg m=>hc g (bA _ m)⟩
theorem Lb{x:aw}{fs:Fs}{f:Str×Fl}(h:f∈fs){a:aw}(m:a∈f.2.adr):a∈aW x dx fs:=bA _ (bA _ (pR.mpr ⟨f,h,m⟩))
noncomputable def aR(C x dx:aw)(fs:Fs):Cu where
 v:= .ref x
 F:=aW x dx fs
 f:=false
 P:=λS H=>(aW x dx fs).Nodup/\H dx=some (.own x)/\fs.length<=900/\∃vs,H x=some (.ins C dx vs)/\bx S H fs vs
 keep:=λk ⟨n,h,l,vs,q,r⟩=>⟨n,k.own _ (by simp[aW]) _ h,l,vs,k.own _ (by simp[aW]) _ q,r.map (λd v z=>ah.kp k z) λf m c e z=>c.keep (k.sub λa y=>Lb m (by rw[e];exact y)) z⟩
 av:=λz ⟨n,h,l,vs,q,r⟩=>⟨n,h,l,vs,q,r.map (λd v y=>y.av z) λf m c e y=>c.av z y⟩
 fresh:=λz ⟨n,h,l,vs,q,r⟩=>⟨n,h,l,vs,q,r.map (λd v y=>y.fresh z) λf m c e y=>c.fresh z y⟩
theorem bx.get{S:aw->Prop}{H:Hp}{f:Str}{fl:Fl}:∀{fs:Fs} {vs:List (Str×V)},bx S H fs vs->fs.lookup f=some fl->∃v,vs.lookup f=some v/\ki S H v fl
  |[],_,h,e=>by simp at e
  | (g, x) :: fs, _, ⟨v, ws, e, h1, h2⟩, q => by
    subst e;rw[aZ] at q⊢;cases hb:(f==g) with
    |true=>rw[hb] at q;cases q;exact⟨v,rfl,h1⟩
    |false=>rw[hb] at q;exact bx.get h2 q
theorem bx.no{S:aw->Prop}{H:Hp}{f:Str}:∀{fs:Fs} {vs:List (Str×V)},bx S H fs vs->fs.lookup f=none->vs.lookup f=none
  |[],_,h,e=>by unfold bx at h;subst h;rfl
  | (g, x) :: fs, _, ⟨v, ws, e, h1, h2⟩, q => by
    subst e;rw[aZ] at q⊢;cases hb:(f==g) with
    |true=>rw[hb] at q;cases q
    |false=>rw[hb] at q;exact bx.no h2 q
noncomputable def cI(f:Str)(v:Fl):Fs->Fs
 |[]=>[(f,v)]
 |(g,x)::r=>if g=f then(g,v)::r else(g,x)::cI f v r
theorem bx.put{S:aw->Prop}{H:Hp}{f:Str}{fl:Fl}{v:V}(hv:ki S H v fl):∀{fs:Fs} {vs:List (Str×V)},bx S H fs vs->bx S H (cI f fl fs) (eU f v vs)
  |[],_,h=>by unfold bx at h;subst h;exact⟨v,[],rfl,hv,rfl⟩
  | (g, x) :: fs, _, ⟨w, ws, e, h1, h2⟩ => by
    subst e;unfold cI eU;by_cases h:g=f;· rw[if_pos h,if_pos h];exact⟨v,ws,rfl,hv,h2⟩
    · rw[if_neg h,if_neg h];exact⟨w,_,rfl,h1,bx.put hv h2⟩
theorem bx.len{S:aw->Prop}{H:Hp}:∀{fs:Fs} {vs:List (Str×V)},bx S H fs vs->vs.length=fs.length
 |[],_,h=>by unfold bx at h;subst h;rfl
 |f::fs,_,⟨v,ws,e,h1,h2⟩=>by subst e;simp[bx.len h2]
theorem aR.is{C x:aw}{fs:Fs}{m:Str}(hm:fs.lookup m=none):∀S H,(aR C x dx fs).P S H->∃a dx' vs,(aR C x dx fs).v= .ref a/\H a=some (.ins C dx' vs)/\vs.lookup m=none:=λS H ⟨n,h,l,vs,q,r⟩=>⟨x,dx,vs,rfl,q,r.no hm⟩
section
variable{G:Gx}{ρ:Rh}{Φ:Pd}{ta tb te:TE}{t:TA}{i:Nat}{E:DE}{C x dx l:aw}{fs:Fs}{K:PySem.W.Frag}{f m:Str}{d:PyData}{ds:List PyData}
theorem Wd.j9(W:Wd G nb ρ σ H)(e:ρ[i]?=some (.cu (aR C x dx fs))):∃vs,σ[i]?=some (some (.ref x))/\(∀a∈aW x dx fs,nb a/\NB G.B a)/\(aW x dx fs).Nodup/\H dx=some (.own x)/\fs.length<=900/\H x=some (.ins C dx vs)/\bx (G.S nb false) H fs vs:=by
 obtain⟨Z,e1,h1,h2,n,h,l,vs,q,r⟩:=W.ok i _ e;subst h1;exact⟨vs,e1,h2,n,h,l,q,r⟩
theorem Ev.fld(e:ρ[i]?=some (.cu (aR C x dx fs)))(cl:dX K C)(na:fS K C f)(hl:fs.lookup f=some (.d d))(h:Φ false d):Ev G ρ (mY K (bz i) f) Φ:=λnb σ H Q W z=>by
 obtain⟨vs,e1,h2,n,h3,l,q,r⟩:=W.j9 e;obtain⟨v,g1,g2⟩:=r.get hl;exact⟨.ref x,e1,x,C,dx,vs,v,rfl,q,cl,na,g1,z false v H d h (.refl W.ao) g2⟩
theorem lookup_mem{fl:Fl}:∀{fs:Fs},fs.lookup f=some fl->(f,fl)∈fs
  |[],h=>by simp at h
  | (g, y) :: r, h => by
    rw[aZ] at h;cases hb:(f==g) with
    |true=>rw[hb] at h;cases h;rw[beq_iff_eq.mp hb];exact bY ..
    |false=>rw[hb] at h;exact bA _ (lookup_mem h)
theorem Ea{fl:Fl}(hl:fs.lookup f=some fl){a:aw}(m:a∈fl.adr):a∈aW x dx fs:=Lb (lookup_mem hl) m
theorem zD{Q:VK}{c:Cu}(W:Wd G nb ρ σ H)(e:ρ[i]?=some (.cu (aR C x dx fs)))(cl:dX K C)(na:fS K C f)(hl:fs.lookup f=some (.cu c))
  (z:(∀a∈c.F,nb a/\NB G.B a)->c.P (G.S nb false) H->Q c.v H):mY K (bz i) f σ H Q:=by
 obtain⟨vs,e1,h2,n,h3,len,q,r⟩:=W.j9 e;obtain⟨v,g1,g2,u⟩:=r.get hl;exact⟨.ref x,e1,x,C,dx,vs,v,rfl,q,cl,na,g1,by rw[g2];exact z (λa m=>h2 a (Ea hl m)) u⟩
theorem DT{fl pU:Fl}(h':pU.adr=fl.adr):∀{fs:Fs},fs.lookup f=some fl->((cI f pU fs).flatMap λg=>g.2.adr)=fs.flatMap λg=>g.2.adr
  |[],h=>by simp at h
  | (g, y) :: r, h => by
    unfold cI;rw[aZ] at h;cases hb:(f==g) with
    | true =>
      rw[hb] at h;cases h
      rw[if_pos (beq_iff_eq.mp hb).symm,jN,jN,h']
    | false =>
      rw[hb] at h;rw[if_neg (λz=>by rw[z,beq_self_eq_true] at hb;cases hb),jN,jN,DT h' h]
theorem um{fl pU:Fl}:∀{fs:Fs},fs.lookup f=some fl->(cI f pU fs).length=fs.length
  |[],h=>by simp at h
  | (g, y) :: r, h => by
    unfold cI;rw[aZ] at h;cases hb:(f==g) with
    |true=>rw[if_pos (beq_iff_eq.mp hb).symm];rfl
    | false =>
      rw[hb] at h;rw[if_neg (λz=>by rw[z,beq_self_eq_true] at hb;cases hb),eY,eY,um h]
theorem ki.wr{S:aw->Prop}{v:V}{fl:Fl}{p:aw}{o:HO}(N:S p)(hp:p∉fl.adr)(h:ki S H v fl):ki S (upd H p o) v fl:=
 h.map (λd v z=>z.keep (aP.set N)) λc e z=>c.keep (.of λa o' m q=>by
  rw[aM];·exact q
  .rintro rfl;rcases m with m|m
   .exact m N
   .rw[e] at hp;exact hp m) z
theorem bx.Dm{S:aw->Prop}{H:Hp}{p:aw}{o:HO}(N:S p):∀{fs:Fs} {vs:List (Str×V)},(p∉fs.flatMap λg=>g.2.adr)->bx S H fs vs->bx S (upd H p o) fs vs
  |[],_,_,h=>h
  | g :: fs, _, hp, ⟨v, ws, e, h1, h2⟩ => by
    rw[jN,fK] at hp;exact⟨v,ws,e,h1.wr N λz=>hp (.inl z),bx.Dm N (λz=>hp (.inr z)) h2⟩
theorem bx.wr{S:aw->Prop}{H:Hp}{p:aw}{o:HO}{c c':Cu}(N:S p)(hp:p∈c.F)(hv:c'.v=c.v)(hc:c'.P S (upd H p o)):∀{fs:Fs} {vs:List (Str×V)},(fs.flatMap λg=>g.2.adr).Nodup->fs.lookup f=some (.cu c)->bx S H fs vs->bx S (upd H p o) (cI f (.cu c') fs) vs
  |[],_,_,h,_=>by simp at h
  | (g, y) :: r, _, hn, h, ⟨v, ws, e, h1, h2⟩ => by
    unfold cI;rw[jN,nj] at hn;rw[aZ] at h;cases hb:(f==g) with
    | true =>
      rw[hb] at h;cases h
      rw[if_pos (beq_iff_eq.mp hb).symm];exact⟨v,ws,e,⟨by rw[hv];exact h1.1,hc⟩,bx.Dm N (λz=>hn.2.2 p hp p z rfl) h2⟩
    | false =>
      rw[hb] at h;rw[if_neg (λz=>by rw[z,beq_self_eq_true] at hb;cases hb)];exact⟨v,ws,e,h1.wr N λz=>hn.2.2 p z p (pR.mpr ⟨_,lookup_mem h,hp⟩) rfl,bx.wr N hp hv hc hn.2.1 h h2⟩
theorem Wd.M7{c:Cu}{p:aw}{o:HO}(W:Wd G nb ρ σ H)(e:ρ[i]?=some (.cu (aR C x dx fs)))(hl:fs.lookup f=some (.cu c))(hp:p∈c.F)(hv:c'.v=c.v)(I:c'.F=c.F)(h:c'.P (G.S nb false) (upd H p o)):
  Wd G nb (ρ.set i (.cu (aR C x dx (cI f (.cu c') fs)))) σ (upd H p o):=by
 obtain⟨vs,e1,h2,n,h3,len,q,r⟩:=W.j9 e;have k:p∈aW x dx fs:=Ea hl hp;have N:G.S nb false p:= .inl (h2 p k).1;have hn:=n;unfold aW at hn;obtain⟨n1,n2⟩:=dU.mp hn;obtain⟨B,l⟩:=dU.mp n2;have J:p∈fs.flatMap λg=>g.2.adr:=pR.mpr ⟨_,lookup_mem hl,hp⟩;have b:x≠p:=λz=>n1 (by rw[z];exact bA _ J);have d:dx≠p:=λz=>B (by rw[z];exact J);have t:aW x dx (cI f (.cu c') fs)=aW x dx fs:=by unfold aW;rw[DT (fl:= .cu c) (pU:= .cu c') I hl]
 refine W.zI (c':=aR C x dx (cI f (.cu c') fs)) e k rfl (λa m=>by rw[show(aR C x dx (cI f (.cu c') fs)).F=aW x dx fs from t] at m;exact m) ?_;exact⟨by rw[t];exact n,by rw[aM d];exact h3,by rw[um hl];exact len,vs,by rw[aM b];exact q,bx.wr N hp hv h l hl r⟩
theorem bx.AO{S:aw->Prop}{fl:Fl}{v:V}{p:aw}{o:HO}(N:S p)(hv:ki S (upd H p o) v fl){fs:Fs}{vs:List (Str×V)}(hp:p∉fs.flatMap λg=>g.2.adr)(h:bx S H fs vs):bx S (upd H p o) (cI f fl fs) (eU f v vs):=bx.put hv (bx.Dm N hp h)
theorem qJ{fl:Fl}:∀{fs:Fs},fs.lookup f=none->cI f fl fs=fs++[(f,fl)]
  |[],_=>rfl
  | (g, y) :: r, h => by
    unfold cI;rw[aZ] at h;cases hb:(f==g) with
    |true=>rw[hb] at h;cases h
    | false =>
      rw[hb] at h;rw[if_neg (λz=>by rw[z,beq_self_eq_true] at hb;cases hb),qJ h];rfl
theorem Wd.OG{c:Cu}{vs:List (Str×V)}{l:aw}(W:Wd G nb ρ σ H)(s1:Step G.B H H1)(e:ρ[i]?=some (.cu (aR C x dx fs)))(hl:fs.lookup f=none)(hlen:fs.length<900)(k:c.F=[l])(YS:c.v= .ref l)(p:H l=none)(I:H1 l≠none)
  (Y:c.P (λa=>G.S nb false a\/a=l) H1) (M:H1 x=some (.ins C dx vs)):Wd G (λa=>(nb a\/a∈[l])\/a∈aW x dx (fs++[(f, .cu c)])) (ρ.set i (.cu (aR C x dx (fs++[(f, .cu c)])))) σ (upd H1 x (.ins C dx (eU f c.v vs))):=by
 have Q:∀a∈[l],H a=none:=λa m=>by rw[aN.mp m];exact p
 obtain⟨R,O,K,_⟩:=W.j9 e;have mZ:l∉aW x dx fs:=λz=>W.live l (K l z).1 p;obtain⟨W1,L,J⟩:=W.qp s1 Q (λa m=>by rw[aN.mp m];exact I);obtain⟨w,e1,h2,n,h3,len,D,r⟩:=W1.j9 e;rw[M] at D;cases D;have hn:=n;unfold aW at hn;obtain⟨n1,n2⟩:=dU.mp hn;have u:dx≠x:=λz=>n1 (by rw[z];exact bY ..);have hx:x∉fs.flatMap λg=>g.2.adr:=λz=>n1 (bA _ z);have h:l≠x:=λz=>mZ (by rw[z];simp[aW]);have A:x∈aW x dx fs:=by simp[aW]
 have t:aW x dx (fs++[(f, .cu c)])=aW x dx fs++[l]:=by
  unfold aW;rw[Ca];show _::_::(_++(c.F++[]))=_;rw[k]
  rfl
 have N:∀{a},G.S (λy=>(nb y\/y∈[l])\/y∈aW x dx (fs++[(f, .cu c)])) false a->G.S (λy=>nb y\/y∈[l]) false a:=λ{a} z=>by
  rcases z with (z|z)|z|z|z
  .exact .inl z
  .rw[t,fK] at z;rcases z with z|z
   .exact .inl (h2 a z).1
   .exact .inl (.inr z)
  .exact .inr (.inl z)
  .exact .inr (.inr (.inl z))
  .exact .inr (.inr (.inr z))
 refine W1.xA (c:=aR C x dx fs) (c':=aR C x dx (fs++[(f, .cu c)])) e (λa o na q=>?_) rfl (λa m=>?_) (λa m=>?_) ?_;·rw[aM (λz=>na (by rw[z];exact A))];exact q
 .rw[show(aR C x dx (fs++[(f, .cu c)])).F=aW x dx fs++[l] from t,fK] at m;rcases m with m|m
  .exact .inl m
  .rw[aN.mp m];refine .inr (.inr ⟨.inr (aN.mpr rfl),L l (aN.mpr rfl),λj s hs z=>?_⟩);obtain⟨y,_,q⟩:=W.ok j s hs;exact W.live l (q.sj l z).1 p
 .by_cases z:a=x;·rw[z,aT];exact dS _
  .rw[aM z];rcases m with m|m
   .exact W1.live a (h2 a m).1
   .rw[show(aR C x dx (fs++[(f, .cu c)])).F=aW x dx fs++[l] from t,fK] at m;rcases m with m|m
    .exact W1.live a (h2 a m).1
    .rw[aN.mp m];exact I
 .refine⟨?_,by rw[aM u];exact h3,by rw[gx,j8];omega,_,aT,?_⟩
  .rw[t,nj];exact⟨n,by simp,λa m b m' z=>mZ (by rw[aN.mp m'] at z;rw[<-z];exact m)⟩
  .have E:G.S (λy=>nb y\/y∈[l]) false x:= .inl (h2 x A).1;have:=bx.AO (f:=f) (fl:= .cu c) (v:=c.v) (o:= .ins C dx (eU f c.v vs)) E ⟨rfl,c.keep (S:=G.S (λy=>nb y\/y∈[l]) false) (.of λa o m q=>?_) (c.av (λa z=>?_) Y)⟩ hx r
   .rw[qJ hl] at this;exact this.map (λd v z=>z.av λa=>N) λg m c' e z=>c'.av (λa=>N) z
   .rw[aM];·exact q
    .rintro rfl;rcases m with m|m
     .exact m E
     .rw[k] at m;exact h (aN.mp m).symm
   .rcases J false a z with z|z
    .exact .inl z
    .exact .inr (aN.mp z)
theorem Sv.Uu(e:ρ[i]?=some (.cu (aR C x dx fs)))(cl:dX K C)(na:fS K C f)(hl:fs.lookup f=none)(hlen:fs.length<900)(h:au G ρ te λ_ ds=>∀l,E.nx (ρ.set i (.cu (aR C x dx (fs++[(f, .cu (jd l ds))]))))):Sv G ρ (uN K (bz i) te f) E:=λnb σ H D W KK=>
 h nb σ H _ W λfg l xs H1 ds q s1 p k hd=>by
  obtain⟨vs,e1,h2,n,h3,len,M,r⟩:=(W.step s1).j9 e;refine⟨.ref x,e1,x,C,dx,vs,rfl,M,cl,na,by rw[r.len];omega,KK.nx _ _ _ _ (q l) (W.OG (c:=jd l ds) s1 e hl hlen rfl rfl p (by rw[k];exact dS _) ⟨xs,k,hd.av λa z=>?_⟩ M)⟩;rcases z with z|z
  .exact .inl (bM (λw=>by cases w) (λ_ w=>w) a z)
  .exact .inr z
theorem Sv.UX{l:aw}(e:ρ[i]?=some (.cu (aR C x dx fs)))(cl:dX K C)(na:fS K C f)(hl:fs.lookup f=some (.cu (jd l ds)))(h:Ev G ρ te λ_ d=>Ev G ρ tb λ_ y=>∃k j,y= .int k/\gU ds.length k=some j/\E.nx (ρ.set i (.cu (aR C x dx (cI f (.cu (jd l (ds.set j d))) fs))))):Sv G ρ (fP te (nU (mY K (bz i) f) tb qF)) E:=λnb σ H D W KK=>
 h nb σ H _ W λg v H1 d q s1 hv=>zD (W.step s1) e cl na hl λI ⟨xs,hx,hd⟩=>q nb σ H1 _ (W.step s1) λg' u H2 y ⟨k,j,m,hj,p⟩ s2 hu=>by
  subst m;have W2:=(W.step s1).step s2;have mZ:=I l (aN.mpr rfl);have N:G.S nb false l:= .inl mZ.1;refine⟨l,xs,k,j,rfl,hu.cz,s2.1 _ _ mZ.2 hx,by rw[hd.length];exact hj,KK.nx nb _ _ _ p (W2.M7 (c:=jd l ds) (c':=jd l (ds.set j d)) e hl (aN.mpr rfl) rfl rfl ⟨_,aT,?_⟩)⟩;exact(af.set' ((hv.av (bM (λz=>by cases z) λ_ z=>z)).keep s2.c9) j (hd.keep s2.c9)).keep (aP.set N)
theorem au.Mt{l:aw}(e:ρ[i]?=some (.cu (aR C x dx fs)))(cl:dX K C)(na:fS K C f)(hl:fs.lookup f=some (.cu (jd l ds)))(h:Θ (dZ ds) ds):au G ρ (eX (jV K) (aX (mY K (bz i) f) bK)) Θ:=λnb σ H Q W z=>by
 show mY K (bz i) f σ H _;exact zD W e cl na hl λI ⟨xs,hx,hd⟩=>⟨l,xs,rfl, .inl (.of hx),λp hp=>au.fin (f:=false) W (.refl W.ao) hp hd (by rw[nV];exact h) z⟩
def ig(G:Gx)(ρ:Rh)(ta:TA)(Φ:List PyData->Prop):Prop:=∀nb σ H (Q:List V->Hp->Prop),Wd G nb ρ σ H->(∀ds vs H',Φ ds->Step G.B H H'->af (λa=>¬NB G.B a) H' ds vs->Q vs H')->ta σ H Q
theorem ig.nil{Θ:List PyData->Prop}(h:Θ []):ig G ρ bK Θ:=λnb σ H Q W z=>z [] [] H h (.refl W.ao) .nil
theorem ig.cons{Θ:List PyData->Prop}(h:Ev G ρ te λ_ d=>ig G ρ t λds=>Θ (d::ds)):ig G ρ (aX te t) Θ:=λnb σ H Q W z=>
 h nb σ H _ W λf v H1 d j s1 J=>j nb σ H1 _ (W.step s1) λds vs H2 p2 s2 M=>z _ _ H2 p2 (s1.trans s2) (.cons ((J.av λa y=> .inr (.inr (.inl y))).keep (s2.but λ_ y=>y)) M)
theorem ig.fld{Θ:List PyData->Prop}{l:aw}(e:ρ[i]?=some (.cu (aR C x dx fs)))(cl:dX K C)(na:fS K C f)(hl:fs.lookup f=some (.cu (jd l ds)))(h:ig G ρ t λes=>Θ (.list ds::es)):ig G ρ (aX (mY K (bz i) f) t) Θ:=λnb σ H Q W z=>by
 show mY K (bz i) f σ H _;exact zD W e cl na hl λI ⟨xs,hx,hd⟩=>h nb σ H _ W λes vs H2 p2 s2 M=>z _ _ H2 p2 s2 (.cons (.lst (λy=>y (I l (aN.mpr rfl)).2) (s2.1 _ _ (I l (aN.mpr rfl)).2 hx) ((hd.av λa y=> .inr (.inr (.inl y))).keep (s2.but λ_ y=>y))) M)
theorem Ev.BJ{F:DF}(hm:dJ F)(h:ig G ρ t λds=>ds.length=n/\F ds λf d=>(f=true\/fU d=true)/\Φ true d):Ev G ρ (fN (cQ n F) [] E0 t) Φ:=λnb σ H Q W z=>
 h nb σ H _ W λds vs H1 ⟨hl,p⟩ s1 J=>by
  have W1:=W.step s1;rw[ic];refine⟨by rw[J.length,hl],λa=>¬NB G.B a,ds,λa y=>NB.lY W1.ao y,J,hm _ _ _ p λf d ⟨hf,hp⟩ v H' sm hd=>z true v H' d hp (s1.trans (.same W1.ao sm)) ?_⟩;rcases hf with hf|hf
  .exact hd.av λa y=> .inr ⟨hf,W1.fL (f:=true) a y⟩
  .exact hd.fF hf
end
noncomputable def bB(p:Int)(cs:List aC)(wd:Wo):Nat->List gp
  |0=>[]
  | i + 1 => match gY p (cs.getD i []) 0 wd with
    |some (a,x)=>if a∈(bB p cs wd i).map (·.1) then bB p cs wd i else bB p cs wd i++[(a,(i:Int),x)]
    |none=>bB p cs wd i
theorem l8{p:Int}{cs:List aC}{wd:Wo}:∀i,((bB p cs wd i).map (·.1)).Nodup
  |0=>by simp[bB]
  | i + 1 => by
    unfold bB;split
    · split
      · exact l8 i
      · rename_i a x e c
        rw[e7,nj];refine⟨l8 i,by simp,λy hy z hz e=>c ?_⟩;simp at hz;rw[<-hz,<-e];exact hy
    · exact l8 i
theorem qL{p:Int}{cs:List aC}{wd:Wo}{m:gp}:∀{i},m∈bB p cs wd i->0<=m.2.1/\m.2.1<i/\gY p (cs.getD m.2.1.toNat []) 0 wd=some (m.1,m.2.2)/\∀c:Nat,(c:Int)<m.2.1->∀x,gY p (cs.getD c []) 0 wd≠some (m.1,x)
  |0,h=>by simp[bB] at h
  | i + 1, h => by
    have key:∀{c:Nat},(∃x,gY p (cs.getD c []) 0 wd=some (m.1,x))->c<i->m.1∈(bB p cs wd i).map (·.1):=λ{c} hx hc=>by
      clear h;induction i with
      |zero=>omega
      | succ i ih =>
        unfold bB;by_cases e:c=i
        · subst e
          obtain⟨x,hx⟩:=hx;rw[hx];dsimp only;split;· rename_i h;exact h
          · simp
        · have:=ih ∅
          split
          · split
            · exact this
            · rw[e7];exact qY _ this
          · exact this
    unfold bB at h;split at h
    · rename_i a x e
      split at h;· obtain⟨h1,h2,h3⟩:=qL h;exact⟨h1,∅,h3⟩
      · rename_i c
        rcases fK.mp h with h|h
        · obtain⟨h1,h2,h3⟩:=qL h;exact⟨h1,∅,h3⟩
        · simp at h
          subst h;refine⟨by simp,by simp;omega,by simpa using e,λc' l J M=>c ?_⟩;exact key ⟨J,M⟩ (by simpa using l)
    · obtain⟨h1,h2,h3⟩:=qL h;exact⟨h1,∅,h3⟩
noncomputable def cV(p:Int)(cs:List aC)(wd:Wo):List gp:=(bB p cs wd cs.length).mergeSort λa b=>decide (a.1<=b.1)
theorem yO(p:Int)(cs:List aC)(wd:Wo):(cV p cs wd).Perm (bB p cs wd cs.length):=List.mergeSort_perm _ _
theorem WU(p:Int)(cs:List aC)(wd:Wo):(cV p cs wd).Pairwise λa b=>a.1<b.1:=by
 have h1:(cV p cs wd).Pairwise λa b=>decide (a.1<=b.1)=true:=List.pairwise_mergeSort (λa b c h1 h2=>by simp at h1 h2⊢;omega) (λa b=>by simp;omega) _;have h2:((cV p cs wd).map (·.1)).Nodup:=((yO p cs wd).map _).nodup_iff.mpr (l8 _);have h3:(cV p cs wd).Pairwise λa b=>a.1≠b.1:=yj.mp h2;exact(h1.and h3).imp λ⟨a,b⟩=>by simp at a;omega
theorem Ez:∀{a b:List gp},(a.Pairwise λx y=>x.1<y.1)->(b.Pairwise λx y=>x.1<y.1)->a.Perm b->a=b
  |[],b,_,_,h=>by rw[List.nil_perm.mp h]
  |x::a,[],_,_,h=>by cases List.perm_nil.mp h
  | x :: a, y :: b, h1, h2, h => by
    obtain⟨x1,x2⟩:=lO.mp h1;obtain⟨Y,T⟩:=lO.mp h2;have e:x=y:=by
      rcases aA.mp (h.mem_iff.mp (bY ..)) with e|e
      · exact e
      rcases aA.mp (h.symm.mem_iff.mp (bY ..)) with e'|e'
      · exact e'.symm
      have:=Y x e;have:=x1 y e';omega
    subst e;rw[Ez x2 T h.cons_inv]
theorem IC{ms:List gp}(h:ms.Perm (bB p cs wd cs.length))(hs:(ms.map (·.1)).Pairwise (· <= ·)):ms=cV p cs wd:=by
 refine Ez ?_ (WU p cs wd) (h.trans (yO p cs wd).symm);have h2:(ms.map (·.1)).Nodup:=(h.map _).nodup_iff.mpr (l8 _);exact((yj.mp hs).and (yj.mp h2)).imp λ⟨a,b⟩=>∅
theorem QY{m:gp}(h:m∈cV p cs wd):0<=m.2.1/\m.2.1<cs.length/\gY p (cs.getD m.2.1.toNat []) 0 wd=some (m.1,m.2.2)/\∀c:Nat,(c:Int)<m.2.1->∀x,gY p (cs.getD c []) 0 wd≠some (m.1,x):=qL ((yO p cs wd).mem_iff.mp h)
theorem GH(wd:Wo)(a b:List gp):xl wd (a++b)=xl (xl wd a) b:=by unfold xl;rw[List.foldl_append]
theorem AL(hp:0<p){m:gp}(h:m∈cV p cs wd)(h0:∀prs∈cs,∀pr∈prs,0<=pr.1/\pr.1<wd.length):0<=m.1/\m.1<wd.length/\wd[m.1.toNat]?=some none/\0<=m.2.2/\m.2.2<p:=by
 obtain⟨a1,a2,g,_⟩:=QY h;obtain⟨pr,b1,b2,b3,b4,b5⟩:=Ke hp g;have hc:m.2.1.toNat<cs.length:=∅
 rw[ko,aQ hc] at b1;have:=h0 _ (iA hc) pr b1;rw[b2] at this;exact⟨this.1,this.2,b3,b4,b5⟩
noncomputable abbrev pN(r:List gp):PyData:= .list (r.map oN)
noncomputable def iC(nd:PyData)(l:aw)(wd:Wo):Fs:=[("net", .d nd),("letters", .cu (jd l (wd.map bS)))]
noncomputable abbrev kM(m:gp):Int×PyData:=(m.1,oN m)
theorem qh(ms:List gp):(ms.map kM).map (·.1)=ms.map (·.1):=by rw[lI];rfl
theorem AX:∀{ms:List gp} {m:gp},(ms.map (·.1)).Nodup->m∈ms->jv (ms.map kM) m.1=some (oN m)
  | x :: r, m, nd, h => by
    rw[bw,qV];rw[bw,dU] at nd;rcases aA.mp h with e|e
    · subst e;rw[if_pos rfl]
    · rw[if_neg (λz=>nd.1 (by rw[show x.1=m.1 from z];exact List.mem_map_of_mem e)),AX nd.2 e]
theorem rJ(hp:0<p)(h0:∀prs∈cs,∀pr∈prs,0<=pr.1/\pr.1<wd.length):∀{i},i<=cs.length->(bB p cs wd i).length<=wd.length:=λ{i} hi=>by
 have nd:=l8 (p:=p) (cs:=cs) (wd:=wd) i;have:=WS (m:=wd.length) nd λk hk=>by
  obtain⟨m,hm,e⟩:=fk.mp hk;obtain⟨a1,a2,g,_⟩:=qL hm;obtain⟨pr,b1,b2,_⟩:=Ke hp g;have hc:m.2.1.toNat<cs.length:=∅
  rw[ko,aQ hc] at b1;have:=h0 _ (iA hc) pr b1;omega
 rw[ak] at this;omega
theorem jP.rg(h:jP p cs m):∀prs∈cs,∀pr∈prs,0<=pr.1/\pr.1<m:=λprs hp pr hr=>⟨((h.2.2.2 prs hp).2.1 pr hr).1,((h.2.2.2 prs hp).2.1 pr hr).2.1⟩
theorem Qn(hN:jP p cs wd.length)(hW:ja wd):ja (xl wd (cV p cs wd)):=by
  have key:∀{ms:List gp} {wd:Wo},ja wd->(∀m∈ms,Sm m.2.2)->ja (xl wd ms):=λ{ms}=>by
    induction ms with
    |nil=>intro wd h _;exact h
    | cons m r ih =>
      intro wd h hm;refine ih (wd:=wd.set m.1.toNat (some m.2.2)) (λx hx=>?_) λm' h'=>hm m' (bA _ h');rcases List.mem_or_eq_of_mem_set hx with z|z
      · exact h x z
      · cases z;exact hm m (bY ..)
  have p2:=hN.1.1;have i7:=hN.2.1;refine key hW λm hm=>?_;obtain⟨_,_,_,b4,b5⟩:=AL ∅ hm hN.rg;unfold Sm;omega
theorem Jt(wd:Wo):dZ (wd.map bS)=true:=by
 unfold dZ;rw[pF];intro x hx;obtain⟨o,_,rfl⟩:=fk.mp hx;cases o<;>rfl
theorem Wf(nd:PyData)(l:aw)(wd Hh:Wo):cI "letters" (.cu (jd l (Hh.map bS))) (iC nd l wd)=iC nd l Hh:=by
 unfold iC cI;rw[if_neg (by decide+kernel)];unfold cI;rw[if_pos rfl]
theorem SR(wd:Wo):(qi wd).length<=wd.length:=by
 unfold qi;rw[ak];exact fX (List.length_filter_le _ _) (by simp)
section
variable{prog:be}{w:cx}{A:cC}{E:ag->ar->Prop}{s:ar}
theorem Ot{vs:List (Key×ag)}(O:A.handled=none)(lo:(a==eI)=false)(hd:s.heap.DictOf (iH prog w) a vs)(hk:vs.map (·.1)=ms.map dh)(p:ms.length<=4000)
    (h:∀h' j (l:aw) (out:List ag) (ns:List Int) (e:Nat),(∀b o,s.heap.get? b=some o->h'.get? b=some o)->s.heap.objs.size<=l->h'.get? l=some (ik "list" out.toArray e)->ee out ns->ns.Pairwise (· <= ·)->ns.Perm ms->
      Q (.ref l) {s with heap:=h',toks:=j}):wpAny (a6 prog w) A (call (.builtin "sorted") [.ref a]) Q E s:=by
  obtain⟨ep,B⟩:=hd.dictAt;have d:vs.length=ms.length:=by have:=congrArg oj hk;simpa using this
  refine Ho kind_sorted plain_sorted entry_sorted (args_sorted1 _) ?_;unfold hh.«sorted»;refine ae (m:=checkCount "sorted" 1 1 _) (ax (ae ?_));refine OJ (A:=A.in1) (PySem.W.kdl_dict lo) O B (by rw[d];exact fX p ⋯) λh1 z items k1 k2 hil c=>?_;have hI:ee items ms:=by
    have key:∀(its:List ag) (us:List (Key×ag)) (ms:List Int),us.map (·.1)=ms.map dh->its.length=us.length->(∀(i:Nat) v,its[i]?=some v->∃k x,us[i]?=some (k,x)/\(iH prog w).is k v=true)->ee its ms:=by
      intro its;induction its with
      | nil =>
        intro us ms e l _;cases us with
        | nil => cases ms with
          |nil=>exact .nil
          |cons _ _=>cases e
        |cons _ _=>cases l
      | cons v its ih =>
        intro us ms e l hp;cases us with
        |nil=>cases l
        | cons u us => cases ms with
          |nil=>cases e
          | cons m ms =>
            have e1:u.1=dh m:=by injection e
            have e2:us.map (·.1)=ms.map dh:=by injection e
            obtain⟨k,x,J,M⟩:=hp 0 v rfl;have J:u=(k,x):=by simpa using J
            subst J;have e1:k=dh m:=e1;subst e1;obtain⟨t,rfl⟩:=wH (k:=m) (v:=v) M;exact .cons m t (ih us ms e2 (by simpa using l) λi v q=>by simpa using hp (i+1) v (by simpa using q))
    exact key items vs ms hk hil c
  have hlen:items.length=ms.length:=by rw[hil,d]
  refine ae (ls ?_);have y:(h1.push (ik "list" items.toArray 0)).get? h1.objs.size=some (ik "list" items.toArray 0):=fO _ rfl;refine ae (dk (c6 qa ⟨_,y,rfl⟩ oQ (OL y hI ∅ λout f a1 a2 g=>⟨_,rfl,?_⟩) (qc _)));obtain⟨e,he⟩:=sg (out:=out) y;refine ax ⟨_,rfl,h _ z h1.objs.size out.toList f e (λb o q=>?_) k2 (by simpa using he) a1 g a2⟩;have lb:=bF (k1 b o q);rw[qk (dz lb) (by rw[kN];exact mh lb)];exact bV _ (k1 b o q)
end
def vE:List V->Hp->VK->Prop:=λxs H Q=>∃a,∃kvs:List (Key×V),∃ms:List Int,xs=[.ref a]/\Rd H a (.dK kvs)/\kvs.map (·.1)=ms.map dh/\ms.length<=4000/\
 ∀l (L:List Int),H l=none->L.Pairwise (· <= ·)->L.Perm ms->Q (.ref l) (upd H l (.lst (L.map V.int)))
theorem IU(hc:X.calm=true):fV X (.builtin "sorted") vE:=by
 intro pins s σ H xs us Q I rv h;obtain⟨a,kvs,ms,rfl,O,hk,p,q⟩:=h;obtain⟨u,rfl,ru⟩:=vals1 rv;cases ru;obtain⟨z,hd,vs,rel,dd⟩:=rO I.hok O;refine Ot (I.ok.hd hc) hd dd (by rw[<-rel.keys];exact hk) p λh' j l out ns e kp hl b hI pw pp=>?_;have new:cA X.prog X.w (upd H l (.lst (ns.map V.int))) h' l (.lst (ns.map V.int)):=by
  refine⟨?_,out,e,Dk hI,b⟩;rw[ak,pp.length_eq];exact fX p ⋯
 exact⟨.ref l,_,I.laid (t':=j) kp hl new,rfl,q _ _ (I.hok.fresh hl) pw pp⟩
theorem au.El{f:Bool}{ks:Ks}(e:ρ[i]?=some (.bD a f ks))(hl:ks.length<=4000)(h:∀L:List Int,L.Pairwise (· <= ·)->L.Perm (ks.map (·.1))->Θ true (L.map .int)):
  au G ρ (eX vE (aX (bz i) bK)) Θ:=λnb σ H Q W z=>by
 obtain⟨x,e1,h1,h2,h3,ps,hp,hd⟩:=W.ok i _ e;subst h1;refine⟨.ref a,e1,a,ps,ks.map (·.1),rfl, .inl hp,aq.keys hd,by rw[ak];exact hl,λl L b hw k=>?_⟩;exact au.fin (f:=true) W (.refl W.ao) b (xq L) (h L hw k) z
inductive Oi where
 |own (b:aw)|dat (x:PyData)
inductive OO where
 |lst (xs:List Oi)|tup (xs:List Oi)|bD (ks:List (Int×Oi))
noncomputable abbrev bW:=List (aw×OO)
def dY(S:aw->Prop)(H:Hp):Oi->V->Prop
 | .own b,v=>v= .ref b
 | .dat x,v=>ah S H x v
def fM(S:aw->Prop)(H:Hp)(xs:List Oi)(vs:List V):Prop:=vs.length=xs.length/\∀(i:Nat) x v,xs[i]?=some x->vs[i]?=some v->dY S H x v
noncomputable def QD(ks:List (Int×Oi))(vs:List V):List (Key×V):=g6 (λk v=>(dh k.1,v)) ks vs
def oR(S:aw->Prop)(H:Hp)(a:aw):OO->Prop
 | .lst xs=>∃vs,H a=some (.lst vs)/\fM S H xs vs
 | .tup xs=>∃vs,H a=some (.tup vs)/\fM S H xs vs
 | .bD ks=>∃vs,H a=some (.dK (QD ks vs))/\fM S H (ks.map (·.2)) vs
def jF(S:aw->Prop)(H:Hp)(L:bW):Prop:=(L.map (·.1)).Nodup/\∀a o,L.lookup a=some o->oR S H a o
section
variable{S S':aw->Prop}{H H':Hp}{x:Oi}{v:V}{xs:List Oi}{vs:List V}{a b:aw}{o:OO}{L:bW}{F:List aw}{p:aw}
theorem nA{L:bW}:∀{a:aw} {o:OO},L.lookup a=some o->a∈L.map (·.1):=by
  induction L with
  |nil=>intro a o h;cases h
  | cons q L ih =>
    intro a o h;rw[bw];by_cases c:a=q.1;· rw[c];exact bY ..
    · rw[aZ,beq_false_of_ne c] at h
      exact bA _ (ih h)
theorem Bc{L:bW}:∀{a:aw},a∈L.map (·.1)->∃o,L.lookup a=some o:=by
  induction L with
  |nil=>intro a h;cases h
  | cons q L ih =>
    intro a h;by_cases c:a=q.1;· exact⟨q.2,by rw[c];simp[da]⟩
    · rw[aZ,beq_false_of_ne c]
      rw[bw] at h;exact ih ((aA.mp h).resolve_left c)
theorem dY.kp(m:Kp S F H H')(h:dY S H x v):dY S H' x v:=by
 cases x with
 |own b=>exact h
 |dat x=>exact ah.kp m h
theorem dY.av(b:∀a,S' a->S a)(h:dY S H x v):dY S' H x v:=by
 cases x with
 |own b=>exact h
 |dat x=>exact ah.av b h
theorem dY.fresh(hp:H p=none)(h:dY S H x v):dY (λa=>S a\/a=p) H x v:=by
 cases x with
 |own b=>exact h
 |dat x=>exact ah.fresh hp h
theorem dY.keep(m:aP S H H')(h:dY S H x v):dY S H' x v:=by
 cases x with
 |own b=>exact h
 |dat x=>exact ah.keep m h
theorem fM.imp(h:fM S H xs vs)(q:∀x v,dY S H x v->dY S' H' x v):fM S' H' xs vs:=⟨h.1,λi x v e1 e2=>q x v (h.2 i x v e1 e2)⟩
theorem oR.imp(h:oR S H a o)(q:∀x v,dY S H x v->dY S' H' x v)(e:∀ho,H a=some ho->H' a=some ho):oR S' H' a o:=by
 cases o with
 |lst xs=>obtain⟨vs,h1,h2⟩:=h;exact⟨vs,e _ h1,h2.imp q⟩
 |tup xs=>obtain⟨vs,h1,h2⟩:=h;exact⟨vs,e _ h1,h2.imp q⟩
 |bD ks=>obtain⟨vs,h1,h2⟩:=h;exact⟨vs,e _ h1,h2.imp q⟩
theorem oR.live(h:oR S H a o):H a≠none:=by
 cases o with
 |lst xs=>obtain⟨vs,h1,h2⟩:=h;rw[h1];exact dS _
 |tup xs=>obtain⟨vs,h1,h2⟩:=h;rw[h1];exact dS _
 |bD ks=>obtain⟨vs,h1,h2⟩:=h;rw[h1];exact dS _
theorem jF.live(h:jF S H L):∀a∈L.map (·.1),H a≠none:=λa m=>by
 obtain⟨o,e⟩:=Bc m;exact(h.2 a o e).live
theorem fM.at{k:Int}(h:fM S H xs vs)(e:bO xs k=some x):∃v,bO vs k=some v/\dY S H x v:=by
  unfold bO at e⊢;rw[h.1];cases z:gU xs.length k with
  |none=>rw[z] at e;cases e
  | some j =>
    rw[z] at e;have e:xs[j]?=some x:=e;have hj:=(bH.mp e).1;have hv:vs[j]?=some (vs[j]'(by rw[h.1];exact hj)):=aQ _;exact⟨_,hv,h.2 j x _ e hv⟩
theorem fM.nil:fM S H [] []:=⟨rfl,λi x v e=>by simp at e⟩
theorem fM.cons(q:dY S H x v)(h:fM S H xs vs):fM S H (x::xs) (v::vs):=by
 refine⟨by rw[eY,eY,h.1],λi y u e1 e2=>?_⟩;cases i with
 |zero=>simp at e1 e2;subst e1 e2;exact q
 |succ i=>exact h.2 i y u (by simpa using e1) (by simpa using e2)
theorem fM.sE(h:af S H ds vs):fM S H (ds.map .dat) vs:=by
 refine⟨by rw[ak,h.length],λi x v e1 e2=>?_⟩;rw[cB] at e1;obtain⟨d,hd,rfl⟩:=jJ.mp e1;obtain⟨y,hy,hq⟩:=h.get hd;rw[hy] at e2;cases e2;exact hq
theorem FW:∀{vs:List V},vs.length=ds.length->(∀(i:Nat) d v,ds[i]?=some d->vs[i]?=some v->ah S H d v)->af S H ds vs:=by
  induction ds with
  |nil=>intro vs h _;rw[mP.mp h];exact .nil
  | cons d ds ih =>
    intro vs h q;cases vs with
    |nil=>cases h
    |cons v vs=>exact .cons (q 0 d v rfl rfl) (ih (by simpa using h) λi d' t e1 e2=>q (i+1) d' t (by simpa using e1) (by simpa using e2))
end
noncomputable def jC(L:bW)(b:aw)(o:OO):bW:=L.map λq=>if q.1=b then(b,o) else q
theorem HS(L:bW)(b:aw)(o:OO):(jC L b o).map (·.1)=L.map (·.1):=by
 unfold jC;rw[lI];apply uJ;intro q _;show(if q.1=b then(b,o) else q).1=q.1;split;·rename_i h;exact h.symm
 .rfl
theorem mR{L:bW}{o:OO}(h:a≠b):(jC L b o).lookup a=L.lookup a:=by
  induction L with
  |nil=>rfl
  | cons q L ih =>
    show da a ((if q.1=b then(b,o) else q)::jC L b o)=_;by_cases c:q.1=b
    · rw[if_pos c,aZ,beq_false_of_ne h,ih]
      rw[aZ,beq_false_of_ne (by rw[c];exact h)]
    · rw[if_neg c,aZ,aZ,ih]
theorem BZ{L:bW}{o:OO}(h:b∈L.map (·.1)):(jC L b o).lookup b=some o:=by
  induction L with
  |nil=>cases h
  | cons q L ih =>
    show da b ((if q.1=b then(b,o) else q)::jC L b o)=_;by_cases c:q.1=b;· rw[if_pos c,aZ,beq_self_eq_true]
    · rw[if_neg c,aZ,beq_false_of_ne (λz=>c z.symm)]
      rw[bw] at h;exact ih ((aA.mp h).resolve_left λz=>c z.symm)
theorem jF.put{S:aw->Prop}{L:bW}{U:HO}{o:OO}(h:jF S H L)(hb:b∈L.map (·.1))(N:S b)(hk:oR S (upd H b U) b o):jF S (upd H b U) (jC L b o):=by
 refine⟨by rw[HS];exact h.1,λa o' e=>?_⟩;by_cases c:a=b
 .subst c;rw[BZ hb] at e;cases e;exact hk
 .rw[mR c] at e;exact(h.2 a o' e).imp (λx v q=>q.keep (aP.set N)) λd q=>by rw[aM c];exact q
noncomputable def xp(v:V)(f:Bool)(L:bW):Cu where
 v:=v
 F:=L.map (·.1)
 f:=f
 P:=λS H=>jF S H L
 keep:=λk p=>⟨p.1,λa o e=>(p.2 a o e).imp (λx v q=>q.kp k) λU q=>k.own _ (nA e) _ q⟩
 av:=λz p=>⟨p.1,λa o e=>(p.2 a o e).imp (λx v q=>q.av z) λU q=>q⟩
 fresh:=λhp p=>⟨p.1,λa o e=>(p.2 a o e).imp (λx v q=>q.fresh hp) λU q=>q⟩
def gh(G:Gx)(ρ:Rh)(te:TE)(Ψ:aw->Prop):Prop:=∀nb σ H (Q:VK),Wd G nb ρ σ H->(∀b H',Ψ b->Step G.B H H'->Q (.ref b) H')->te σ H Q
section
variable{G:Gx}{ρ:Rh}{ta tb te:TE}{t:TA}{E:DE}{i j:Nat}{v:V}{f:Bool}{L:bW}{K:PySem.W.Frag}{Φ:Pd}{Ψ:aw->Prop}{r:aw}
theorem Wd.rP(W:Wd G nb ρ σ H)(e:ρ[i]?=some (.cu (xp v f L))):σ[i]?=some (some v)/\(∀a∈L.map (·.1),nb a/\NB G.B a)/\jF (G.S nb f) H L:=by
 obtain⟨x,e1,h1,h2,h3⟩:=W.ok i _ e;exact⟨by rw[e1,h1];rfl,h2,h3⟩
theorem gh.root(e:ρ[i]?=some (.cu (xp (.ref r) f L)))(h:Ψ r):gh G ρ (bz i) Ψ:=λnb σ H Q W z=>⟨.ref r,(W.rP e).1,z r H h (.refl W.ao)⟩
theorem gh.raw{b:aw}(e:ρ[j]?=some (.raw (.ref b)))(h:Ψ b):gh G ρ (bz j) Ψ:=λnb σ H Q W z=>by
 obtain⟨x,e1,h1⟩:=W.ok j _ e;have h1:x=some (.ref b):=h1;exact⟨.ref b,by rw[e1,h1],z b H h (.refl W.ao)⟩
theorem gh.iI(e:ρ[i]?=some (.cu (xp v f L)))(h:gh G ρ ta λb=>Ev G ρ tb λ_ y=>∃k xs c,y= .int k/\L.lookup b=some (.tup xs)/\bO xs k=some (.own c)/\Ψ c):gh G ρ (dG (cY K) ta tb) Ψ:=λnb σ H Q W z=>
 h nb σ H _ W λb H1 q s1=>q nb σ H1 _ (W.step s1) λg u H2 y ⟨k,xs,c,m,hb,hc,p⟩ s2 hu=>by
  subst m;obtain⟨vs,h1,h2⟩:=(((W.step s1).step s2).rP e).2.2.2 b _ hb;obtain⟨t,e1,e2⟩:=h2.at hc;have e2:t= .ref c:=e2;subst e2;exact⟨b,vs,k, .ref c,rfl,hu.cz,fY.of h1,e1,z c H2 p (s1.trans s2)⟩
theorem Sv.zY(e:ρ[i]?=some (.cu (xp v f L)))(h:gh G ρ ta λb=>∃xs,L.lookup b=some (.lst xs)/\E.nx (ρ.set i (.cu (xp v f (jC L b (.lst [])))))):
  Sv G ρ (o8 (xy K "list" Ba ta)) E:=λnb σ H D W KK=>
 h nb σ H _ W λb H1 ⟨xs,hb,p⟩ s1=>by
  have W1:=W.step s1;obtain⟨_,I,hk⟩:=W1.rP e;obtain⟨vs,h1,h2⟩:=hk.2 b _ hb;have hbm:=nA hb
  refine⟨.inl ⟨rfl,_,aO.of h1⟩,b,vs,rfl,rfl,h1,KK.nx nb _ _ _ p (W1.zI e hbm rfl (λa ha=>by
   have ha:a∈(jC L b (.lst [])).map (·.1):=ha;rw[HS] at ha;exact ha) ?_)⟩
  exact hk.put hbm (.inl (I b hbm).1) ⟨[],aT, .nil⟩
theorem Sv.forA{s:TS}(e:ρ[i]?=some (.cu (xp v f L)))(h:gh G ρ ta λb=>∃bs:List aw,L.lookup b=some (.lst (bs.map .own))/\∃I:Nat->Rh->Prop,I 0 ρ/\(∀m C,I m C->∃(a:Nat) (t:V) (d:Bool) (g:bW),C[a]?=some (.cu (xp t d g))/\g.lookup b=some (.lst (bs.map .own)))/\
   (∀m c C,bs[m]?=some c->I m C->Sv G (C.set j (.raw (.ref c))) s {nx:=I (m+1),rt:=E.rt,bk:=E.nx,ct:=I (m+1),rw:=E.rw})/\∀C,I bs.length C->E.nx C):
  Sv G ρ (pJ (mL K ta) (gc j) s) E:=λnb σ H D W KK=>
 h nb σ H _ W λb H1 ⟨bs,hb,I,h0,hI,ht,he⟩ s1=>by
  have W1:=W.step s1;have key:∀{nb C σ H m},Wd G nb C σ H->I m C->H b=some (.lst (bs.map .ref)):=λ{nb C σ H m} W q=>by
   obtain⟨a,t,d,g,e',l⟩:=hI m C q;obtain⟨vs,h1,h2⟩:=(W.rP e').2.2.2 b _ l;rw[h1]
   congr 2
   apply lD;intro n;by_cases hn:n<bs.length
   .have hl:=h2.1;rw[ak] at hl;have e1:vs[n]?=some (vs[n]'∅):=aQ _;have:=h2.2 n (.own bs[n]) _ (by rw[cB,aQ hn];rfl) e1;have this:vs[n]'∅= .ref bs[n]:=this;rw[e1,this,cB,aQ hn];rfl
   .have hl:=h2.1;rw[ak] at hl;rw[mT ∅,mT (by rw[ak];omega)]
  refine⟨b,rfl,⟨_,aO.of (key W1 h0)⟩,?_⟩;refine DM (xs:=bs.map .ref) (λm σ H=>∃nb C,I m C/\Wd G nb C σ H) ⟨nb,ρ,h0,W1⟩ (λm σ H _ ⟨nb,C,q,W⟩=>aO.of (key W q)) ?_ ?_
  .rintro m x σ H hx ⟨nb,C,q,W⟩;rw[cB] at hx;obtain⟨c,hc,rfl⟩:=jJ.mp hx;refine ht m c C hc q nb _ H _ (W.set (s:= .raw (.ref c)) (x:=some (.ref c)) rfl (λ_ _ _ z=>by cases z)) ?_;exact⟨λnb ρ σ H q W=>⟨nb,ρ,q,W⟩,KK.nx,λnb ρ σ H q W=>⟨nb,ρ,q,W⟩,KK.rt,KK.rw⟩
  .rintro σ H ⟨nb,C,q,W⟩;rw[ak] at q;exact KK.nx nb C σ H (he C q) W
end
inductive gf(L:bW):Oi->PyData->Prop
 |dat (x:PyData):gf L (.dat x) x
 |lst {b:aw} {xs:List Oi} {ds:List PyData} (e:L.lookup b=some (.lst xs)) (h:ds.length=xs.length) (q:∀(i:Nat) x d,xs[i]?=some x->ds[i]?=some d->gf L x d):gf L (.own b) (.list ds)
 |tup {b:aw} {xs:List Oi} {ds:List PyData} (e:L.lookup b=some (.tup xs)) (h:ds.length=xs.length) (q:∀(i:Nat) x d,xs[i]?=some x->ds[i]?=some d->gf L x d):gf L (.own b) (.tuple ds)
theorem gf.Io{S S':aw->Prop}{L:bW}(h:jF S H L)(N:∀a,S' a->S a)(hn:∀a∈L.map (·.1),¬S' a){x:Oi}{d:PyData}(q:gf L x d):∀{v:V},dY S H x v->ah S' H d v:=by
  induction q with
  |dat x=>intro v hv;exact ah.av N hv
  | lst e hl _ ih =>
    intro v hv;have hv:v=_:=hv;subst hv;obtain⟨vs,h1,h2⟩:=h.2 _ _ e;refine .lst (hn _ (nA e)) h1 (FW (by rw[h2.1,hl]) λi d v e1 e2=>?_);have hi:=(bH.mp e1).1;have hx:=aQ (l:=_) (i:=i) (by rw[<-hl];exact hi);exact ih i _ d hx e1 (h2.2 i _ v hx e2)
  | tup e hl _ ih =>
    intro v hv;have hv:v=_:=hv;subst hv;obtain⟨vs,h1,h2⟩:=h.2 _ _ e;refine .tup (hn _ (nA e)) h1 (FW (by rw[h2.1,hl]) λi d v e1 e2=>?_);have hi:=(bH.mp e1).1;have hx:=aQ (l:=_) (i:=i) (by rw[<-hl];exact hi);exact ih i _ d hx e1 (h2.2 i _ v hx e2)
theorem gf.sE{L:bW}(e:L.lookup b=some (.lst (ds.map .dat))):gf L (.own b) (.list ds):=by
 refine .lst e (by rw[ak]) λi x d e1 e2=>?_;rw[cB,e2] at e1;cases e1;exact .dat d
section
variable{G:Gx}{ρ:Rh}{ta tb te:TE}{t:TA}{E:DE}{i j:Nat}{f:Bool}{L:bW}{K:PySem.W.Frag}{Φ:Pd}{r:aw}{d:PyData}
theorem Wd.IG(W:Wd G nb ρ σ H)(e:ρ[i]?=some (.cu (xp (.ref r) f L)))(hd:gf L (.own r) d):Wd G (λx=>nb x/\x∉L.map (·.1)) (ρ.set i (.d f d)) σ H:=
 W.Xf e λp hn=>hd.Io p (bM (λz=>z) λ_ z=>z.1) (λa m z=>by
  obtain⟨J,M,q3⟩:=hn a m;rcases z with z|z|z|z
  .exact z.2 m
  .exact M z
  .exact z q3
  .exact z.2 J) rfl
theorem Tv.UB{c:TT}{Θ:Bool->Prop}(i:Nat)(e:ρ[i]?=some (.cu (xp (.ref r) f L)))(hd:gf L (.own r) d)(h:Tv G (ρ.set i (.d f d)) c Θ):Tv G ρ c Θ:=λnb σ H Q W z=>h _ σ H Q (W.IG e hd) z
end
abbrev SF:=List PyData->(V->bW->Prop)->Prop
def xx(F:SF):Prop:=∀ds (Φ Ψ:V->bW->Prop),F ds Φ->(∀v L,Φ v L->Ψ v L)->F ds Ψ
section
variable{p n m:Int}{c1 c2 cs:List aC}{u w:List Int}
theorem XM(a:Df p n cs)(hl:ws.length=n.toNat)(hw:∀x∈ws,0<=x/\x<p)(h:brk p cs ws=0):sf p cs ws n.toNat=[]:=by
  have hb:=List.countP_eq_zero.mp h;refine List.flatMap_eq_nil_iff.mpr λi hi=>?_;have hi:=qX.mp hi;unfold GF;have b:uZ (qM p cs ws (i:Int)) (ws.getD i 0)=[]:=by
    cases e:uZ (qM p cs ws (i:Int)) (ws.getD i 0) with
    |nil=>rfl
    | cons x r =>
      exfalso;have hx:x∈uZ (qM p cs ws (i:Int)) (ws.getD i 0):=by rw[e];exact bY
      have Ll:=lM.mp (IE hx);have hg:=Ll.2;unfold E8 at hg;rw[eZ,decide_eq_true_eq] at hg;refine hg.1 ?_;have hm:=Ll.1;unfold qM at hm;obtain⟨q,hq,rfl⟩:=fk.mp hm;obtain⟨c,prs,f,hc,_,_,rfl⟩:=RN (aF _) hq;have hz:=hb prs (c8 hc);have hz:bQ prs (ws.map some)%p=0:=by simpa using hz
      show(ws.getD (i:Int).toNat 0-bQ (cs.getD (c:Int).toNat []) (ws.map some)%p*sol p f 1)%p=_;rw[mx,mx,show cs.getD c []=prs by rw[ko,hc];rfl,hz,tu,uT];have:=hw (ws.getD i 0) (by rw[ko,aQ ∅];exact iA _);exact vU this.1 this.2
  rw[b];rfl
inductive Way(p:Int)(cs:List aC)(n k:Nat)(ws:List Int):Prop
 |held (hb:brk p cs ws=0) (ht:sf p cs ws n=[])
 |rest (hb:brk p cs ws≠0) (ht:sf p cs ws n=[])
 |on (hb:brk p cs ws≠0) (ht:sf p cs ws n≠[])
theorem way(a:Df p n cs){ws:List Int}(hl:ws.length=n.toNat)(hw:∀x∈ws,0<=x/\x<p)(k:Nat):Way p cs n.toNat k ws:=by
 by_cases h1:brk p cs ws=0;·exact .held h1 (XM a hl hw h1)
 by_cases h2:sf p cs ws n.toNat=[];·exact .rest h1 h2
 .exact .on h1 h2
end
def Wv(cs:List aC):Prop:=cs.Pairwise λa b=>∀x y:Int,x≠y->x∈a.map (·.1)->y∈a.map (·.1)->x∈b.map (·.1)->y∈b.map (·.1)->False
structure MS(p n:Int)(cs:List aC)(ws:List Int):Prop where
 v:Df p n cs
 a:Wv cs
 t:∀prs∈cs,bQ prs (ws.map some)%p=0
 l:ws.length=n.toNat
 r:∀x∈ws,0<=x/\x<p
section
variable{p n:Int}{cs:List aC}{ws xs O:List Int}{i:Nat}
theorem wr(h:MS p n cs ws)(hi:i<n.toNat):0<=ws.getD i 0/\ws.getD i 0<p:=by
 have:=h.l;exact h.r _ (by rw[ko,aQ ∅];exact iA _)
end
section
variable{p n:Int}{d:Nat}{cs:List aC}{ws L:List Int}
def only(cs:List aC)(L:List Int)(x:Int)(c:Nat):Prop:=((cs.getD c []).filter λpr=>decide (pr.1∈L)).map (·.1)=[x]
end
section
variable{prog:be}{w:cx}{A:cC}{E:ag->ar->Prop}{h:ek}{g:Array nR}{d:Drawn}{t:Nat}{os:OsState}{a:aw}{o:Obj}{K:PySem.W.Frag}
 {nm q:Str} {C N:aw} {bs bm:List ag} {hdct:Bool} {sn:List Str} {sub:List ag} {ab:Bool} {col:Option Bool} {dd:Option aw} {k0 k1 k2 k3 k5:Option ag} {newId:String}
end
section
variable{ρ:Rh}{t:TS}{N:List Str}{us ws:List V}{ds:List PyData}{nb:aw->Prop}{H:Hp}{Q:VK}{Φ:Cu->Pd}{c:Cu}{k:Nat}{σ:qb}
theorem Ng(hl:gy nb H)(I:∀a∈c.F,nb a)(hf:c.f=false)(Y:c.P nb H)(hlen:σ.length=ρ.length)(hk:ρ[k]?=some (.cu c))(u:σ[k]?=some (some c.v))
  (hs:∀(i:Nat) s,i≠k->ρ[i]?=some s->(s= .no/\∃x,σ[i]?=some x)\/∃d v,s= .d false d/\σ[i]?=some (some v)/\ah nb H d v):Wd (eO c.F H nb) (λa=>a∈c.F) ρ σ H:=by
 have y:∀a,NB (eO c.F H nb).B a:=λa b l e=>by cases e
 have av:∀a,(eO c.F H nb).S (λa=>a∈c.F) false a->nb a:=λa z=>by
  rcases z with z|z|z|z
  .exact I a z
  .exact z.1
  .exact absurd (y a) z
  .cases z.1
 have cs:∀{i:Nat} {s:Sl},ρ[i]?=some s->s.adr≠[]->i=k:=λ{i s} e z=>iS λh=>by
  rcases hs i s h e with ⟨rfl,_⟩|⟨d,v,rfl,_⟩<;>exact z rfl
 refine⟨λ_ _ z=>(by cases z),λa z=>hl a (I a z),λa o _ e=>?_,λa z _=>by show(if a∈c.F then none else H a)=none;rw[if_pos z],λa z=>?_,hlen,λ_ _ z=>(by cases z),λ_ m=>(by cases m),λi s e=>?_,λi j a f as c2 g n hij e1 e2=>?_,λi j a f as c2 g n hij e1 e2=>?_,λi j c2 s hij e1 e2 a m z=>?_⟩
 .have e:(if a∈c.F then none else H a)=some o:=e;by_cases z:a∈c.F;·rw[if_pos z] at e;cases e
  .rwa[if_neg z] at e
 .show(if a∈c.F then none else H a)≠none;rw[if_neg z.2];exact hl a z.1
 .by_cases h:i=k
  .subst h;rw[hk] at e;cases e
   exact⟨_,u,rfl,λa m=>⟨m,y a⟩,by rw[hf];exact c.av av Y⟩
  .rcases hs i s h e with ⟨rfl,x,hx⟩|⟨d,v,rfl,hv,q⟩
   .exact⟨x,hx,trivial⟩
   .exact⟨some v,hv,v,rfl,q.av av⟩
 .have:=cs e1 (λz=>by cases z);subst this;rw[hk] at e1;cases e1
 .have:=cs e1 (λz=>by cases z);subst this;rw[hk] at e1;cases e1
 .have h1:=cs e1 (λw=>by rw[show(Sl.cu c2).adr=c2.F from rfl] at w;rw[w] at m;cases m);have h2:=cs e2 (λw=>by rw[w] at z;cases z);omega
theorem RS{C:Rh}{L:qb}(W:Wd (eO c.F H nb) ay C L H')(e:C[k]?=some (.cu c'))(up:nJ c c'):lN c c' H H'/\c'.P (λa=>nb a\/a∈c'.F) H'/\∀f a,nb a\/a∈c'.F\/(f=true/\H a≠none)->(eO c.F H nb).S ay f a:=by
 have y:∀a,NB (eO c.F H nb).B a:=λa b l e=>by cases e
 obtain⟨Z,e1,h1,h2,h3⟩:=W.ok k _ e;have u:∀(f:Bool) a,nb a\/a∈c'.F\/(f=true/\H a≠none)->(eO c.F H nb).S ay f a:=λf a z=>by
  by_cases m:a∈c'.F;·exact .inl (h2 a m).1
  have m':a∉c.F:=λz=>m (up.sub a z);rcases z with z|z|z
  .exact .inr (.inl ⟨z,m'⟩)
  .exact absurd z m
  .exact .inr (.inr (.inr ⟨z.1,by show(if a∈c.F then none else H a)≠none;rw[if_neg m'];exact z.2⟩))
 refine⟨⟨up.v,up.f,up.sub,λa m=>?_,λa o n q=>?_,λa m=>W.live a (h2 a m).1⟩,c'.av (λa z=>by rw[up.f];exact u false a (z.elim .inl λz=> .inr (.inl z))) h3,u⟩
 .have:=W.cP a (h2 a m).1 (h2 a m).2;by_cases z:a∈c.F;·exact .inl z
  .exact .inr (by have q:(if a∈c.F then none else H a)=none:=this;rwa[if_neg z] at q)
 .exact W.old a o (y a) (by show(if a∈c.F then none else H a)=_;rw[if_neg n];exact q)
end
end L2
variable{L:L2.bW}{Ψ:L2.V->L2.bW->Prop}
namespace L2
open PySem PySem.Spec PyProof.Rows PySem.NumText
noncomputable abbrev nS(n:Int):Str:=g5 (toString n)
end L2
namespace L2
def p7(S:aw->Prop)(H:Hp)(bs:List aw)(aG:List (List PyData)):Prop:=∀(i:Nat) b ds,bs[i]?=some b->aG[i]?=some ds->∃xs,H b=some (.lst xs)/\af S H ds xs
theorem p7.snoc{S:aw->Prop}{bs:List aw}(hl:bs.length=aG.length)(h:p7 S H bs aG)(q:∃xs,H b=some (.lst xs)/\af S H ds xs):p7 S H (bs++[b]) (aG++[ds]):=λi c es e1 e2=>by
 rcases D3 i bs.length with z|z|z
 .rw[fG z] at e1;rw[fG ∅] at e2;exact h i c es e1 e2
 .subst z;rw[gb (aF _),xN] at e1;rw[hl,gb (aF _),xN] at e2;cases e1;cases e2;exact q
 .rw[mT (by rw[gx,j8];omega)] at e1;cases e1
section
variable{G:Gx}{ρ bL:Rh}{te ta tb t0:TE}{gt:TG}{mp:List (Option Nat)}{K:PySem.W.Frag}{Θ:List (List PyData)->Prop}{E:DE}
structure DS(L:bW)(c a0:aw)(bs:List aw)(d1 d2:PyData)(aG:List (List PyData)):Prop where
 nd:(c::a0::bs).Nodup
 len:bs.length=aG.length
 hc:L.lookup c=some (.tup [.dat d1, .dat d2, .own a0])
 h0:L.lookup a0=some (.lst (bs.map .own))
 hb:∀(i:Nat) b ds,bs[i]?=some b->aG[i]?=some ds->L.lookup b=some (.lst (ds.map .dat))
theorem JE{c:aw}{bs:List aw}{d1 d2:PyData}(hc:L.lookup c=some (.tup [.dat d1, .dat d2, .own a0]))(h0:L.lookup a0=some (.lst (bs.map .own)))(len:bs.length=aG.length)
    (hb:∀(i:Nat) b ds,bs[i]?=some b->aG[i]?=some ds->L.lookup b=some (.lst (ds.map .dat))):gf L (.own c) (.tuple [d1,d2, .list (aG.map .list)]):=by
  refine .tup hc rfl λi x d e1 e2=>?_
  match i with
  |0=>cases e1;cases e2;exact .dat _
  |1=>cases e1;cases e2;exact .dat _
  | 2 =>
    cases e1;cases e2;refine .lst h0 (by rw[ak,ak,len]) λj y e g1 g2=>?_;rw[cB] at g1 g2;obtain⟨b,l,rfl⟩:=jJ.mp g1;obtain⟨ds,D,rfl⟩:=jJ.mp g2;exact gf.sE (hb j b ds l D)
  |i+3=>cases e1
theorem DS.V6{c:aw}{bs:List aw}{d1 d2:PyData}(h:DS L c a0 bs d1 d2 aG):gf L (.own c) (.tuple [d1,d2, .list (aG.map .list)]):=JE h.hc h.h0 h.len h.hb
end
inductive Sg where
 |lt (a b:Int)|ck (prs:aC) (r:Int)
noncomputable abbrev MR:=List (Int×Sg)
structure Pc where
 wd:Wo
 wh:Int->Option PyData
structure Yr(L:bW)(o o1 o2:aw)(m:Int)(ns gs:List Int):Prop where
 nd:[o,o1,o2].Nodup
 h0:L.lookup o=some (.lst [.dat (.int m), .own o1, .own o2])
 h1:L.lookup o1=some (.lst (ns.map λn=> .dat (.int n)))
 h2:L.lookup o2=some (.lst (gs.map λn=> .dat (.int n)))
variable{p n many:Int}{es:MR}
end L2
namespace L2
def k9(G:Gx)(ρ:Rh)(te:TE)(Φ:Rh->Bool->List PyData->Prop):Prop:=∀nb σ H (Q:VK),Wd G nb ρ σ H->
 (∀ay C f a xs H1 H' ds,Φ C f ds->Wd G ay C σ H1->Step G.B H1 H'->H1 a=none->H' a=some (.lst xs)->af (λx=>G.S ay f x\/x=a) H' ds xs->Q (.ref a) H')->te σ H Q
section
variable{G:Gx}{ρ:Rh}{Φ:Rh->Pd}{ta tb te:TE}{t:TA}{K:PySem.W.Frag}{i:Nat}{E:DE}{Θ:Rh->Bool->List PyData->Prop}
theorem Sv.HG(h:k9 G ρ te λC f ds=>∀a,E.nx (C.set i (.own a f ds))):Sv G ρ (fP te (gc i)) E:=λnb σ H D W K=>
 h nb σ H _ W λay C f a xs H1 H' ds q W1 st n e hd=>K.nx _ _ _ H' (q a) (Sv.A8 W1 st n e hd)
end
theorem AS(xs:Wo):c5 (eV xs)=true:=by
 have h:=QH xs;unfold eV c5;simp[br,ej,h.1,h.2]
abbrev CNF:=Cu->List PyData->(Cu->Bool->List PyData->Prop)->Prop
def C2(F:CNF):Prop:=∀c ds (Φ Ψ:Cu->Bool->List PyData->Prop),F c ds Φ->(∀c f l,Φ c f l->Ψ c f l)->F c ds Ψ
def mz(n:Nat)(F:CNF):Sp:=λvs H Q _=>vs.length=n/\∃(nb:aw->Prop) (c:Cu) (ws:List V) (ds:List PyData),vs=c.v::ws/\gy nb H/\(∀a∈c.F,nb a)/\c.f=false/\c.P nb H/\af nb H ds ws/\
 F c ds λc' f l=>∀a xs H',lN c c' H H'->c'.P (λx=>nb x\/x∈c'.F\/x=a) H'->H a=none->a∉c'.F->H' a=some (.lst xs)->af (λx=>nb x\/x∈c'.F\/x=a\/(f=true/\H x≠none)) H' l xs->Q (.ref a) H'
theorem HN{F:CNF}{Q:VK}{E:XK}(h:mz n F vs H Q E):∃(nb:aw->Prop) (c:Cu) (ws:List V) (ds:List PyData) (Φ:Cu->Bool->List PyData->Prop),vs=c.v::ws/\gy nb H/\(∀a∈c.F,nb a)/\c.f=false/\c.P nb H/\af nb H ds ws/\
  (∀c' f l a xs H',Φ c' f l->lN c c' H H'->c'.P (λx=>nb x\/x∈c'.F\/x=a) H'->H a=none->a∉c'.F->H' a=some (.lst xs)->af (λx=>nb x\/x∈c'.F\/x=a\/(f=true/\H x≠none)) H' l xs->Q (.ref a) H')/\F c ds Φ:=by
 obtain⟨_,nb,c,ws,ds,h1,h2,h3,h4,h5,p,d⟩:=h;exact⟨nb,c,ws,ds,λc' f l=>∀a xs H',lN c c' H H'->c'.P (λx=>nb x\/x∈c'.F\/x=a) H'->H a=none->a∉c'.F->H' a=some (.lst xs)->af (λx=>nb x\/x∈c'.F\/x=a\/(f=true/\H x≠none)) H' l xs->Q (.ref a) H',h1,h2,h3,h4,h5,p,λc' f l a xs H' q=>q a xs H',d⟩
noncomputable def zl(G:Gx)(c:Cu)(Φ:Cu->Bool->List PyData->Prop):DE where
 nx:=λ_=>False
 rt:=λ_ _=>False
 rw:=λnb ρ v H=>∃c' f l a xs,v= .ref a/\ρ[0]?=some (.cu c')/\nJ c c'/\Φ c' f l/\c'.P (λx=>G.S nb false x\/x=a) H/\G.H0 a=none/\a∉c.F/\a∉c'.F/\H a=some (.lst xs)/\af (λx=>G.S nb f x\/x=a) H l xs
section
variable{ρ:Rh}{t:TS}{N:List Str}{ws:List V}{ds:List PyData}{nb:aw->Prop}{H:Hp}{Q:VK}{Φ:Cu->Bool->List PyData->Prop}{c:Cu}
theorem Sv.Ka(hl:gy nb H)(I:∀a∈c.F,nb a)(hf:c.f=false)(Y:c.P nb H)(hd:af nb H ds ws)
  (G:∀c' f l a xs H',Φ c' f l->lN c c' H H'->c'.P (λx=>nb x\/x∈c'.F\/x=a) H'->H a=none->a∉c'.F->H' a=some (.lst xs)->af (λx=>nb x\/x∈c'.F\/x=a\/(f=true/\H x≠none)) H' l xs->Q (.ref a) H')
  (r:ρ= .cu c::ds.map (Sl.d false)++cj (N.length-(ds.length+1)) .no) (h:Sv (eO c.F H nb) ρ t (zl (eO c.F H nb) c Φ)):t {nx:=λ_ H'=>Q .aD H',rt:=Q} (start N (c.v::ws)) H:=by
 have hlen:=hd.length;refine h (λa=>a∈c.F) _ H _ (Ng (k:=0) hl I hf Y ?_ ?_ ?_ λi s hi e=>?_) ⟨λay C L H' q W=>q.elim,λ_ _ _ _ q _=>q.elim,λ_ _ _ _ q _=>q.elim,λ_ _ _ _ _ _ _ q _ _=>q.elim,λay C L v H' ⟨c',f,l,a,xs,ev,e,up,p,g1,g2,u,g,b,j⟩ W=>?_⟩;·rw[r];unfold start;simp;omega
 .rw[r];rfl
 .unfold start;rfl
 .rw[r] at e;unfold start;obtain⟨m,rfl⟩:∃m,i=m+1:=⟨i-1,∅⟩;simp only[j5,jS,bw,eY] at e⊢;by_cases hi:m<ds.length
  .right
   rw[fG (by rw[ak];exact hi)] at e;obtain⟨v,d,hv,e2,q⟩:=j3 hd e;refine⟨d,v,e2,?_,q⟩;rw[fG (by rw[ak,hlen];exact hi),cB,hv];rfl
  .left
   rw[gb (by rw[ak];omega),fZ] at e;split at e
   .rename_i h'
    cases e;rw[ak] at h';exact⟨rfl,none,by rw[gb (by rw[ak];omega),fZ,if_pos (by rw[ak,hlen];exact h')]⟩
   .cases e
 .obtain⟨J,M,q3⟩:=RS W e up;subst ev;refine G c' f l a xs H' p J (c'.av (λx z=>?_) g1) ?_ g b (j.av λx z=>?_)
  .rcases z with z|z|z
   .exact .inl (q3 false x (.inl z))
   .exact .inl (q3 false x (.inr (.inl z)))
   .exact .inr z
  .have g2:(if a∈c.F then none else H a)=none:=g2;rwa[if_neg u] at g2
  .rcases z with z|z|z|z
   .exact .inl (q3 f x (.inl z))
   .exact .inl (q3 f x (.inr (.inl z)))
   .exact .inr z
   .exact .inl (q3 f x (.inr (.inr z)))
end
section
variable{G:Gx}{ρ:Rh}{ta tb te:TE}{t:TA}{K:PySem.W.Frag}{i j n:Nat}{E:DE}{Θ:Rh->Bool->List PyData->Prop}{c:Cu}{C:aw}{m:Str}{F:CNF}{F0:List aw}{H0:Hp}{nO:aw->Prop}{Φ:Cu->Bool->List PyData->Prop}
theorem Sv.VP(h:k9 (eO F0 H0 nO) ρ te λC f l=>∃c',C[0]?=some (.cu c')/\nJ c c'/\Φ c' f l):Sv (eO F0 H0 nO) ρ (oU te) (zl (eO F0 H0 nO) c Φ):=λnb σ H D W KK=>
 h nb σ H _ W λay C f a xs H1 H' l ⟨c',e,up,p⟩ W1 st hn hx hd=>by
  obtain⟨Z,e1,c1,c2,L⟩:=W1.ok 0 _ e;rw[up.f] at L;have hN:NB (eO F0 H0 nO).B a:=λb l e=>by cases e
  have ha:a∉c'.F:=λz=>W1.live a (c2 a z).1 hn;have T:∀x o,H1 x=some o->H' x=some o:=λx o q=>st.1 x o (λb l e=>by cases e) q;refine KK.rw ay C σ _ H' ⟨c',f,l,a,xs,rfl,e,up,p,c'.keep (.of λx o _ q=>T x o q) (c'.fresh hn L),?_,λz=>ha (up.sub a z),ha,hx,hd⟩ (W1.step st);cases q:(eO F0 H0 nO).H0 a with
  |none=>rfl
  |some o=>rw[W1.old a o hN q] at hn;cases hn
theorem Sv.Of{f:Bool}{l:List PyData}(O:ρ[0]?=some (.cu c'))(up:nJ c c')(hi:i≠0)(e:ρ[i]?=some (.own a f l))(p:Φ c' f l):Sv (eO F0 H0 nO) ρ (oU (bz i)) (zl (eO F0 H0 nO) c Φ):=λnb σ H D W KK=>by
 obtain⟨Z,e1,c1,c2,L⟩:=W.ok 0 _ O;rw[up.f] at L;obtain⟨x1,B,g1,g2,u,xs,hx,hd⟩:=W.ok i _ e;subst g1;have ha:a∉c'.F:=λz=>W.dw 0 i c' _ (bJ hi) O e a z (aN.mpr rfl);refine⟨.ref a,B,KK.rw nb ρ σ _ H ⟨c',f,l,a,xs,rfl,O,up,p,c'.av (λx z=>?_) L,W.cP a g2 u,λz=>ha (up.sub a z),ha,hx,hd.av λx z=>?_⟩ W⟩
 .rcases z with z|z
  .exact z
  .rw[z];exact .inl g2
 .rcases z with z|z
  .exact z
  .rw[z];exact .inl g2
theorem k9.ID(hm:C2 F)(e:ρ[i]?=some (.cu c))(b:c.f=false)(hi:∀S H,c.P S H->∃a dx fs,c.v= .ref a/\H a=some (.ins C dx fs)/\fs.lookup m=none)
  (h:Av G ρ t λes=>es.length+1=n/\F c (es.map (·.2)) λc' f l=>Θ (ρ.set i (.cu c')) f l):k9 G ρ (pM C m (mz n F) [] E0 (bz i) t) Θ:=λnb σ H Q W z=>by
 obtain⟨Z,e1,h1,h2,h3⟩:=W.ok i _ e;subst h1;obtain⟨a0,dx,fs,g1,g2,u⟩:=hi _ _ h3;refine⟨c.v,e1,a0,dx,fs,g1,g2,u,h nb σ H _ W λes vs H1 ⟨hl,p⟩ s1 J=>?_⟩;have W1:=W.step s1;obtain⟨x1,e2,k1,k2,k3⟩:=W1.ok i _ e;rw[b] at k3;rw[ic];refine⟨by rw[eY,J.len,hl],G.S nb false,c,vs,es.map (·.2),rfl,W1.fL,λa m=> .inl (k2 a m).1,b,k3,J.all (f:=false) (λz=>by cases z),hm _ _ _ _ p λc' f l hp a xs H' to Y hn k hx hd=>?_⟩;obtain⟨g,r⟩:∃g:Hp,g=λx=>if x=a then none else H' x:=⟨_,rfl⟩
 have j:g a=none:=by rw[r];exact if_pos rfl
 have d:∀x,x≠a->g x=H' x:=λx n=>by rw[r];exact if_neg n
 have T:∀x o,H1 x=some o->x≠a:=λx o q z=>by rw[z,hn] at q;cases q
 have W2:=W1.xA (c':=c') (H':=g) e (λx o I w=>by rw[d x (T x o w)];exact to.kp x o I w) to.v (λx m=>(to.new x m).imp id .inl) (λx m=>?_) ?_
 .have N:bU g H':=λx o w=>by
   by_cases hz:x=a;·rw[hz,j] at w;cases w
   .rw[d x hz] at w;exact w
  refine z _ _ f a xs g H' l hp W2 (.same W2.ao N) j hx (hd.av λx y=>?_);rcases y with y|y
  .rcases y with (y|y)|y|y|y
   .exact .inl (.inl y)
   .exact .inr (.inl y)
   .exact .inl (.inr (.inl y))
   .exact .inl (.inr (.inr (.inl y)))
   .exact .inr (.inr (.inr ⟨y.1,W1.fL (f:=true) x (.inr (.inr (.inr ⟨rfl,y.2⟩)))⟩))
  .exact .inr (.inr (.inl y))
 .have hz:x≠a:=by
   rintro rfl;rcases m with m|m
   .exact k (to.sub _ m)
   .exact k m
  rw[d x hz];rcases m with m|m
  .exact to.lv x (to.sub x m)
  .exact to.lv x m
 .rw[to.f];refine c'.av (λx q=>?_) (c'.keep (S:=λx=>G.S nb false x\/x∈c'.F\/x=a) (H:=H') (H':=g) (.of λx o q w=>?_) Y)
  .rcases q with (q|q)|q|q|q
   .exact .inl (.inl q)
   .exact .inr (.inl q)
   .exact .inl (.inr (.inl q))
   .exact .inl (.inr (.inr (.inl q)))
   .cases q.1
  .rw[d x ?_];·exact w
   .rintro rfl;rcases q with q|q
    .exact q (.inr (.inr rfl))
    .exact k q
end
def pL(p n:Int)(prs:aC):Prop:=Vk p n prs/\prs.length<=420
def sq(nb:aw->Prop)(H H':Hp)(L:bW):Prop:=(∀a∈L.map (·.1),H a=none)/\jF (λa=>nb a\/a∈L.map (·.1)) H' L
def m5(n:Nat)(F:SF):Sp:=λvs H Q _=>vs.length=n/\∃(nb:aw->Prop) (ds:List PyData),gy nb H/\af nb H ds vs/\F ds λv L=>∀H',bU H H'->sq nb H H' L->Q v H'
noncomputable def Jw(G:Gx)(Ψ:V->bW->Prop):DE where
 nx:=λ_=>False
 rt:=λ_ _=>False
 rw:=λ_ _ v H=>∃L,Ψ v L/\sq G.A G.H0 H L
section
variable{G:Gx}{ρ:Rh}{ta tb te:TE}{t:TA}{E:DE}{i j:Nat}{K:PySem.W.Frag}
theorem Sv.Ig{Q:VK}{Φ:V->bW->Prop}{ts:TS}(hl:gy nb H)(hd:af nb H ds vs)(G:∀v L H',Φ v L->bU H H'->sq nb H H' L->Q v H')
  (r:ρ=ds.map (Sl.d false)++cj (N.length-ds.length) .no) (h:Sv ⟨none,H,nb,[]⟩ ρ ts (Jw ⟨none,H,nb,[]⟩ Φ)):ts {nx:=λ_ H'=>Q .aD H',rt:=Q} (start N vs) H:=
 Oe (P:=λσ H1=>ts {nx:=λ_ H'=>Q .aD H',rt:=Q} σ H1) hl hd r λay σ H1 W=>h ay σ H1 _ W
  ⟨λ_ _ _ _ q _=>q.elim,λ_ _ _ _ q _=>q.elim,λ_ _ _ _ q _=>q.elim,λ_ _ _ _ _ _ _ q _ _=>q.elim,λYV g k v H2 ⟨L,q,hn⟩ W2=>G v L H2 q (λa o e=>W2.old a o (λ_ _ z=>(by cases z)) e) hn⟩
end
def sG(G:Gx)(ρ:Rh)(te:TE)(Θ:List (List PyData)->Prop):Prop:=∀nb σ H (Q:VK),Wd G nb ρ σ H->
 (∀ a0 (bs : List Addr) (aG : List (List PyData)) H', Θ aG -> Step G.B H H' -> (a0 :: bs).Nodup -> (∀ b ∈ a0 :: bs, H b = none) -> bs.length = aG.length -> H' a0 = some (.lst (bs.map .ref)) ->
  p7 (λx=>G.S nb false x\/x∈a0::bs) H' bs aG->Q (.ref a0) H')->te σ H Q
section
variable{G:Gx}{ρ bL:Rh}{te ta tb t0:TE}{gt:TG}{mp:List (Option Nat)}{K:PySem.W.Frag}{Θ:List (List PyData)->Prop}{E:DE}
theorem sG.i9(hm:(mp.filterMap id).Nodup)(r:kT mp ρ=bL)(h:Ev G ρ t0 λfi x=>∃es,x= .list es/\es.length<=10000/\∀v,∃I:Nat->List (List PyData)->Prop,I 0 []/\
   (∀i d aG,es[i]?=some d->aG.length=i->I i aG->Gv (G.hd fi (.list es) v) bL gt fi d λp=>Wk bL p/\au (G.hd fi (.list es) v) p te λ_ ds=>I (i+1) (aG++[ds]))/\∀aG,aG.length=es.length->I es.length aG->Θ aG):
  sG G ρ (k8 (mL K t0) gt oB te mp) Θ:=λnb σ H Q W z=>
 h nb σ H _ W λfi v H1 x ⟨es,ex,hn,q⟩ s1 hv=>by
  subst ex;obtain⟨I,h0,ht,he⟩:=q v;have W0:=(W.step s1).hd hv;obtain⟨a,xs,rfl,n,hx,hd⟩:=hv.dN;refine⟨a,rfl,⟨xs, .of hx⟩,λacc g=>?_⟩;have w:Wd (G.hd fi (.list es) (.ref a)) nb bL (L2.fT mp σ) H1:=by rw[<-r];exact W0.fT hm
  have hN:=NB.new s1.2 g;have hno:=yv w g;have cG:Step G.B H1 (upd H1 acc (.lst [])):= .same s1.2 (cF g);have W1:=(w.qp (L:=[acc]) cG (λa m=>by rw[aN.mp m];exact g) (λa m=>by rw[aN.mp m,aT];exact dS _)).1;have t:NB G.B a:=iS λz=>n (.inr (.inr (.inl z)));refine R.Di (xs:=xs) (λi σ H=>∃bs aG,Wd (G.hd fi (.list es) (.ref a)) (λx=>nb x\/x∈acc::bs) bL σ H/\Step G.B H1 H/\H acc=some (.lst (bs.map .ref))/\(acc::bs).Nodup/\(∀b∈bs,H1 b=none/\H b≠none)/\bs.length=aG.length/\aG.length=i/\I i aG/\p7 (λx=>G.S nb false x\/x∈acc::bs) H bs aG) ⟨[],[],W1,cG,aT,by simp,(λ_ z=>by cases z),rfl,rfl,h0,λi b ds e=>by cases e⟩ ?_ ?_ ?_
  .rintro i σ H hi ⟨bs,aG,W,st,_⟩;exact .of (st.1 _ _ t hx)
  .rintro i x σ H hi ⟨bs,aG,W,st,hy,hnd,hbn,lT,hdl,hI,pX⟩;obtain⟨u,l,e',_,h',d'⟩:=W.mO.2.dN;cases e';rw[st.1 _ _ t hx] at h';cases h'
   have hil:i<es.length:=by have:=(bH.mp hi).1;have:=d'.length;omega
   obtain⟨J,M,dx⟩:=d'.get (aQ hil);rw[hi] at M;cases M
   refine ht i _ aG (aQ hil) hdl hI _ σ H x _ W dx λk p ⟨wk,q⟩ W2=>?_;refine q _ k H _ W2 λfb b ys H4 ds s s4 C F D=>?_;have rm:=s4.1 _ _ hN hy;refine⟨_,rm,by rw[ak];exact eG (show bs.length<10001 by omega) ⋯,?_⟩;have W4:=((W2.wk wk).qp (L:=[b]) s4 (λa m=>by rw[aN.mp m];exact C) (λa m=>by rw[aN.mp m,F];exact dS _)).1;have Z:(λx=>(nb x\/x∈acc::bs)\/x∈[b])=λx=>nb x\/x∈acc::(bs++[b]):=by
    funext x
    simp[or_assoc]
   rw[Z] at W4
   have E:Wd (G.hd fi (.list es) (.ref a)) (λx=>nb x\/x∈acc::(bs++[b])) bL k (upd H4 acc (.lst (bs.map .ref++[.ref b]))):=W4.write (.inr bY) hN hno.1 (λj a f ds e z=>by
    subst z;obtain⟨_,_,_,_,_,ps,hp,_⟩:=W4.ok j _ e;rw[rm] at hp;cases hp) hno.2
   have A:acc≠b:=λz=>by rw[z,C] at hy;cases hy
   have N:b∉bs:=λz=>(hbn b z).2 C;have Y:NB G.B b:=NB.new W.ao C
   have V:Step G.B H1 (upd H4 acc (.lst (bs.map .ref++[.ref b]))):=⟨λa o n q=>by
    have T:a≠acc:=λz=>by subst z;rw[g] at q;cases q
    rw[aM T];exact(st.trans s4).1 a o n q,E.ao⟩
   have O:H1 b=none:=iS λz=>by
    cases e:H1 b with
    |none=>exact z e
    |some o=>rw[st.1 b o Y e] at C;cases C
   refine⟨bs++[b],aG++[ds],E,V,by rw[aT,e7];rfl,?_,λc hc=>?_,by simp[lT],by simp[hdl],s,?_⟩
   .rw[<-j5];refine nj.mpr ⟨hnd,by simp,λx hx y hy=>?_⟩;rw[aN.mp hy];rintro rfl;rcases aA.mp hx with z|z
    .exact A z.symm
    .exact N z
   .have X:c≠acc:=λz=>by
     rcases fK.mp hc with q|q
     .exact(dU.mp hnd).1 (z▸q)
     .exact A (z▸aN.mp q)
    rw[aM X];rcases fK.mp hc with q|q
    .refine⟨(hbn c q).1,?_⟩;cases e:H c with
     |none=>exact absurd e (hbn c q).2
     |some o=>rw[s4.1 c o (NB.new s1.2 (hbn c q).1) e];exact dS _
    .rw[aN.mp q];exact⟨O,by rw[F];exact dS _⟩
   .have P:∀x,(G.S nb false x\/x∈acc::(bs++[b]))->((G.S nb false x\/x∈acc::bs)\/x=b):=λx z=>by
     rcases z with z|z
     .exact .inl (.inl z)
     .rcases aA.mp z with z|z
      .exact .inl (.inr (z▸bY))
      .rcases fK.mp z with z|z
       .exact .inl (.inr (bA _ z))
       .exact .inr (aN.mp z)
    have bt:aP (λx=>G.S nb false x\/x∈acc::(bs++[b])) H4 (upd H4 acc (.lst (bs.map .ref++[.ref b]))):=aP.set (.inr bY);refine p7.snoc lT (λj c es' e1 e2=>?_) ⟨ys,by rw[aM A.symm];exact F,?_⟩
    .obtain⟨zs,hz,U⟩:=pX j c es' e1 e2;have hcb:=c8 e1;have X:c≠acc:=λz=>(dU.mp hnd).1 (z▸hcb);refine⟨zs,by rw[aM X];exact s4.1 c _ (NB.new s1.2 (hbn c hcb).1) hz,?_⟩;refine af.keep bt (af.av P ?_);exact af.keep (s4.but λx z=> .inl (.inl (.inr (.inr (.inl z))))) (U.fresh C)
    .refine af.keep bt (D.av λx z=>?_);rcases P x z with (z|z)|z
     .refine .inl ?_;rcases z with z|z|z|z
      .exact .inl (.inl z)
      .exact .inr (.inl z)
      .exact .inr (.inr (.inl z))
      .cases z.1
     .exact .inl (.inl (.inr z))
     .exact .inr z
  .rintro σ H' ⟨bs,aG,W',st,hy,hnd,hbn,lT,hdl,hI,pX⟩;rw[hd.length] at hdl hI;refine z acc bs aG H' (he aG hdl hI) (s1.trans st) hnd (λb hb=>?_) lT hy pX;rcases aA.mp hb with q|q
   .rw[q];exact W.none_of s1 g
   .exact W.none_of s1 (hbn b q).1
end
noncomputable def gF(c a0:aw)(bs:List aw)(d1 d2:PyData)(aG:List (List PyData)):bW:=(c, .tup [.dat d1, .dat d2, .own a0])::(a0, .lst (bs.map .own))::g6 (λ(b:aw) (ds:List PyData)=>(b,OO.lst (ds.map .dat))) bs aG
theorem sI:∀{bs:List aw} {aG:List (List PyData)},bs.length=aG.length->(g6 (λ(b:aw) (ds:List PyData)=>(b,OO.lst (ds.map .dat))) bs aG).map (·.1)=bs/\
    ∀b o,(g6 (λ(b:aw) (ds:List PyData)=>(b,OO.lst (ds.map .dat))) bs aG).lookup b=some o->∃(i:Nat) (ds:List PyData),bs[i]?=some b/\aG[i]?=some ds/\o= .lst (ds.map .dat)
  |[],[],_=>⟨rfl,λb o e=>by cases e⟩
  | a :: r, ds :: rs, h => by
    obtain⟨h1,h2⟩:=sI (bs:=r) (aG:=rs) (by simpa using h);rw[List.zipWith_cons_cons];refine⟨by rw[bw,h1],λb o e=>?_⟩;by_cases hb:b=a
    · subst hb
      rw[aZ,beq_self_eq_true] at e;cases e;exact⟨0,ds,rfl,rfl,rfl⟩
    · rw[aZ,beq_false_of_ne hb] at e
      obtain⟨i,k,h1,h2,h3⟩:=h2 b o e;exact⟨i+1,k,h1,h2,h3⟩
theorem Bd{c:aw}{bs:List aw}{d1 d2:PyData}(h:bs.length=aG.length):(gF c a0 bs d1 d2 aG).map (·.1)=c::a0::bs:=by
 unfold gF;rw[bw,bw,(sI h).1]
theorem Ao{c:aw}{bs:List aw}{d1 d2:PyData}(h:bs.length=aG.length){b:aw}{o:OO}(e:(gF c a0 bs d1 d2 aG).lookup b=some o):
  (b=c/\o= .tup [.dat d1, .dat d2, .own a0])\/(b=a0/\o= .lst (bs.map .own))\/∃(i:Nat) (ds:List PyData),bs[i]?=some b/\aG[i]?=some ds/\o= .lst (ds.map .dat):=by
 unfold gF at e;by_cases h1:b=c
 .subst h1;rw[aZ,beq_self_eq_true] at e;cases e;exact .inl ⟨rfl,rfl⟩
 rw[aZ,beq_false_of_ne h1] at e;have e:da b ((a0,OO.lst (bs.map .own))::_)=some o:=e;by_cases h2:b=a0
 .subst h2;rw[aZ,beq_self_eq_true] at e;cases e;exact .inr (.inl ⟨rfl,rfl⟩)
 rw[aZ,beq_false_of_ne h2] at e;exact .inr (.inr ((sI h).2 b o e))
theorem IQ{c:aw}{bs:List aw}{d1 d2:PyData}(M:(c::a0::bs).Nodup)(hl:bs.length=aG.length):DS (gF c a0 bs d1 d2 aG) c a0 bs d1 d2 aG:=by
 obtain⟨n1,n2⟩:=dU.mp M;obtain⟨B,l⟩:=dU.mp n2;have T:a0≠c:=λz=>n1 (z▸bY);unfold gF;refine⟨M,hl,by simp,by rw[aZ,beq_false_of_ne T];simp,λi b ds e1 e2=>?_⟩;have hbm:=c8 e1;have e:b≠c:=λz=>n1 (z▸bA _ hbm);have d:b≠a0:=λz=>B (z▸hbm);rw[aZ,beq_false_of_ne e];show da b ((a0,_)::_)=_;rw[aZ,beq_false_of_ne d];show da b _=_;obtain⟨o,U⟩:=Bc (L:=g6 (λ(b:aw) (ds:List PyData)=>(b,OO.lst (ds.map .dat))) bs aG) (a:=b) (by rw[(sI hl).1];exact hbm);obtain⟨j,k,g1,g2,rfl⟩:=(sI hl).2 b o U;have:i=j:=(List.getElem?_inj (bH.mp e1).1 l).mp (e1.trans g1.symm);subst this;rw[e2] at g2;cases g2
 exact U
section
variable{G:Gx}{ρ:Rh}{te ta tb:TE}{t:TA}{K:PySem.W.Frag}{E:DE}{i k:Nat}{C x dx:aw}{fs:Fs}{f:Str}{s:TS}
theorem Sv.HF(hE:E.rw=(Jw G Ψ).rw)(h:Ev G ρ ta λ_ d1=>fU d1=true/\Ev G ρ tb λ_ d2=>fU d2=true/\sG G ρ te λaG=>∀c a0 bs,(c::a0::bs).Nodup->bs.length=aG.length->Ψ (.ref c) (gF c a0 bs d1 d2 aG)):
    Sv G ρ (oU (pH (aX ta (aX tb (aX te bK))))) E:=λnb σ H D W KK=>
  h nb σ H _ W λB a H1 d1 ⟨v,q⟩ s1 t=>q nb σ H1 _ (W.step s1) λZ n H2 d2 ⟨u,q⟩ s2 f=>q nb σ H2 _ ((W.step s1).step s2) λa0 bs aG H3 p s3 M d hl h0 s=>by
    have W2:=(W.step s1).step s2;have W3:=W2.step s3;refine⟨by show 3<=sizeLine;decide,λc hc=>?_⟩;have g:∀b∈a0::bs,H3 b≠none:=λb hb=>by
      rcases aA.mp hb with z|z
      · rw[z,h0];exact dS _
      · obtain⟨i,hi⟩:=kI z
        have hil:=(bH.mp hi).1;obtain⟨xs,hx,_⟩:=s i b _ hi (aQ (by rw[<-hl];exact hil));rw[hx];exact dS _
    have k:c∉a0::bs:=λz=>g c z hc;have n6:bU H3 (upd H3 c (.tup [a,n, .ref a0])):=cF hc;have W4:=W3.step (Step.same W3.ao n6);have r:(c::a0::bs).Nodup:=dU.mpr ⟨k,M⟩;have hkeys:=Bd (c:=c) (a0:=a0) (d1:=d1) (d2:=d2) hl;refine KK.rw nb ρ σ _ _ ?_ W4;rw[hE];refine⟨_,p c a0 bs r hl,λb hb=>?_,by rw[hkeys];exact r,λb o j=>?_⟩
    · rw[hkeys] at hb
      rcases aA.mp hb with z|z
      · rw[z]
        cases q:G.H0 c with
        |none=>rfl
        |some o=>rw[W3.old c o (NB.new W3.ao hc) q] at hc;cases hc
      · cases q:G.H0 b with
        |none=>rfl
        | some o =>
          have:=d b z;rw[W2.old b o (NB.new W2.ao this) q] at this;cases this
    · rw[hkeys]
      have sub:∀b,(G.A b\/b∈c::a0::bs)->((G.S nb false b\/b∈a0::bs)\/b=c):=λb z=>by
        rcases z with z|z
        · exact .inl (.inl (.inr (.inl z)))
        · rcases aA.mp z with z|z
          · exact .inr z
          · exact .inl (.inr z)
      have up:∀{x:Oi} {y:V},dY (λx=>G.S nb false x\/x∈a0::bs) H3 x y->dY (λb=>G.A b\/b∈c::a0::bs) (upd H3 c (.tup [a,n, .ref a0])) x y:=λ{x y} q=>((q.fresh hc).av sub).keep (aP.of n6);rcases Ao hl j with ⟨rfl,rfl⟩|⟨rfl,rfl⟩|⟨i,ds,e1,e2,rfl⟩
      · exact⟨_,aT, .cons (t.fF v) (.cons (f.fF u) (.cons rfl .nil))⟩
      · have e:b≠c:=λz=>k (z▸bY)
        refine⟨bs.map .ref,by rw[aM e];exact h0,by simp,λi x y g1 g2=>?_⟩;rw[cB] at g1 g2;obtain⟨w,l,rfl⟩:=jJ.mp g1;rw[l] at g2;cases g2
        rfl
      · have e:b≠c:=λz=>k (z▸bA _ (c8 e1))
        obtain⟨xs,hx,m⟩:=s i b ds e1 e2;exact⟨xs,by rw[aM e];exact hx,(fM.sE m).imp λx y q=>up q⟩
theorem Sv.W6{F:SF}(hm:xx F)(h:Av G ρ t λes=>es.length=n/\F (es.map (·.2)) λv L=>∃r,v= .ref r/\au G ρ te λ_ ds=>∀c b,c≠b->c∉L.map (·.1)->b∉L.map (·.1)->(L.map (·.1)).Nodup->E.nx (ρ.set i (.cu (xp (.ref c) false ((c, .tup [.own r, .own b])::(b, .lst (ds.map .dat))::L))))):
  Sv G ρ (fP (pH (aX (fN (m5 n F) [] E0 t) (aX te bK))) (gc i)) E:=λnb σ H D W KK=>
 h nb σ H _ W λes vs H1 ⟨hl,p⟩ s1 J=>by
  have W1:=W.step s1;show m5 n F (vs++[]) H1 _ E0;rw[ic];refine⟨by rw[J.len,hl],G.S nb false,es.map (·.2),W1.fL,J.all (f:=false) (λz=>by cases z),hm _ _ _ p λv L ⟨r,ev,hp⟩ H2 sm ⟨d,hok⟩=>?_⟩;subst ev;have s2:Step G.B H1 H2:= .same W1.ao sm;have W2:=(W1.qp (L:=L.map (·.1)) s2 d hok.live).1;refine hp _ σ H2 _ W2 λg b xs H3 ds q s3 hb hx hd=>?_;refine⟨by show 2<=sizeLine;decide,λc hc=>?_⟩;have W3:=W2.step s3;have s:∀a∈L.map (·.1),NB G.B a:=λa m=>NB.new W1.ao (d a m);have LC:=hok.live;have e:∀a∈L.map (·.1),H3 a≠none:=λa m=>FQ (s a m) s3 (LC a m);have l:b∉L.map (·.1):=λz=>LC b z hb;have w:c∉L.map (·.1):=λz=>e c z hc;have hcb:c≠b:=λz=>by rw[z,hx] at hc;cases hc
  have n6:bU H3 (upd H3 c (.tup [.ref r, .ref b])):=cF hc;have s4:Step G.B H3 (upd H3 c (.tup [.ref r, .ref b])):= .same W3.ao n6;have hkeys:((c,OO.tup [.own r, .own b])::(b, .lst (ds.map .dat))::L).map (·.1)=c::b::L.map (·.1):=rfl;have A:H1 b=none:=W1.none_of s2 hb;have I:H2 c=none:=W2.none_of s3 hc;have C:H1 c=none:=W1.none_of s2 I;refine KK.nx _ _ _ _ (q c b hcb w l hok.1) (W1.E5 (i:=i) (c:=xp (.ref c) false ((c, .tup [.own r, .own b])::(b, .lst (ds.map .dat))::L)) ((s2.trans s3).trans s4) (λa m=>?_) (λa m=>?_) ⟨?_,λa o j=>?_⟩)
  .have m:a∈c::b::L.map (·.1):=m;rcases aA.mp m with z|m
   .rw[z];exact C
   rcases aA.mp m with z|m
   .rw[z];exact A
   .exact d a m
  .have m:a∈c::b::L.map (·.1):=m;by_cases z:a=c;·rw[z,aT];exact dS _
   rw[aM z];rcases aA.mp m with z2|m
   .exact absurd z2 z
   rcases aA.mp m with z2|m
   .rw[z2,hx];exact dS _
   .exact e a m
  .rw[hkeys];exact dU.mpr ⟨λz=>(aA.mp z).elim hcb w,dU.mpr ⟨l,hok.1⟩⟩
  .have av:∀a,(G.S nb false a\/a∈(xp (.ref c) false ((c,OO.tup [.own r, .own b])::(b, .lst (ds.map .dat))::L)).F)->(((G.S nb false a\/a∈L.map (·.1))\/a=b)\/a=c):=λa z=>by
    rcases z with z|z
    .exact .inl (.inl (.inl z))
    .have z:a∈c::b::L.map (·.1):=z;rcases aA.mp z with z|z
     .exact .inr z
     rcases aA.mp z with z|z
     .exact .inl (.inr z)
     .exact .inl (.inl (.inr z))
   by_cases h1:a=c
   .subst h1;rw[aZ,beq_self_eq_true] at j;cases j;exact⟨_,aT, .cons rfl (.cons rfl .nil)⟩
   .rw[aZ,beq_false_of_ne h1] at j;have j:da a ((b,OO.lst (ds.map .dat))::L)=some o:=j;by_cases h2:a=b
    .subst h2;rw[aZ,beq_self_eq_true] at j;cases j;refine⟨xs,by rw[aM h1];exact hx,(fM.sE hd).imp λy u k=>?_⟩;refine((k.fresh hc).keep (aP.of n6)).av λy z=>?_;rcases av y z with ((z|z)|z)|z
     .refine .inl (.inl ?_);rcases z with z|z|z|z
      .exact .inl (.inl z)
      .exact .inr (.inl z)
      .exact .inr (.inr (.inl z))
      .cases z.1
     .exact .inl (.inl (.inl (.inr z)))
     .exact .inl (.inr z)
     .exact .inr z
    .rw[aZ,beq_false_of_ne h2] at j;refine(hok.2 a o j).imp (λy u k=>?_) λU q=>by rw[aM h1];exact s3.1 a U (s a (nA j)) q
     have q3:=(k.fresh hb).keep (H':=H3) (s3.but λx z=> .inl (.inl (.inr (.inr (.inl z)))));exact((q3.fresh hc).keep (aP.of n6)).av av
theorem Wd.Ub{c:Cu}{vs:List (Str×V)}(W:Wd G nb ρ σ H)(s1:Step G.B H H1)(e:ρ[i]?=some (.cu (aR C x dx fs)))(hl:fs.lookup f=none)(hlen:fs.length<900)(k:c.F.Nodup)(p:∀a∈c.F,H a=none)(I:∀a∈c.F,H1 a≠none)
  (Y:c.P (λa=>G.S nb false a\/a∈c.F) H1) (M:H1 x=some (.ins C dx vs)):Wd G (λa=>(nb a\/a∈c.F)\/a∈aW x dx (fs++[(f, .cu c)])) (ρ.set i (.cu (aR C x dx (fs++[(f, .cu c)])))) σ (upd H1 x (.ins C dx (eU f c.v vs))):=by
 obtain⟨R,O,K,_⟩:=W.j9 e;have mZ:∀l∈c.F,l∉aW x dx fs:=λl m z=>W.live l (K l z).1 (p l m);obtain⟨W1,L,J⟩:=W.qp s1 p I;obtain⟨w,e1,h2,n,h3,len,D,r⟩:=W1.j9 e;rw[M] at D;cases D;have hn:=n;unfold aW at hn;obtain⟨n1,n2⟩:=dU.mp hn;have u:dx≠x:=λz=>n1 (by rw[z];exact bY ..);have hx:x∉fs.flatMap λg=>g.2.adr:=λz=>n1 (bA _ z);have A:x∈aW x dx fs:=by simp[aW]
 have h:x∉c.F:=λz=>mZ x z A;have t:aW x dx (fs++[(f, .cu c)])=aW x dx fs++c.F:=by
  unfold aW;rw[Ca];show _::_::(_++(c.F++[]))=_;rw[ic]
  rfl
 have N:∀{a},G.S (λy=>(nb y\/y∈c.F)\/y∈aW x dx (fs++[(f, .cu c)])) false a->G.S (λy=>nb y\/y∈c.F) false a:=λ{a} z=>by
  rcases z with (z|z)|z|z|z
  .exact .inl z
  .rw[t,fK] at z;rcases z with z|z
   .exact .inl (h2 a z).1
   .exact .inl (.inr z)
  .exact .inr (.inl z)
  .exact .inr (.inr (.inl z))
  .exact .inr (.inr (.inr z))
 refine W1.xA (c:=aR C x dx fs) (c':=aR C x dx (fs++[(f, .cu c)])) e (λa o na q=>?_) rfl (λa m=>?_) (λa m=>?_) ?_;·rw[aM (λz=>na (by rw[z];exact A))];exact q
 .rw[show(aR C x dx (fs++[(f, .cu c)])).F=aW x dx fs++c.F from t,fK] at m;rcases m with m|m
  .exact .inl m
  .refine .inr (.inr ⟨.inr m,L a m,λj s hs z=>?_⟩);obtain⟨y,_,q⟩:=W.ok j s hs;exact W.live a (q.sj a z).1 (p a m)
 .by_cases z:a=x;·rw[z,aT];exact dS _
  .rw[aM z];rcases m with m|m
   .exact W1.live a (h2 a m).1
   .rw[show(aR C x dx (fs++[(f, .cu c)])).F=aW x dx fs++c.F from t,fK] at m;rcases m with m|m
    .exact W1.live a (h2 a m).1
    .exact I a m
 .refine⟨?_,by rw[aM u];exact h3,by rw[gx,j8];omega,_,aT,?_⟩
  .rw[t,nj];exact⟨n,k,λa m b m' z=>mZ b m' (by rw[<-z];exact m)⟩
  .have E:G.S (λy=>nb y\/y∈c.F) false x:= .inl (h2 x A).1;have:=bx.AO (f:=f) (fl:= .cu c) (v:=c.v) (o:= .ins C dx (eU f c.v vs)) E ⟨rfl,c.keep (S:=G.S (λy=>nb y\/y∈c.F) false) (.of λa o m q=>?_) (c.av (λa z=>?_) Y)⟩ hx r
   .rw[qJ hl] at this;exact this.map (λd v z=>z.av λa=>N) λg m c' e z=>c'.av (λa=>N) z
   .rw[aM];·exact q
    .rintro rfl;rcases m with m|m
     .exact m E
     .exact h m
   .exact J false a z
theorem Sv.U4{F:SF}(hm:xx F)(e:ρ[i]?=some (.cu (aR C x dx fs)))(cl:dX K C)(na:fS K C f)(hl:fs.lookup f=none)(hlen:fs.length<900)(h:Av G ρ t λes=>es.length=n/\F (es.map (·.2)) λv L=>(L.map (·.1)).Nodup->E.nx (ρ.set i (.cu (aR C x dx (fs++[(f, .cu (xp v false L))]))))):
  Sv G ρ (uN K (bz i) (fN (m5 n F) [] E0 t) f) E:=λnb σ H D W KK=>
 h nb σ H _ W λes vs H1 ⟨b,p⟩ s1 J=>by
  have W1:=W.step s1;show m5 n F (vs++[]) H1 _ E0;rw[ic];refine⟨by rw[J.len,b],G.S nb false,es.map (·.2),W1.fL,J.all (f:=false) (λz=>by cases z),hm _ _ _ p λv L hp H2 sm ⟨d,hok⟩=>?_⟩;have s2:Step G.B H1 H2:= .same W1.ao sm;obtain⟨w,e1,h2,n,h3,len,M,r⟩:=(W1.step s2).j9 e;exact⟨.ref x,e1,x,C,dx,w,rfl,M,cl,na,by rw[r.len];omega,KK.nx _ _ _ _ (hp hok.1) (W1.Ub (c:=xp v false L) s2 e hl hlen hok.1 d hok.live hok M)⟩
theorem Sv.MO{F:CF}{r:aw}(hm:rC F)(k:Nat)(I:ρ[k]?=some (.cu (xp (.ref r) fl L)))(hd:gf L (.own r) d)(h:Av G (ρ.set k (.d fl d)) t λes=>es.length+1=n/\∀x dx,F (aR C x dx []) (es.map (·.2)) λc' _ d=>d= .none/\(∀s S H,jF s H L->c'.P S H->c'.P (λa=>S a\/a∈L.map (·.1)) H)/\E.nx (ρ.set i (.cu c'))):Sv G ρ (fP (CU C (l6 n F) [] E0 t) (gc i)) E:=λnb σ H D W KK=>by
 have W0:=W.IG I hd;refine h _ σ H _ W0 λes vs H1 ⟨hl,p⟩ s1 J x dx hx u T=>?_;have Wl:=W0.step s1;have W1:=W.step s1;have N:bU H1 (upd (upd H1 dx (.own x)) x (.ins C dx [])):=λa o e=>by
  rw[aM (gZ e hx),aM (gZ e u)];exact e
 have j:∀a,G.S (λx=>nb x/\x∉L.map (·.1)) false a->H1 a≠none:=λa y=>Wl.fL a y;have K:af (λa=>G.S (λx=>nb x/\x∉L.map (·.1)) false a\/a∈[x,dx]) (upd (upd H1 dx (.own x)) x (.ins C dx [])) (es.map (·.2)) vs:=by
  have hq:=J.all (f:=false) λz=>by cases z
  generalize es.map (·.2)=dl at hq;refine af.keep (aP.of N) ?_
  exact jz (P:=λS=>af S H1 dl vs) (λz h=>af.av z h) (λhp h=>af.fresh hp h) (L:=[x,dx]) (λa m=>by
   rcases aA.mp m with m|m
   .rw[m];exact hx
   .rw[aN.mp m];exact u) hq
 rw[ic];refine⟨by rw[eY,J.len,hl],λa=>G.S (λx=>nb x/\x∉L.map (·.1)) false a\/a∈[x,dx],aR C x dx [],vs,es.map (·.2),rfl,λa y=>?_,λa m=> .inr m,rfl,?_,K,hm _ _ _ _ (p x dx) λc' f d ⟨b,q,hp⟩ v H' to Y hd=>?_⟩
 .rcases y with y|y
  .cases e:H1 a with
   |none=>exact absurd e (j a y)
   |some o=>rw[N a o e];exact dS _
  .rcases aA.mp y with m|m
   .rw[m,aT];exact dS _
   .rw[aN.mp m,aM T,aT];exact dS _
 .refine⟨by simp[aW,bJ T],by rw[aM T,aT],⋯,[],aT,rfl⟩
 .subst b;refine⟨hd.o6,?_⟩;have g:∀a∈c'.F,H1 a=none:=λa m=>by
   rcases to.new a m with y|y
   .rcases aA.mp y with m|m
    .rw[m];exact hx
    .rw[aN.mp m];exact u
   .cases e:H1 a with
    |none=>rfl
    |some o=>rw[N a o e] at y;cases y
  have sm:bU H1 H':=λa o e=>to.kp a o (λm=>by
    rcases aA.mp m with m|m
    .rw[m,hx] at e;cases e
    .rw[aN.mp m,u] at e;cases e) (N a o e)
  have st:Step G.B H1 H':= .same W1.ao sm;have Nk:=((W1.step st).rP I).2.2;have:=W1.E5 (i:=i) (c:=c') st g to.lv (c'.av (λa y=>?_) (q _ _ _ Nk Y))
  .rw[to.v] at this;exact KK.nx _ _ _ _ hp this
  .rw[to.f] at y;rcases y with (y|y|y|y)|y
   .by_cases z:a∈L.map (·.1);·exact .inr z
    .exact .inl (.inl (.inl (.inl ⟨y,z⟩)))
   .exact .inl (.inl (.inl (.inr (.inl y))))
   .exact .inl (.inl (.inl (.inr (.inr (.inl y)))))
   .cases y.1
   .exact .inl (.inr y)
theorem Wd.less(W:Wd G nb ρ σ H)(h:∀a,ay a->nb a)(ha:∀(j:Nat) s,ρ[j]?=some s->∀a∈s.adr,ay a):Wd G ay ρ σ H:=by
 refine⟨W.ao,λx n=>W.live x (h x n),W.old,λx n=>W.cP x (h x n),W.gA,W.len,W.gB,λg m=>(W.ez g m).av (bM (λz=>z) h),λj s e'=>?_,W.apart,W.fQ,W.dw⟩;obtain⟨x,jU,O⟩:=W.ok j s e';refine⟨x,jU,?_⟩;have ap:=ha j s e';cases s with
 |no=>trivial
 |d f d=>obtain⟨v,e,O⟩:=O;exact⟨v,e,O.av (bM (λz=>z) h)⟩
 |own a f es=>obtain⟨e2,n,q,xs,hx,hd⟩:=O;exact⟨e2,ap a (aN.mpr rfl),q,xs,hx,hd.av (bM (λz=>z) h)⟩
 |ao=>exact O
 |raw v=>exact O
 |bD a f es=>obtain⟨e2,n,q,xs,hx,hd⟩:=O;exact⟨e2,ap a (aN.mpr rfl),q,xs,hx,hd.av (bM (λz=>z) h)⟩
 |cu c2=>obtain⟨e2,n,q⟩:=O;exact⟨e2,λa m=>⟨ap a m,(n a m).2⟩,c2.av (bM (λz=>z) h) q⟩
theorem bx.HQ{S S':aw->Prop}{H:Hp}{c:Cu}{d:PyData}(N:∀a,S' a->S a)(hc:c.P S H->ah S' H d c.v):∀{fs:Fs} {vs:List (Str×V)},fs.lookup f=some (.cu c)->bx S H fs vs->bx S' H (cI f (.d d) fs) vs
  |[],_,h,_=>by simp at h
  | (g, y) :: r, _, h, ⟨v, ws, e, h1, h2⟩ => by
    unfold cI;rw[aZ] at h;cases hb:(f==g) with
    | true =>
      rw[hb] at h;cases h
      rw[if_pos (beq_iff_eq.mp hb).symm];exact⟨v,ws,e,by rw[h1.1];exact hc h1.2,h2.map (λd v z=>z.av N) λ_ _ c _ z=>c.av N z⟩
    | false =>
      rw[hb] at h;rw[if_neg (λz=>by rw[z,beq_self_eq_true] at hb;cases hb)];exact⟨v,ws,e,h1.map (λd v z=>z.av N) (λc _ z=>c.av N z),bx.HQ N hc h h2⟩
theorem FE{c:Cu}{d:PyData}:∀{fs:Fs},fs.lookup f=some (.cu c)->((fs.flatMap λg=>g.2.adr).Nodup->((cI f (.d d) fs).flatMap λg=>g.2.adr).Nodup/\∀a∈(cI f (.d d) fs).flatMap (λg=>g.2.adr),a∈fs.flatMap (λg=>g.2.adr)/\a∉c.F)
  |[],h,_=>by simp at h
  | (g, y) :: r, h, n => by
    unfold cI;rw[aZ] at h;rw[jN,nj] at n;obtain⟨n1,n2,B⟩:=n;cases hb:(f==g) with
    | true =>
      rw[hb] at h;cases h
      rw[if_pos (beq_iff_eq.mp hb).symm,jN];show(([]:List aw)++_).Nodup/\∀a∈([]:List aw)++_,_;rw[List.nil_append];refine⟨n2,λa m=>⟨by rw[jN];exact je _ m,λz=>B a z a m rfl⟩⟩
    | false =>
      rw[hb] at h;obtain⟨k1,k2⟩:=FE (d:=d) h n2;rw[if_neg (λz=>by rw[z,beq_self_eq_true] at hb;cases hb),jN];refine⟨nj.mpr ⟨n1,k1,λa m b m'=>B a m b (k2 b m').1⟩,λa m=>?_⟩;rw[jN];rcases fK.mp m with m|m
      · refine⟨qY _ m,λz=>B a m a (pR.mpr ⟨_,lookup_mem h,z⟩) rfl⟩
      · exact⟨je _ (k2 a m).1,(k2 a m).2⟩
theorem Sv.TF{r:aw}(i:Nat)(f:Str)(e:ρ[i]?=some (.cu (aR C x dx fs)))(hl:fs.lookup f=some (.cu (xp (.ref r) fl L)))(hd:gf L (.own r) d)(h:Sv G (ρ.set i (.cu (aR C x dx (cI f (.d d) fs)))) s E):Sv G ρ s E:=λnb σ H D W KK=>by
 obtain⟨vs,e1,h2,n,h3,len,M,r0⟩:=W.j9 e;have hil:i<ρ.length:=(bH.mp e).1;have hn:=n;unfold aW at hn;obtain⟨n1,n2⟩:=dU.mp hn;obtain⟨B,l⟩:=dU.mp n2;obtain⟨k1,k2⟩:=FE (d:=d) hl l;have k:∀a∈L.map (·.1),a∈fs.flatMap λg=>g.2.adr:=λa m=>pR.mpr ⟨_,lookup_mem hl,m⟩;have hsub:∀a∈aW x dx (cI f (.d d) fs),a∈aW x dx fs/\a∉L.map (·.1):=λa m=>by
  unfold aW at m;rcases aA.mp m with z|m
  .rw[z];exact⟨by simp[aW],λz=>n1 (bA _ (k _ z))⟩
  rcases aA.mp m with z|m
  .rw[z];exact⟨by simp[aW],λz=>B (k _ z)⟩
  .exact⟨bA _ (bA _ (k2 a m).1),(k2 a m).2⟩
 have W0:Wd G nb (ρ.set i .no) (σ.set i (some (.ref x))) H:=W.set trivial λ_ _ _ z=>by cases z
 have u:σ.set i (some (.ref x))=σ:=by
  apply lD;intro j;by_cases hij:i=j;·subst hij;rw[cD (by rw[W.len];exact hil),e1]
  .rw[bu hij]
 have A:∀(j:Nat) s,i≠j->ρ[j]?=some s->∀a∈s.adr,a∉aW x dx fs:=λj s hij hs a m z=>W.dw i j _ s hij e hs a z m;have W1:Wd G (λa=>nb a/\a∉L.map (·.1)) (ρ.set i .no) (σ.set i (some (.ref x))) H:=W0.less (λa z=>z.1) λj s hs a m=>by
  by_cases hij:i=j;·subst hij;rw[cD hil] at hs;cases hs;cases m
  .rw[bu hij] at hs;obtain⟨y,_,q⟩:=W.ok j s hs;exact⟨(q.sj a m).1,λz=>A j s hij hs a m (bA _ (bA _ (k a z)))⟩
 have N:∀a,G.S (λa=>nb a/\a∉L.map (·.1)) false a->G.S nb false a:=bM (λz=>z) λ_ z=>z.1;have W2:=W1.set (i:=i) (s:= .cu (aR C x dx (cI f (.d d) fs))) (x:=some (.ref x)) ⟨rfl,λa m=>⟨⟨(h2 a (hsub a m).1).1,(hsub a m).2⟩,(h2 a (hsub a m).1).2⟩,⟨?_,h3,by rw[um hl];exact len,vs,M,r0.HQ (c:=xp (.ref r) fl L) N (λp=>hd.Io p N (λa m z=>?_) (show dY _ H (.own r) (.ref r) from rfl)) hl⟩⟩ (λ_ _ _ z=>by cases z) (λ_ _ _ z=>by cases z) (λa m j t hj ht hc z=>?_)
 .rw[jx,jx,u] at W2;exact h _ σ H D W2 KK
 .unfold aW;refine dU.mpr ⟨λz=>?_,dU.mpr ⟨λz=>B (k2 _ z).1,k1⟩⟩;rcases aA.mp z with z|z
  .exact n1 (z▸bY)
  .exact n1 (bA _ (k2 _ z).1)
 .have hm:=h2 a (bA _ (bA _ (k a m)));rcases z with z|z|z|z
  .exact z.2 m
  .exact W.gA a z (W.cP a hm.1 hm.2)
  .exact z hm.2
  .cases z.1
 .rw[bu (bJ hj)] at ht;exact A j t (bJ hj) ht a z (hsub a m).1
end
noncomputable def zm:PyData->Bool
 | .tuple ds=>dZ ds
 |d=>fU d
theorem ah.flat{S:aw->Prop}{s:aw->Prop}(C:jF s H L)(ht:∀a xs,L.lookup a=some (.tup xs)->∃b,Oi.own b∈xs){d:PyData}{v:V}(hf:zm d=true)(h:ah S H d v):ah (λa=>S a\/a∈L.map (·.1)) H d v:=by
  cases d with
  | tuple ds =>
    obtain⟨a,xs,rfl,n,hx,hd⟩:=h.ofT;have hf:dZ ds=true:=hf;refine .tup (λz=>z.elim n λm=>?_) hx (af.fF hf hd);obtain⟨o,U⟩:=Bc m;have hk:=C.2 a o U;cases o with
    |lst ys=>obtain⟨vs,h1,_⟩:=hk;rw[hx] at h1;cases h1
    |bD ys=>obtain⟨vs,h1,_⟩:=hk;rw[hx] at h1;cases h1
    | tup ys =>
      obtain⟨vs,h1,h2,h3⟩:=hk;rw[hx] at h1;cases h1;obtain⟨b,hb⟩:=ht a ys U;obtain⟨j,hj⟩:=kI hb;have hjl:=(bH.mp hj).1;have e2:xs[j]?=some (xs[j]'∅):=aQ _;have e3:xs[j]'∅= .ref b:=h3 j _ _ hj e2;rw[e3] at e2;obtain⟨dj,e⟩:∃dj,ds[j]?=some dj:=⟨_,aQ (by rw[<-hd.length];omega)⟩;obtain⟨y,hy,hq⟩:=hd.get e;rw[e2] at hy;cases hy;have c:fU dj=true:=pF.mp hf dj (c8 e);have:=hq.Fy c;cases dj<;>first|cases this|cases c
  |none=>exact h.fF rfl
  |bool b=>exact h.fF rfl
  |int b=>exact h.fF rfl
  |str b=>exact h.fF rfl
  |list ds=>cases hf
  |dict ds=>cases hf
theorem fM.Cp{S S':aw->Prop}{xs:List Oi}(h:fM S H xs vs)(q:∀x v,x∈xs->dY S H x v->dY S' H' x v):fM S' H' xs vs:=⟨h.1,λi x v e1 e2=>q x v (c8 e1) (h.2 i x v e1 e2)⟩
theorem XO(ht:∀a xs,L.lookup a=some (.tup xs)->∃b,Oi.own b∈xs){C x dx c0 a0 l:aw}{bs:List aw}{d1 d2:PyData}{aG:List (List PyData)}{ds:List PyData}{f g:Str}(hl:bs.length=aG.length)(h1:fU d1=true)(h2:fU d2=true)(D:∀es∈aG,∀e∈es,zm e=true)(hw:dZ ds=true):
  ∀s S H,jF s H L->(aR C x dx [(f, .cu (xp (.ref c0) false (gF c0 a0 bs d1 d2 aG))),(g, .cu (jd l ds))]).P S H->(aR C x dx [(f, .cu (xp (.ref c0) false (gF c0 a0 bs d1 d2 aG))),(g, .cu (jd l ds))]).P (λa=>S a\/a∈L.map (·.1)) H:=by
 rintro s S H hL ⟨n,h,len,vs,q,v1,w1,e1,⟨p1,p2⟩,v2,w2,e2,⟨p3,xs,p4,p5⟩,e3⟩;refine⟨n,h,len,vs,q,v1,w1,e1,⟨p1,p2.1,λa o j=>?_⟩,v2,w2,e2,⟨p3,xs,p4,af.fF hw p5⟩,e3⟩;have hk:=p2.2 a o j;rcases Ao hl j with ⟨rfl,rfl⟩|⟨rfl,rfl⟩|⟨i,es,g1,g2,rfl⟩
 .obtain⟨vs,k1,k2⟩:=hk;refine⟨vs,k1,k2.Cp λy v m z=>?_⟩;simp at m;rcases m with rfl|rfl|rfl
  .exact ah.fF h1 z
  .exact ah.fF h2 z
  .exact z
 .obtain⟨vs,k1,k2⟩:=hk;refine⟨vs,k1,k2.Cp λy v m z=>?_⟩;obtain⟨b,_,rfl⟩:=fk.mp m;exact z
 .obtain⟨vs,k1,k2⟩:=hk;refine⟨vs,k1,k2.Cp λy v m z=>?_⟩;obtain⟨e,c,rfl⟩:=fk.mp m;exact ah.flat hL ht (D es (c8 g2) e c) z
noncomputable def eT(cs:List aC):List (List PyData):=cs.map λprs=>prs.map xk
theorem FG(cs:List aC):(eT cs).map gO=cs.map cN:=by unfold eT;rw[lI];rfl
theorem UT(cs:List aC):∀es∈eT cs,∀e∈es,zm e=true:=λes m e c=>by
 obtain⟨prs,_,rfl⟩:=fk.mp m;obtain⟨pr,_,rfl⟩:=fk.mp c
 rfl
section
variable{G:Gx}{ρ:Rh}{te:TE}{t:TA}
theorem k9.o6{Θ:Rh->Bool->List PyData->Prop}(h:au G ρ te (Θ ρ)):k9 G ρ te Θ:=λnb σ H Q W z=>h nb σ H Q W λf a xs H' ds p st ha hx hd=>z nb ρ f a xs H H' ds p W st ha hx hd
theorem kQ.BJ{F:DF}(hm:dJ F)(h:ig G ρ t λds=>ds.length=n/\F ds λf d=>f=true/\Φ d):kQ G ρ (fN (cQ n F) [] E0 t) Φ:=λnb σ H Q W z=>
 h nb σ H _ W λds vs H1 ⟨hl,p⟩ s1 J=>by
  have W1:=W.step s1;rw[ic];refine⟨by rw[J.length,hl],λa=>¬NB G.B a,ds,λa y=>NB.lY W1.ao y,J,hm _ _ _ p λf d ⟨hf,hp⟩ v H' sm hd=>z v H' d hp (s1.trans (.same W1.ao sm)) (hd.av λa q=>?_)⟩;exact .inr ⟨hf,W.Hf s1 q⟩
end
theorem R6{c:aw}{bs:List aw}{n:Int}(hn:(c::a0::bs).Nodup)(hl:bs.length=(eT cs).length):gf (gF c a0 bs (.int p) (.int n) (eT cs)) (.own c) (cO p n cs):=by
 have:=(IQ (d1:= .int p) (d2:= .int n) hn hl).V6;rw[FG] at this;exact this
noncomputable def hdL(c b c0 a0:aw)(bs:List aw)(p n:Int)(cs:List aC)(wd:Wo):bW:=(c, .tup [.own c0, .own b])::(b, .lst ((wd.map bS).map .dat))::gF c0 a0 bs (.int p) (.int n) (eT cs)
structure qO(L:bW)(c b c0 a0:aw)(bs:List aw):Prop where
 hc:L.lookup c=some (.tup [.own c0, .own b])
 hb:∃xs,L.lookup b=some (.lst xs)
 h0:∃x y,L.lookup c0=some (.tup [x,y, .own a0])
 ha:L.lookup a0=some (.lst (bs.map .own))
 hs:∀k∈bs,∃xs,L.lookup k=some (.lst xs)
 nb:b≠a0
 nd:(a0::bs).Nodup
theorem qO.T3{c c0 k:aw}{bs:List aw}(h:qO L c b c0 a0 bs)(hk:k∈bs):qO (jC L k (.lst [])) c b c0 a0 bs:=by
 obtain⟨xs,hx⟩:=h.hs k hk;have n1:c≠k:=λz=>by rw[<-z,h.hc] at hx;cases hx
 have n2:c0≠k:=λz=>by obtain⟨x,y,e⟩:=h.h0;rw[<-z,e] at hx;cases hx
 have B:a0≠k:=λz=>(dU.mp h.nd).1 (z▸hk);refine⟨(mR n1).trans h.hc,?_,?_,(mR B).trans h.ha,λj hj=>?_,h.nb,h.nd⟩
 .by_cases z:b=k;·exact⟨[],by rw[z];exact BZ (nA hx)⟩
  .obtain⟨ys,hy⟩:=h.hb;exact⟨ys,(mR z).trans hy⟩
 .obtain⟨x,y,e⟩:=h.h0;exact⟨x,y,(mR n2).trans e⟩
 .by_cases z:j=k;·exact⟨[],by rw[z];exact BZ (nA hx)⟩
  .obtain⟨ys,hy⟩:=h.hs j hj;exact⟨ys,(mR z).trans hy⟩
theorem WO{c c0:aw}{bs:List aw}{n:Int}(hcb:c≠b)(hc:c∉(gF c0 a0 bs (.int p) (.int n) (eT cs)).map (·.1))(hb:b∉(gF c0 a0 bs (.int p) (.int n) (eT cs)).map (·.1))(hn:(c0::a0::bs).Nodup)(hl:bs.length=(eT cs).length):
    qO (hdL c b c0 a0 bs p n cs wd) c b c0 a0 bs/\(∀a xs,(hdL c b c0 a0 bs p n cs wd).lookup a=some (.tup xs)->∃b,Oi.own b∈xs)/\gf (hdL c b c0 a0 bs p n cs wd) (.own c) (.tuple [cO p n cs,eV wd]):=by
  have hok:=IQ (d1:= .int p) (d2:= .int n) hn hl;rw[Bd hl] at hc hb;have R:∀{k},k∈c0::a0::bs->(hdL c b c0 a0 bs p n cs wd).lookup k=(gF c0 a0 bs (.int p) (.int n) (eT cs)).lookup k:=λ{k} m=>by
    unfold hdL;have n1:k≠c:=λz=>hc (z▸m);have n2:k≠b:=λz=>hb (z▸m);rw[aZ,beq_false_of_ne n1];show da k ((b,_)::_)=_;rw[aZ,beq_false_of_ne n2]
  have F:(hdL c b c0 a0 bs p n cs wd).lookup c=some (.tup [.own c0, .own b]):=by unfold hdL;simp
  have G:(hdL c b c0 a0 bs p n cs wd).lookup b=some (.lst ((wd.map bS).map .dat)):=by
    unfold hdL;rw[aZ,beq_false_of_ne hcb.symm];simp
  have V:c0∈c0::a0::bs:=bY;have f:a0∈c0::a0::bs:=bA _ bY;have ms:∀{k},k∈bs->k∈c0::a0::bs:=λm=>bA _ (bA _ m);refine⟨⟨F,⟨_,G⟩,⟨_,_,(R V).trans hok.hc⟩,(R f).trans hok.h0,λk m=>?_,λz=>hb (z▸f),(dU.mp hn).2⟩,λa xs e=>?_, .tup F rfl λi x d e1 e2=>?_⟩
  · obtain⟨j,hj⟩:=kI m
    obtain⟨ds,D⟩:∃ds,(eT cs)[j]?=some ds:=⟨_,aQ (by rw[<-hl];exact(bH.mp hj).1)⟩;exact⟨_,(R (ms m)).trans (hok.hb j k ds hj D)⟩
  · by_cases z:a=c
    · subst z;rw[F] at e;cases e;exact⟨c0,bY⟩
    by_cases z2:a=b;· subst z2;rw[G] at e;cases e
    have m:=nA e;unfold hdL at m;rw[bw,bw,Bd hl] at m;have m:a∈c0::a0::bs:=((aA.mp m).resolve_left z|>aA.mp).resolve_left z2;rw[R m] at e;rcases Ao hl e with ⟨_,e⟩|⟨_,e⟩|⟨_,_,_,_,e⟩
    · cases e;exact⟨a0,by simp⟩
    · cases e
    · cases e
  · match i with
    | 0 =>
      cases e1;cases e2;have:=JE (d1:= .int p) (d2:= .int n) ((R V).trans hok.hc) ((R f).trans hok.h0) hl λi k ds g1 g2=>(R (ms (c8 g1))).trans (hok.hb i k ds g1 g2);rw[FG] at this;exact this
    |1=>cases e1;cases e2;exact gf.sE G
    |i+2=>cases e1
end L2
namespace K22
open PySem L2
noncomputable def top(i:Nat):ft:=PySem.Challenge.pw_fewchecks_k22_a_round.main.body.getD i (.Pass ⟨0,0,0,0⟩)
noncomputable abbrev CB:ft:=top 2
noncomputable abbrev zy:ft:=top 3
noncomputable abbrev zh:ft:=top 4
noncomputable abbrev wJ:ft:=top 6
noncomputable abbrev DK:ft:=top 8
noncomputable abbrev uK:ft:=top 9
noncomputable abbrev ya:ft:=top 10
noncomputable abbrev yy:ft:=top 11
noncomputable abbrev xZ:ft:=top 14
noncomputable abbrev Dj:ft:=top 15
noncomputable abbrev vO:ft:=top 16
noncomputable abbrev Aj:ft:=top 17
noncomputable abbrev C5:ft:=top 18
noncomputable abbrev wY:ft:=top 19
noncomputable abbrev Am:ft:=top 20
noncomputable abbrev Cq:ft:=top 21
noncomputable abbrev pQ:ft:=top 22
noncomputable abbrev we:ft:=top 23
noncomputable abbrev uh:ft:=top 24
noncomputable abbrev v5:ft:=top 25
noncomputable abbrev sU:ft:=top 26
noncomputable abbrev z3:ft:=top 27
noncomputable abbrev tY:ft:=top 28
noncomputable abbrev uV:ft:=top 29
noncomputable abbrev xO:ft:=top 30
noncomputable abbrev yF:ft:=top 31
noncomputable abbrev wA:ft:=top 32
noncomputable abbrev qE:ft:=top 33
noncomputable abbrev l5:ft:=top 34
noncomputable abbrev qv:ft:=inClass (top 12) 0
noncomputable abbrev pP:ft:=inClass (top 12) 1
noncomputable abbrev qz:ft:=inClass (top 12) 5
noncomputable abbrev p8:ft:=inClass (top 12) 6
abbrev U7:Prop:=∀{l:PySem.W.OpenLaw} {w:cx} {K:PySem.W.Frag} {h:ek} {mg:Str->Option ag} {fa:aw} {f0 f1 f2 f3 f4 f5 f6 f7 f8 f9 JL GR ER sQ K8 GN KR Jm Lf Ej Fb Jq LB LG FJ D7 HA Gb xw pB pZ pT f32:aw} (X:K.In h) (G:h.Ns bg mg) (Lc:mg "law"=some (.ref fa))
  {Fp C9:Option aw} {IT:Array (Option ag)} {FI zT zv By vJ C3:ag} {Ls Jf:Option aw} {Iz:Array (Option ag)} {Kh JH IA E4 As Hi:ag} {Gy HB:Option aw} {J6:Array (Option ag)} {EN Ia Jk Ip Cr Ep:ag} {Fz EF:Option aw} {Lv:Array (Option ag)} {JG Ew Ku Km zO LF:ag} {FF JX:Option aw} {Ju:Array (Option ag)} {JZ Gd FY Ly Cv KZ:ag}
  {aU:aw} (vm:PySem.W.nsIn K bg "Mender"=some (some (.ref aU))) (wC:PySem.W.plainGet K aU wt=true) (v8:PySem.W.hasDictIn K aU=true) (uX:PySem.W.plainOver K aU=true) (vG:PySem.W.findIn K (.ref aU) "__setattr__"=some (some (.builtin "object.__setattr__"))) (yf:PySem.W.makesIn K aU=true) (ux:PySem.W.keepIn K (.ref aU)=true)
  (lu:PySem.W.findIn K (.ref aU) "net"=some none)
  (g8:PySem.W.findIn K (.ref aU) "letters"=some none)
  (d0:aS K "over" "over" CB f0)
  (d1:aS K "inverse" "inverse" zy f1)
  (d2:aS K "total" "total" zh f2)
  (d3:aS K "lost_of" "lost_of" wJ f3)
  (d4:aS K "told_by" "told_by" DK f4)
  (d5:aS K "told_for" "told_for" uK f5)
  (d6:aS K "round_of" "round_of" ya f6)
  (d7:aS K "copied" "copied" yy f7)
  (d8:aS K "_law_bag" "_law_bag" xZ f8)
  (d9:aS K "_law_draw" "_law_draw" Dj f9)
  (tS:aS K "_law_prime_from" "_law_prime_from" vO JL)
  (tW:aS K "_law_prime" "_law_prime" Aj GR)
  (xr:aS K "_law_over" "_law_over" C5 ER)
  (vV:aS K "_law_sum" "_law_sum" wY sQ)
  (wL:aS K "_law_letter" "_law_letter" Am K8)
  (wZ:aS K "_law_factor" "_law_factor" Cq GN)
  (vH:aS K "_law_letters" "_law_letters" pQ KR)
  (t6:aS K "_law_places" "_law_places" we Jm)
  (vq:aS K "_law_net" "_law_net" uh Lf)
  (wW:aS K "_law_planted_check" "_law_planted_check" v5 Ej)
  (vD:aS K "_law_planted" "_law_planted" sU Fb)
  (yG:aS K "_law_any" "_law_any" z3 Jq)
  (wz:aS K "_law_lossy" "_law_lossy" tY LB)
  (xT:aS K "_law_copy" "_law_copy" uV LG)
  (v7:aS K "_law_alike" "_law_alike" xO FJ)
  (xR:aS K "_law_gaps" "_law_gaps" yF D7)
  (uv:aS K "_law_lost" "_law_lost" wA HA)
  (t8:aS K "_law_round" "_law_round" qE Gb)
  (vK:PySem.W.nsIn K bg "law"=some (some (.ref xw))) (t9:K.lookup xw=some ⟨FI,Fp, .func (PySem.W.fnOf "law" "law" (jL l5) (jq l5) (aK l5) .none zT zv By C9 vJ C3),IT⟩) (u6:PySem.W.codeIn K vJ "law"=true) (ug:PySem.W.keepIn K (.ref xw)=true)
  (u9:PySem.W.findIn K (.ref aU) "__init__"=some (some (.ref pB))) (vn:PySem.W.isFn K (.ref pB)=true) (uc:K.lookup pB=some ⟨Kh,Ls, .func (PySem.W.fnOf "__init__" "Mender.__init__" (jL qv) (jq qv) (aK qv) .none JH IA E4 Jf As Hi),Iz⟩) (tV:PySem.W.codeIn K As "Mender.__init__"=true) (uq:PySem.W.keepIn K (.ref pB)=true)
  (wM:PySem.W.findIn K (.ref aU) "step"=some (some (.ref pZ))) (yJ:PySem.W.isFn K (.ref pZ)=true) (vo:K.lookup pZ=some ⟨EN,Gy, .func (PySem.W.fnOf "step" "Mender.step" (jL pP) (jq pP) (aK pP) .none Ia Jk Ip HB Cr Ep),J6⟩) (ym:PySem.W.codeIn K Cr "Mender.step"=true) (tO:PySem.W.keepIn K (.ref pZ)=true)
  (yo:PySem.W.findIn K (.ref aU) "word"=some (some (.ref pT))) (vI:PySem.W.isFn K (.ref pT)=true) (ua:K.lookup pT=some ⟨JG,Fz, .func (PySem.W.fnOf "word" "Mender.word" (jL qz) (jq qz) (aK qz) .none Ew Ku Km EF zO LF),Lv⟩) (wQ:PySem.W.codeIn K zO "Mender.word"=true) (sZ:PySem.W.keepIn K (.ref pT)=true)
  (a32:PySem.W.findIn K (.ref aU) "lost"=some (some (.ref f32))) (uu:PySem.W.isFn K (.ref f32)=true) (w4:K.lookup f32=some ⟨JZ,FF, .func (PySem.W.fnOf "lost" "Mender.lost" (jL p8) (jq p8) (aK p8) .none Gd FY Ly JX Cv KZ),Ju⟩) (xV:PySem.W.codeIn K Cv "Mender.lost"=true) (qD:PySem.W.keepIn K (.ref f32)=true)
  (vX:PySem.W.nsIn K bg "abs"=some none)
  (yr:PySem.W.nsIn K bg "all"=some none)
  (u5:PySem.W.nsIn K bg "bool"=some none)
  (yC:PySem.W.nsIn K bg "enumerate"=some none)
  (xG:PySem.W.nsIn K bg "int"=some none)
  (vY:PySem.W.nsIn K bg "isinstance"=some none)
  (ud:PySem.W.nsIn K bg "len"=some none)
  (vz:PySem.W.nsIn K bg "list"=some none)
  (vj:PySem.W.nsIn K bg "min"=some none)
  (uH:PySem.W.nsIn K bg "range"=some none)
  (xJ:PySem.W.nsIn K bg "set"=some none)
  (yk:PySem.W.nsIn K bg "sorted"=some none)
  (xS:PySem.W.nsIn K bg "str"=some none)
  (xK:PySem.W.nsIn K bg "sum"=some none)
  (vB:PySem.W.nsIn K bg "tuple"=some none),
  ∃fd:eJ,(∀(s:ar) (v:ag),og s fd ⟨[v],[]⟩ [("script",v)])/\∀base:ek,K.In base->base.Ns bg mg->bf l.prog w K mg base bG 7 fa fd ["script"] (yt K)
theorem walk{l:PySem.W.OpenLaw}{q:be}{c:List Str}{A:cx->ek->Prop}{d:DefRec}{K:Params->PySem.W.Frag}(hn:l.most=some 63)(y:d.params.defaults=[])
  (hY:∀(w:cx) (h:ek),A w h->(K w.params).In h)
  (F : ∀ (w : World) (mg : Str -> Option Value) (i : Addr) (h : Heap), (K w.params).In h -> h.Ns mainGlobals mg -> mg d.name = some (.ref i) ->
   ∃fd:eJ,(∀(s:ar) (u:ag),og s fd ⟨[u],[]⟩ [("script",u)])/\∀base:ek,(K w.params).In base->base.Ns bg mg->bf l.prog w (K w.params) mg base bG 7 i fd ["script"] (yt (K w.params))):
  PySem.W.WalkO q c C A l.row.toRowW d [] (λf vs=>PySem.call f vs):=
 L2.Wq (n:=63) (k:=7) (x:="script") (CX:=λ_=>bG) (sp:=λw=>yt (K w.params)) hn ⋯ y ⟨rfl,⋯,⋯⟩ hY F (λ_ _ a ns hl _ N=>⟨a,ns,rfl,N,hl,λ_=>rfl⟩) λ_ _ _ _ _ z=>z
local macro_rules| `(tactic|walk_at "d0")=> `(tactic|first|omega (config := {})|assumption|decide|(unfold Sm at*;omega (config := {}))|(unfold vZ;omega (config := {}))|(unfold Co;decide)|(unfold Co;omega (config := {})))
local macro_rules| `(tactic|walk_at "ds")=> `(tactic|((try dsimp only);first|walk_at "d0" |(refine o5 ?_ ?_<;>walk_at "d0")|(refine a5 ?_;walk_at "d0")|(refine e6 (o5 ?_ ?_)<;>walk_at "d0")))
local macro_rules| `(tactic|walk_at "s1")=> `(tactic|with_reducible first
 |refine R.seq ?_|refine R.asg ?_|refine R.setC ?_|refine R.nX ?_|refine R.ret ?_|refine R.next ?_|refine R.c ?_|refine R.op ?_|refine R.test ?_|refine R.bl ?_|refine R.tru ?_
 |refine R.and ?_|refine R.notV ?_|refine R.cb ?_|refine R.call ?_|refine R.nil ?_|refine R.cons ?_
 |refine R.lst ?_|refine R.sl ?_|refine R.RB ?_|refine R.part ?_|refine R.tyInt ?_|refine R.LJ ?_|refine R.NK ?_|refine R.Vv ?_|refine R.Xq ?_|refine R.tF ?_
 |refine R.iy ?_|refine R.XT ?_|refine R.U0 ?_|refine R.eqNI ?_|refine R.eqIN ?_|refine R.isI ?_|refine R.JR ?_|refine R.Gj ?_|refine R.bits ?_
 |refine ye ?_|refine ES ?_|refine R.nilE ?_|refine R.isiII ?_|refine R.isiIB ?_|refine R.rng1 ?_|refine R.OD ?_|refine R.iL ?_|refine R.Si ?_|refine R.comp ?_)
local macro_rules| `(tactic|walk_at "st")=> `(tactic|repeat (first
 |walk_at "s1"
 |((with_reducible refine' R.var ?h0 ?_);(case h0=>rfl))
 |((with_reducible refine' R.rI ?h1 ?_);(case h1=>walk_at "ds"))
 |((with_reducible refine' R.B5 (o:= .lst []) ?h1 ?_);(case h1=>rfl))
 |((with_reducible refine' R.xg ?h0 ?h1 ?_);(case h0=>assumption);(case h1=>rfl))
 |((with_reducible refine' R.ixTM ?h0 ?h1 ?_);(case h0=>assumption);(case h1=>rfl))
 |((with_reducible refine' R.VQ ?h1 ?_);(case h1=>rfl))
 |((with_reducible refine' R.setM ?h0 ?h1 ?_);(case h0=>assumption);(case h1=>rfl))
 |((with_reducible refine' R.RW ?h0 ?_);(case h0=>assumption))
 |((with_reducible refine' R.lenL ?h0 ?_);(case h0=>assumption))
 |((with_reducible refine' R.rng1I ?h0 ?h1 ?_);(case h0=>walk_at "ds");(case h1=>walk_at "ds"))
 |((with_reducible refine' R.Me ?h0 ?_);(case h0=>walk_at "ds"))
 |((with_reducible refine' R.wm ?h0 ?_);(case h0=>assumption))
 |((with_reducible refine' R.gG ?h0 ?_);(case h0=>first|exact R.dT (by omega (config := {}))|exact R.Ji (by omega (config := {}))|decide))
 |((with_reducible refine' R.Je ?h0 ?_);(case h0=>first|exact R.dF (by omega (config := {}))|exact R.J1 (by omega (config := {}))|decide))
 |(with_reducible refine R.XZ ?_)|(with_reducible refine R.Nt ?_)))
local macro_rules| `(tactic|walk_at "mo")=> `(tactic|repeat (first|refine Exists.imp fun _=>?_|refine And.imp_right ?_))
local macro_rules| `(tactic|walk_at "fv")=> `(tactic|first|exact a5 rfl|exact e6 (a5 rfl)|exact e6 (e6 (a5 rfl))|exact e6 (e6 (e6 (a5 rfl)))|exact e6 (e6 (e6 (e6 rfl))))
local macro_rules| `(tactic|walk_at "d1")=> `(tactic|with_reducible first
 |refine Sv.seq ?_|refine Sv.Q5 ?_|refine Sv.asg ?_|refine Sv.Xz ?_|refine Sv.nX ?_|refine Sv.ret ?_|refine Sv.next ?_|refine Sv.retN ?_
 |refine Ev.int ?_|refine Ev.bl ?_|refine Ev.aD ?_|refine Ev.iy ?_|refine Ev.Rp ?_|refine Ev.rI ?_|refine Ev.rU ?_|refine Ev.eq ?_|refine Ev.ne ?_|refine Ev.is ?_|refine Ev.Rf ?_|refine Ev.MM ?_|refine Ev.V8 ?_
 |refine Ev.Ue ?_|refine Ev.orV ?_|refine Ev.notV ?_|refine Ev.UQ ?_|refine Tv.test ?_|refine Tv.and ?_|refine Tv.or ?_|refine Tv.not ?_|refine Tv.tF ?_|refine Tv.t7 ?_
 |refine Ev.L8 ?_|refine Ev.lst ?_|refine Av.nil ?_|refine Av.cons ?_|refine Av.Yd ?_|refine Ov.none ?_|refine Ov.some ?_|refine Ev.min2 ?_|refine Ev.max2 ?_|refine Ev.Td ?_
 |refine R.di ?_|refine R.db ?_|refine R.dl ?_|refine R.dt ?_|refine R.WK ?_|refine R.Tw ?_|refine R.S7 ?_|refine R.eqni ?_|refine R.eqin ?_|refine R.eqnn ?_|refine R.M3 ?_
 |refine Gv.tU ?_|refine Gv.nameB ?_|refine Gv.Qu ?_|refine Gv.nameT ?_|refine Gv.zk ?_|refine Gv.OZ ?_|refine Gv.Qj ?_|refine ye ?_|refine ES ?_)
local macro_rules| `(tactic|walk_at "dt")=> `(tactic|repeat (first
 |((with_reducible refine' Sv.retOwn ?h0 ?_);(case h0=>rfl))
 |((with_reducible refine' Sv.AU ?h0 ?_);(case h0=>rfl))
 |walk_at "d1"
 |((with_reducible refine' Ev.var ?h0 ?_);(case h0=>rfl))
 |((with_reducible refine' Ev.draw ?h0 ?_);(case h0=>rfl))
 |((with_reducible refine' Ev.NW ?h0 ?_);(case h0=>rfl))
 |((with_reducible refine' Ev.N7 ?h0 ?_);(case h0=>rfl))
 |((with_reducible refine' Ev.slOwn ?h0 ?_);(case h0=>rfl))
 |((with_reducible refine' Sv.append ?h0 ?_);(case h0=>rfl))
 |((with_reducible refine' Sv.AU ?h0 ?_);(case h0=>rfl))
 |((with_reducible refine' Sv.retOwn ?h0 ?_);(case h0=>rfl))
 |((with_reducible refine' Gv.tup ?h0 ?_);(case h0=>rfl))
 |((with_reducible refine' R.at_ ?h0 ?_);(case h0=>first|rfl|assumption))
 |(with_reducible refine Ev.V2 ?_)|(with_reducible refine Ev.iI ?_)|(with_reducible refine Ev.listOf ?_)|(with_reducible refine Ev.sl ?_)|(with_reducible refine Ev.cat ?_)|(with_reducible refine Ev.wX ?_)
 |((with_reducible refine' Ev.NN ?h0 ?_);(case h0=>walk_at "fv"))
 |((with_reducible refine' Ev.Og ?h0 ?h1 ?_);(case h0=>walk_at "fv");(case h1=>walk_at "fv"))
 |(with_reducible refine Ev.all ?_)|(with_reducible refine Ev.sum ?_)|(with_reducible refine Ev.B5 ?_)
 |((with_reducible refine' R.TL ?_))
 |((with_reducible refine' R.gG ?h0 ?_);(case h0=>first|exact R.dT (by omega (config := {}))|exact R.Ji (by omega (config := {}))|rfl))
 |((with_reducible refine' R.Je ?h0 ?_);(case h0=>first|exact R.dF (by omega (config := {}))|exact R.J1 (by omega (config := {}))|exact bT))
 |((with_reducible refine' R.MK ?h0 ?_);(case h0=>first|walk_at "ds" |exact Hv rfl))))
local macro_rules| `(tactic|walk_at "wk")=> `(tactic|repeat (first|exact Wk.nil|apply Wk.no|apply Wk.eq))
section
variable{P:be}{w:cx}{K:PySem.W.Frag}{mg:Str->Option ag}{base:ek}{f:aw}{fd:eJ}
theorem jH:cg ["p","b","last_rest","last_times","rest","times","quotient","next_rest","next_times"] ["p","b"] (aK zy):=⟨rfl,rfl,rfl,by decide+kernel,rfl,by decide+kernel,by decide+kernel⟩
theorem V5(F:bN K "inverse" "inverse" zy f fd):
  bf P w K mg base bG 1 f fd ["p","b"] Iv:=by
 refine F.ok jH (λvs H Q E h=>?_) (λcdv A outer s H vs Q E hr h=>?_)
 .obtain⟨p,b,rfl,hp,d,hb,q⟩:=h
  rfl
 obtain⟨p,b,rfl,hp,d,hb,q⟩:=h;refine⟨_,(@aB _ _ _ _ _ (@bq _ _ (2) _ _ _ _ jH.nd rfl (a5 rfl) (pv 0) (by rfl) (by first|exact .inl rfl|exact .inr rfl|assumption)) (@aB _ _ _ _ _ (@bq _ _ (3) _ _ _ _ jH.nd rfl (a5 rfl) ai (by rfl) (by first|exact .inl rfl|exact .inr rfl|assumption)) (@aB _ _ _ _ _ (@bq _ _ (4) _ _ _ _ jH.nd rfl (a5 rfl) (@aI _ _ _ _ _ _ _ _ gX (pv 1) (pv 0)) (by rfl) (by first|exact .inl rfl|exact .inr rfl|assumption)) (@aB _ _ _ _ _ (@bq _ _ (5) _ _ _ _ jH.nd rfl (a5 rfl) ai (by rfl) (by first|exact .inl rfl|exact .inr rfl|assumption)) (@aB _ _ _ _ _ (@Ey _ _ _ _ _ _ jy (@bI _ _ _ _ _ _ _ _ lH (pv 4) ai (bC _)) (@aB _ _ _ _ _ (@bq _ _ (6) _ _ _ _ jH.nd rfl (a5 rfl) (@aI _ _ _ _ _ _ _ _ qj (pv 2) (pv 4)) (by rfl) (by first|exact .inl rfl|exact .inr rfl|assumption)) (@aB _ _ _ _ _ (@bq _ _ (7) _ _ _ _ jH.nd rfl (a5 rfl) (@aI _ _ _ _ _ _ _ _ lQ (pv 2) (@aI _ _ _ _ _ _ _ _ iD (pv 6) (pv 4))) (by rfl) (by first|exact .inl rfl|exact .inr rfl|assumption)) (@aB _ _ _ _ _ (@bq _ _ (8) _ _ _ _ jH.nd rfl (a5 rfl) (@aI _ _ _ _ _ _ _ _ lQ (pv 3) (@aI _ _ _ _ _ _ _ _ iD (pv 6) (pv 5))) (by rfl) (by first|exact .inl rfl|exact .inr rfl|assumption)) (@aB _ _ _ _ _ (@bq _ _ (2) _ _ _ _ jH.nd rfl (a5 rfl) (pv 4) (by rfl) (by first|exact .inl rfl|exact .inr rfl|assumption)) (@aB _ _ _ _ _ (@bq _ _ (3) _ _ _ _ jH.nd rfl (a5 rfl) (pv 5) (by rfl) (by first|exact .inl rfl|exact .inr rfl|assumption)) (@aB _ _ _ _ _ (@bq _ _ (4) _ _ _ _ jH.nd rfl (a5 rfl) (pv 7) (by rfl) (by first|exact .inl rfl|exact .inr rfl|assumption)) (@aL _ _ _ (@bq _ _ (5) _ _ _ _ jH.nd rfl (a5 rfl) (pv 8) (by rfl) (by first|exact .inl rfl|exact .inr rfl|assumption)))))))))) (@aL _ _ _ (@bh _ _ _ _ (@aI _ _ _ _ _ _ _ _ gX (pv 3) (pv 0))))))))),?_⟩;have hp2:=hp.1;walk_at "st";refine OI (λσ H1=>H1=H/\∃(L lt r t:Int) (R S l:Option V),σ=[some (.int p),some (.int b),some (.int L),some (.int lt),some (.int r),some (.int t),R,S,l]/\Eu p b L lt r t) (λ(σ:qb) (_:Hp)=>match σ[4]? with|some (some (V.int r))=>r.toNat|_=>0) ⟨rfl,_,_,_,_,_,_,_,rfl,Eu.start hp2⟩ ?_ ?_
 .rintro σ H1 ⟨rfl,L,lt,r,t,R,S,l,rfl,E⟩;obtain⟨Y,y⟩:=E.tb;have e1:=E.l0;have e2:=E.r0;have e3:=E.lp;have e4:=E.rp;walk_at "st";refine pD (λc=>?_) (λc=>?_)
  .have c:r≠0:=of_decide_eq_true c;have hr:0<r:=∅
   have J:0<=L/r:=xP ∅ ∅;have M:L/r<=L:=Ax _ ∅;obtain⟨j,m⟩:=E.next hr
   walk_at "st";refine⟨⟨rfl,_,_,_,_,_,_,_,rfl,j⟩,?_⟩;show(L-L/r*r).toNat<r.toNat;omega
  .have c:r=0:=by simpa using c
   subst c;walk_at "st";exact q _ (gP _ ∅) (gM _ ∅) (E.fin hp hb)
 .exact λσ H Q g h ⟨v,e,s,k,I,z⟩=>⟨v,e,s,k,I,h _ _ z⟩
theorem Wg:cg ["p","a","b"] ["p","a","b"] (aK CB):=⟨rfl,rfl,rfl,by decide+kernel,rfl,by decide+kernel,by decide+kernel⟩
theorem Yo(F:bN K "over" "over" CB f fd)(c:Callee P w K mg base "inverse" 1 ["p","b"] Iv):
  bf P w K mg base bG 2 f fd ["p","a","b"] zd:=by
 refine F.ok Wg (λvs H Q E h=>?_) (λcdv A outer s H vs Q E hr h=>?_)
 .obtain⟨p,a,b,rfl,hp,d,hb,a1,a2,q⟩:=h
  rfl
 obtain⟨p,a,b,rfl,hp,d,hb,a1,a2,q⟩:=h;refine⟨_,(@aL _ _ _ (@bh _ _ _ _ (@aI _ _ _ _ _ _ _ _ gX (@aI _ _ _ _ _ _ _ _ iD (pv 1) (@aV _ _ _ _ _ _ _ _ _ _ c (hr.mono ⋯) (@aa _ _ _ _ _ (pv 0) (@aa _ _ _ _ _ (pv 2) aj rfl) rfl) (by rfl) ⋯ (by rfl) (by rfl))) (pv 0)))),?_⟩;have hp2:=hp.1;walk_at "st";refine⟨p,b,rfl,hp,d,hb,λu u1 u2 ⟨k,hk⟩=>?_⟩;walk_at "st";refine q _ (gP _ ∅) (gM _ ∅) ⟨a*k-a*u/p*b,?_⟩;have e:=qo (a*u) p;have e2:a*u%p=a*u-p*(a*u/p):=∅
 have e3:b*(a*u)=a*(u*b):=by rw[oS b,lW]
 rw[e2,nW,e3,hk,Dh,B7,nW,<-lW a p k,oS a p,lW p a k,oS b (p*_),lW p];omega
theorem r6:cg ["p","pairs","word","reached","place","factor"] ["p","pairs","word"] (aK zh):=⟨rfl,rfl,rfl,by decide+kernel,rfl,by decide+kernel,by decide+kernel⟩
theorem Qc(F:bN K "total" "total" zh f fd):
    bf P w K mg base bG 1 f fd ["p","pairs","word"] Dv:=by
  refine F.ok r6 (λvs H Q E h=>?_) (λcdv A outer s H vs Q E hr h=>?_)
  · obtain⟨nb,p,b,g,prs,wd,rfl,hA,hC,hp,h1,h2,q⟩:=h
    rfl
  obtain⟨nb,p,b,g,prs,wd,rfl,hA,hC,hp,h1,h2,q⟩:=h;refine⟨_,(@aB _ _ _ _ _ (@bq _ _ (3) _ _ _ _ r6.nd rfl (a5 rfl) ai (by rfl) (by first|exact .inl rfl|exact .inr rfl|assumption)) (@aB _ _ _ _ _ (@k7 _ _ _ _ _ _ _ _ jy rfl (gm (K:=K) rfl (pv 1)) (Lx rfl (@dg _ _ _ _ _ (aY (i:=4) r6.nd rfl (a5 rfl)) (@dg _ _ _ _ _ (aY (i:=5) r6.nd rfl (a5 rfl)) j7 (by rfl)) (by rfl))) (@aL _ _ _ (@fj _ _ _ _ _ _ _ _ (@bI _ _ _ _ _ _ _ _ uC (@aH _ _ _ _ _ _ _ bE (pv 2) (pv 4) (λ_ _=>rfl)) j6 (bC _)) (@aL _ _ _ (@bq _ _ (3) _ _ _ _ r6.nd rfl (a5 rfl) (@aI _ _ _ _ _ _ _ _ gX (@aI _ _ _ _ _ _ _ _ gk (pv 3) (@aI _ _ _ _ _ _ _ _ iD (pv 5) (@aH _ _ _ _ _ _ _ bE (pv 2) (pv 4) (λ_ _=>rfl)))) (pv 0)) (by rfl) (by first|exact .inl rfl|exact .inr rfl|assumption))) fy)) (by intro _;rfl)) (@aL _ _ _ (@bh _ _ _ _ (pv 3))))),?_⟩;obtain⟨a,xs,rfl,na,ha,k⟩:=hA.dN;obtain⟨c,ws,rfl,nc,hc,l⟩:=hC.dN;have rF:=k.length;rw[ak] at rF;have ew:=Jv l;subst ew;walk_at "st";refine R.wm (aO.of ha) ?_;refine DM (xs:=xs) (λi σ H1=>H1=H/\∃(r:Int) (x y:Option V),σ=[some (.int p),some (.ref a),some (.ref c),some (.int r),x,y]/\r=bQ (prs.take i) wd%p) ⟨rfl,0,none,none,rfl,by simp[bQ]⟩ ?_ ?_ ?_
  · rintro i σ H1 hi ⟨rfl,_⟩
    exact aO.of ha
  · rintro i x σ H1 hx ⟨rfl,r,y,z,rfl,hr⟩
    have hi:i<prs.length:=by have:=(bH.mp hx).1;omega
    obtain⟨J,M,dx⟩:=k.get (i:=i) (by rw[cB,aQ hi];rfl);rw[hx] at M;cases M
    obtain⟨t,rfl,nt,ht⟩:=NU dx;obtain⟨g1,g2,u⟩:=h1 _ (iA hi);have hk:prs[i].fst.toNat<wd.length:=∅
    have B:bO (wd.map uO) prs[i].fst=some (uO wd[prs[i].fst.toNat]):=lF g1 (by rw[cB,aQ hk];rfl);have j:kR wd prs[i]=match wd[prs[i].fst.toNat] with|some x=>prs[i].snd*x|none=>0:=by
      unfold kR;rw[aQ hk];cases wd[prs[i].fst.toNat]<;>rfl
    have d:∀x,wd[prs[i].fst.toNat]=some x->Sm x:=λx e=>h2 x (by rw[<-e];exact iA hk);have hd:=Gn (wd:=wd) hi;refine R.P1 (fY.of ht) rfl ?_;walk_at "st";refine R.xg hc B ?_;walk_at "st";generalize wd[prs[i].fst.toNat]=o at B j d⊢;cases o with
    | none =>
      refine R.Gj ?_;walk_at "st";refine⟨rfl,_,_,_,rfl,?_⟩;rw[hd,j,hr,Int.add_zero]
    | some x =>
      have Mv:=d x rfl;refine R.JR ?_;walk_at "st";refine R.xg hc B ?_;refine R.rI (e6 ⟨u,Mv⟩) ?_;walk_at "st";refine⟨rfl,_,_,_,rfl,?_⟩;rw[hd,j,hr,my]
  · rintro σ H1 ⟨rfl,r,x,y,rfl,hr⟩
    walk_at "st";rw[rF,jQ] at hr;rw[hr];exact q
def zU:DF:=λds Φ=>∃wd:Wo,ds=[eV wd]/\wd.length<=10000/\Φ true (.list ((qi wd).map .int))
theorem N6:dJ zU:=by
 intro ds Φ Ψ hm z;revert hm;walk_at "mo";exact λq=>z _ _ q
theorem Sq:cg ["word"] ["word"] (aK wJ):=⟨rfl,rfl,rfl,by decide+kernel,rfl,by decide+kernel,by decide+kernel⟩
theorem We(F:bN K "lost_of" "lost_of" wJ f fd)(BD:mg "enumerate"=none):
    bf P w K mg base bG 1 f fd ["word"] (cQ 1 zU):=by
  refine F.ok Sq (λvs H Q E h=>h.1) (λcdv A outer s H vs Q E hr h=>?_);obtain⟨nb,ds,Φ,g,D,G,I⟩:=kL h;obtain⟨wd,rfl,hl,q⟩:=I;refine⟨_,(@aL _ _ _ (@bh _ _ _ _ (gC (dI.of (show eE (aK wJ) ["word"] _ ["place","letter"] [none,none]=true by decide+kernel)) (@VN _ (K) _ _ _ _ _ _ _ rfl rfl BD (pv 0) (by rfl)) (λ_ _ _ _=>⟨(@ku _ (K) _ _ _ (2) _ rfl rfl (@dg _ _ _ _ _ (aY (i:=0) (by show cf (["place","letter"]:List Str);decide+kernel) rfl (a5 rfl)) (@dg _ _ _ _ _ (aY (i:=1) (by show cf (["place","letter"]:List Str);decide+kernel) rfl (a5 rfl)) j7 (by rfl)) (by rfl)) (by rfl) (by rfl)),(mw (@bI _ _ _ _ _ _ _ _ yq (pv 1) j6 (bC _))),(pv 0)⟩)))),?_⟩;refine Sv.jY g D G (ρ:=[.d false _]) rfl ?_;clear G D;have n:(wd.map bS).length=wd.length:=ak ..;rfl';refine au.ev (au.P8 ⋯ rfl ?_);rfl';refine λv=>⟨true,λi ds=>ds=(((bp i).filter λj=>wd[j]?==some none).map λ(j:Nat)=>(j:Int)).map bj,rfl,?_,?_⟩
  · rintro i d ds ⟨e,he,rfl⟩ hl' rfl
    obtain⟨o,U,rfl⟩:=gQ he;rfl';refine⟨by walk_at "wk",?_⟩;rfl';rw[tK];cases o with
    | none =>
      rfl';show _=df _ (df _ (kn _ (bp (i+1))));rw[uz,lg,sL (by rw[U];rfl)];simp
    | some x =>
      rfl';show _=df _ (df _ (kn _ (bp (i+1))));rw[uz,lg,q9 (by rw[U];simp)];simp
  · rintro ds hl' rfl
    rw[n];exact q
def BS:DF:=λds Φ=>∃(p rest:Int) (prs:aC) (wd:Wo),ds=[.int p,cN prs, .int rest,eV wd]/\fE p/\p<10^40/\0<=rest/\rest<p/\prs.length<=10000/\p9 prs wd.length/\BR p prs/\ja wd/\Φ true (JN (gY p prs rest wd))
theorem NF:dJ BS:=by
 intro ds Φ Ψ hm z;revert hm;walk_at "mo";exact λq=>z _ _ q
theorem yu:cg ["p","pairs","rest","word","lost","place","factor"] ["p","pairs","rest","word"] (aK uK):=⟨rfl,rfl,rfl,by decide+kernel,rfl,by decide+kernel,by decide+kernel⟩
theorem QW(F:bN K "told_for" "told_for" uK f fd)(c:Callee P w K mg base "over" 2 ["p","a","b"] zd)(j:Callee P w K mg base "total" 1 ["p","pairs","word"] Dv)(bZ:mg "len"=none):
    bf P w K mg base bG 3 f fd ["p","pairs","rest","word"] (cQ 4 BS):=by
  refine F.ok yu (λvs H Q E h=>h.1) (λcdv A outer s H vs Q E hr h=>?_);obtain⟨nb,ds,Φ,g,D,G,I⟩:=kL h;obtain⟨p,rest,prs,wd,rfl,hp,V,r0,O,hl,Y,b,hW,q⟩:=I;refine⟨_,(@aB _ _ _ _ _ (xB (i:=4) yu.nd rfl rfl (dI.of (show eE (aK uK) ["p","pairs","rest","word","lost","place","factor"] _ ["place","factor","word"] [none,none,some 3]=true by decide+kernel)) (gm (K:=K) rfl (pv 1)) (λ_ _ _ _=>⟨(@ku _ (K) _ _ _ (2) _ rfl rfl (@dg _ _ _ _ _ (aY (i:=0) (by show cf (["place","factor","word"]:List Str);decide+kernel) rfl (a5 rfl)) (@dg _ _ _ _ _ (aY (i:=1) (by show cf (["place","factor","word"]:List Str);decide+kernel) rfl (a5 rfl)) j7 (by rfl)) (by rfl)) (by rfl) (by rfl)),(mw (@bI _ _ _ _ _ _ _ _ yq (@aH _ _ _ _ _ _ (cM K) bE (pv 2) (pv 0) (λ_ _=>rfl)) j6 (bC _))),(@gJ _ _ _ _ _ (@aa _ _ _ _ _ (pv 0) (@aa _ _ _ _ _ (pv 1) aj rfl) rfl))⟩)) (@aB _ _ _ _ _ (@fj _ _ _ _ _ _ _ _ (@bI _ _ _ _ _ _ _ _ lH (@cS _ _ _ _ _ _ _ _ (gK K) jc rfl bZ iU (@aa _ _ _ _ _ (pv 4) aj rfl) ⋯ ⋯ (by rfl) (by rfl)) ai (bC _)) (@aL _ _ _ (@bh _ _ _ _ j6)) fy) (@aB _ _ _ _ _ (@bq _ _ (5) _ _ _ _ yu.nd rfl (a5 rfl) (@aH _ _ _ _ _ _ (cY K) dW (@aH _ _ _ _ _ _ (cM K) bE (pv 4) ai (λ_ _=>rfl)) ai (λ_ _=>rfl)) (by rfl) (by first|exact .inl rfl|exact .inr rfl|assumption)) (@aB _ _ _ _ _ (@bq _ _ (6) _ _ _ _ yu.nd rfl (a5 rfl) (@aH _ _ _ _ _ _ (cY K) dW (@aH _ _ _ _ _ _ (cM K) bE (pv 4) ai (λ_ _=>rfl)) ai (λ_ _=>rfl)) (by rfl) (by first|exact .inl rfl|exact .inr rfl|assumption)) (@aL _ _ _ (@bh _ _ _ _ (@gJ _ _ _ _ _ (@aa _ _ _ _ _ (pv 5) (@aa _ _ _ _ _ (@aV _ _ _ _ _ _ _ _ _ _ c (hr.mono ⋯) (@aa _ _ _ _ _ (pv 0) (@aa _ _ _ _ _ (@aI _ _ _ _ _ _ _ _ lQ (pv 2) (@aV _ _ _ _ _ _ _ _ _ _ j (hr.mono ⋯) (@aa _ _ _ _ _ (pv 0) (@aa _ _ _ _ _ (pv 1) (@aa _ _ _ _ _ (pv 3) aj rfl) rfl) rfl) (by rfl) ⋯ (by rfl) (by rfl))) (@aa _ _ _ _ _ (pv 6) aj rfl) rfl) rfl) (by rfl) ⋯ (by rfl) (by rfl)) aj rfl) rfl)))))))),?_⟩;refine Sv.jY g D G (ρ:=[.d false _, .d false _, .d false _, .d false _, .no, .no, .no]) rfl ?_;clear G D;have n:(prs.map xk).length=prs.length:=ak ..;have p2:=hp.1;rfl';refine au.ev (au.i9 ⋯ rfl ?_);rfl';refine λv=>⟨true,λi ds=>ds=(ff wd (prs.take i)).map xk,rfl,?_,?_⟩
  · rintro i d ds hd hl' rfl
    obtain⟨pr,m,rfl⟩:=gQ hd;obtain⟨g1,g2,u⟩:=Y pr (c8 m);obtain⟨o,U,B⟩:=su (xs:=wd) bS g1 g2 rfl;rfl';refine⟨by walk_at "wk",?_⟩;rfl';rw[tK];cases o with
    | none =>
      rfl';refine⟨λ_=>rfl,?_⟩;show _=df xk (ff wd (prs.take (i+1)));rw[xn m,Hu,if_pos U,e7]
      rfl
    | some x =>
      rfl';show _=df xk (ff wd (prs.take (i+1)));rw[xn m,Hu,if_neg (by rw[U];simp)]
  rintro ds hl' rfl;rw[n,jQ];rfl';have key:∀L,ff wd prs=L->gY p prs rest wd=(match L with|[pr]=>some (pr.1,sol p pr.2 (rest-bQ prs wd%p))|_=>none):=λL e=>by unfold gY;rw[e]<;>rfl
  cases C:ff wd prs with
  | nil =>
    rfl';rw[key _ C] at q;exact q
  | cons pr r =>
    cases r with
    | cons a N =>
      have:¬((df xk (pr::a::N)).length:Int)=1:=by simp;omega
      rfl';rw[key _ C] at q;exact q
    | nil =>
      have hm:=(GP (wd:=wd) (prs:=prs) (pr:=pr) (by rw[C];simp)).1;have d0:=gP (bQ prs wd) (show p≠0 by omega);have d1:=gM (bQ prs wd) (show 0<p by omega);rfl';refine Ev.over ?_;rfl';refine Ev.total ?_;rfl';refine⟨p,prs,wd,rfl,∅,Y,hW,?_⟩;rfl';refine⟨p,rest-bQ prs wd%p,pr.2,rfl,hp,V,b pr hm,∅,∅,λx Z x1 hx=>?_⟩;rfl';rw[key _ C] at q;have e:=Er hp (b pr hm) Z x1 hx;rw[e];exact q
def Ag:DF:=λds Φ=>∃(p n c:Int) (cs:List aC) (wd:Wo),ds=[cO p n cs,eV wd, .int c]/\jP p cs wd.length/\ja wd/\0<=c/\c<cs.length/\Φ true (JN (gY p (cs.getD c.toNat []) 0 wd))
theorem MW:dJ Ag:=by
 intro ds Φ Ψ hm z;revert hm;walk_at "mo";exact λq=>z _ _ q
theorem Oj:cg ["net","word","c"] ["net","word","c"] (aK DK):=⟨rfl,rfl,rfl,by decide+kernel,rfl,by decide+kernel,by decide+kernel⟩
theorem SJ(F:bN K "told_by" "told_by" DK f fd)(a:Callee P w K mg base "told_for" 3 ["p","pairs","rest","word"] (cQ 4 BS)):
  bf P w K mg base bG 4 f fd ["net","word","c"] (cQ 3 Ag):=by
 refine F.ok Oj (λvs H Q E h=>h.1) (λcdv A outer s H vs Q E hr h=>?_);obtain⟨nb,ds,Φ,g,D,G,I⟩:=kL h;obtain⟨p,n,c,cs,wd,rfl,hN,hW,c0,c1,q⟩:=I;refine⟨_,(@aL _ _ _ (@bh _ _ _ _ (@aV _ _ _ _ _ _ _ _ _ _ a (hr.mono ⋯) (@aa _ _ _ _ _ (@aH _ _ _ _ _ _ (cY K) dW (pv 0) ai (λ_ _=>rfl)) (@aa _ _ _ _ _ (@aH _ _ _ _ _ _ (cM K) bE (@aH _ _ _ _ _ _ (cY K) dW (pv 0) ai (λ_ _=>rfl)) (pv 2) (λ_ _=>rfl)) (@aa _ _ _ _ _ ai (@aa _ _ _ _ _ (pv 1) aj rfl) rfl) rfl) rfl) (by rfl) ⋯ (by rfl) (by rfl)))),?_⟩;refine Sv.jY g D G (ρ:=[.d false _, .d false _, .d false _]) rfl ?_;clear G D;obtain⟨prs,e1,e2,e3,e4,e5⟩:=hN.at c0 c1;have p2:=hN.1.1;have B:bO (cs.map cN) c=some (cN prs):=lF c0 (by rw[cB,e1];rfl);rfl';refine Ev.jj NF ?_;rfl';rw[e2] at q;exact⟨rfl,p,0,prs,wd,rfl,hN.1,hN.2.1,∅,∅,∅,e4,e5,hW,q⟩
def AB:DF:=λds Φ=>∃(p n:Int) (cs:List aC) (wd:Wo),ds=[cO p n cs,eV wd]/\jP p cs wd.length/\ja wd/\wd.length<=4000/\Φ true (pN (cV p cs wd))
theorem Ss:dJ AB:=by
 intro ds Φ Ψ hm z;revert hm;walk_at "mo";exact λq=>z _ _ q
theorem yH:cg ["net","word","found","c","told"] ["net","word"] (aK ya):=⟨rfl,rfl,rfl,by decide+kernel,rfl,by decide+kernel,by decide+kernel⟩
theorem SD(F:bN K "round_of" "round_of" ya f fd)(e:Callee P w K mg base "told_by" 4 ["net","word","c"] (cQ 3 Ag))(cy:mg "range"=none)(bZ:mg "len"=none)(lA:mg "sorted"=none):
    bf P w K mg base bG 5 f fd ["net","word"] (cQ 2 AB):=by
  refine F.ok yH (λvs H Q E h=>h.1) (λcdv A outer s H vs Q E hr h=>?_);obtain⟨nb,ds,Φ,g,D,G,I⟩:=kL h;obtain⟨p,n,cs,wd,rfl,hN,hW,hl,q⟩:=I;refine⟨_,(@aB _ _ _ _ _ (@bq _ _ (2) _ _ _ _ yH.nd rfl (e6 rfl) LO (by rfl) (by first|exact .inl rfl|exact .inr rfl|assumption)) (@aB _ _ _ _ _ (@k7 _ _ _ _ _ _ _ _ jy rfl (@jZ _ _ _ _ _ _ rfl cy (@aa _ _ _ _ _ (@cS _ _ _ _ _ _ _ _ (gK K) jc rfl bZ iU (@aa _ _ _ _ _ (@aH _ _ _ _ _ _ (cY K) dW (pv 0) ai (λ_ _=>rfl)) aj rfl) ⋯ ⋯ (by rfl) (by rfl)) aj rfl) (by rfl)) (aY (i:=3) yH.nd rfl (a5 rfl)) (@aB _ _ _ _ _ (@bq _ _ (4) _ _ _ _ yH.nd rfl (a5 rfl) (@aV _ _ _ _ _ _ _ _ _ _ e (hr.mono ⋯) (@aa _ _ _ _ _ (pv 0) (@aa _ _ _ _ _ (pv 1) (@aa _ _ _ _ _ (pv 3) aj rfl) rfl) rfl) (by rfl) ⋯ (by rfl) (by rfl)) (by rfl) (by first|exact .inl rfl|exact .inr rfl|assumption)) (@aL _ _ _ (@fj _ _ _ _ _ _ _ _ (PW.pt (lB (@bI _ _ _ _ _ _ _ _ uC (pv 4) j6 (bC _)) (lG (@bI _ _ _ _ _ _ _ _ (K7 hr.units) (@aH _ _ _ _ _ _ (cY K) dW (pv 4) ai (λ_ _=>rfl)) (pv 2) (by with_unfolding_all rfl))))) (@aL _ _ _ (@jr _ _ _ _ _ _ (@gJ _ _ _ _ _ (@aa _ _ _ _ _ (@aH _ _ _ _ _ _ (cY K) dW (pv 4) ai (λ_ _=>rfl)) (@aa _ _ _ _ _ (pv 3) (@aa _ _ _ _ _ (@aH _ _ _ _ _ _ (cY K) dW (pv 4) ai (λ_ _=>rfl)) aj rfl) rfl) rfl)) (ly (pv 2) (@aH _ _ _ _ _ _ (cY K) dW (pv 4) ai (λ_ _=>rfl)) set_dict) (by rfl) (by rfl) (by rfl))) fy))) (by intro _;rfl)) (@aL _ _ _ (@bh _ _ _ _ (gC (dI.of (show eE (aK ya) ["net","word","found","c","told"] _ ["place","found"] [none,some 2]=true by decide+kernel)) (gm (K:=K) rfl (@cS _ _ _ _ _ _ _ _ (vE) (IU rfl) rfl lA yP (@aa _ _ _ _ _ (pv 2) aj rfl) ⋯ ⋯ (by rfl) (by rfl))) (λ_ _ _ _=>⟨(aY (i:=0) (by show cf (["place","found"]:List Str);decide+kernel) rfl (a5 rfl)),iP,(@aH _ _ _ _ _ _ (tT) Jd (pv 1) (pv 0) (λ_ _=>rfl))⟩)))))),?_⟩;refine Sv.jY g D G (ρ:=[.d false _, .d false _, .no, .no, .no]) rfl ?_;clear G D;have p2:=hN.1.1;have hcl:=hN.2.2.1;have X:((cs.map cN).length:Int)=cs.length:=by rw[ak]
  refine Sv.seq ?_;refine Sv.LH (qT.new ?_);intro A2;refine Sv.seq ?_;refine Sv.uQ ?_;refine Ev.wX ?_;refine Ev.iI ?_;refine Ev.var rfl ?_;refine⟨_,rfl,Ev.int ⟨_,rfl,_,rfl,_, .inl rfl,_,rfl,∅,∅,?_⟩⟩;rw[show((cs.map cN).length:Int).toNat=cs.length by omega];refine⟨λi ρ=>∃(x3 x4:Sl),ρ=[.d false (cO p n cs), .d false (eV wd), .bD A2 true ((bB p cs wd i).map kM),x3,x4],⟨_,_,rfl⟩,?_,?_⟩
  · rintro i d ρ' ⟨hi,rfl⟩ ⟨x3,x4,rfl⟩
    have hfl:=rJ (p:=p) (cs:=cs) (wd:=wd) ∅ hN.rg (i:=i) ∅;rfl';refine Ev.jj MW ?_;rfl';refine⟨rfl,p,n,0+(i:Int),cs,wd,rfl,hN,hW,∅,∅,?_⟩;rw[show(0+(i:Int)).toNat=i by omega]
    have ef:bB p cs wd (i+1)=match gY p (cs.getD i []) 0 wd with
      |some (a,x)=>if a∈(bB p cs wd i).map (·.1) then bB p cs wd i else bB p cs wd i++[(a,(i:Int),x)]
      |none=>bB p cs wd i:=by rw[bB]<;>rfl
    cases ht:gY p (cs.getD i []) 0 wd with
    | none =>
      rw[ht] at ef;dsimp only at ef;show Gv _ _ _ _ PyData.none _;rfl';show∃(x3 x4:Sl),(_:Rh)=[Sl.d false (cO p n cs),Sl.d false (eV wd),Sl.bD A2 true ((bB p cs wd (i+1)).map kM),x3,x4];rw[ef];exact⟨_,_,rfl⟩
    | some b =>
      obtain⟨a,x⟩:=b;rw[ht] at ef;dsimp only at ef;show Gv _ _ _ _ (i0 [.int a, .int x]) _;rfl';refine Ev.Gu rfl ?_;rfl';rw[sh];by_cases c:a∈(bB p cs wd i).map (·.1)
      · rw[if_pos c] at ef
        have:ju ((bB p cs wd i).map kM) a=true:=by rw[yM,qh];exact c
        rw[this];rfl';show∃(x3 x4:Sl),(_:Rh)=[Sl.d false (cO p n cs),Sl.d false (eV wd),Sl.bD A2 true ((bB p cs wd (i+1)).map kM),x3,x4];rw[ef];exact⟨_,_,rfl⟩
      · rw[if_neg c] at ef
        have:ju ((bB p cs wd i).map kM) a=false:=by rw[<-nP,yM,qh];exact c
        rw[this];generalize lq:(fP _ (nU (bz 2) _ _):TS)=tl;rfl';subst lq;refine Sv.FL rfl ?_;rfl';refine⟨by rw[ak];omega,?_⟩;show∃(x3 x4:Sl),(_:Rh)=[Sl.d false (cO p n cs),Sl.d false (eV wd),Sl.bD A2 true ((bB p cs wd (i+1)).map kM),x3,x4];rw[ef,e7];unfold rz;rw[this,show(0+(i:Int))=i by omega];exact⟨_,_,rfl⟩
  · rintro ρ' ⟨x3,x4,rfl⟩
    have hfl:=rJ (p:=p) (cs:=cs) (wd:=wd) ∅ hN.rg (i:=cs.length) (aF _);refine Sv.ret (au.ev (au.i9 ⋯ rfl ?_));refine au.ev (au.El rfl (by rw[ak];omega) λL U k=>?_);rw[qh] at k;obtain⟨ms,rfl,t⟩:=Ed k _ rfl;have hmr:=IC t U;have hml:ms.length<=wd.length:=by rw[t.length_eq];exact hfl
    refine⟨_,rfl,by rw[ak,ak];omega,λv=>⟨true,λi ds=>ds=(ms.take i).map oN,rfl,?_,?_⟩⟩
    · rintro i d ds hd hl' rfl
      obtain⟨a,ha,rfl⟩:=gQ hd;obtain⟨m,hm,rfl⟩:=gQ ha;have hv:=AX (l8 (p:=p) (cs:=cs) (wd:=wd) cs.length) (t.mem_iff.mp (c8 hm));rfl';refine⟨by walk_at "wk",?_⟩;rfl';refine Ev.JI rfl ?_;rfl';refine⟨_,hv,λ_=>rfl,?_⟩;show _=df _ (jt (i+1) ms);rw[xn hm,e7]
      rfl
    · rintro ds hl' rfl
      rw[ak,ak,jQ,hmr,tE];exact q
def vd:SF:=λds Φ=>∃(p n:Int) (cs:List aC),ds=[cO p n cs]/\cs.length<=10000/\(∀prs∈cs,prs.length<=10000)/\∀c a0 bs,(c::a0::bs).Nodup->bs.length=(eT cs).length->Φ (.ref c) (gF c a0 bs (.int p) (.int n) (eT cs))
theorem NT:xx vd:=by
 intro ds Φ Ψ hm z;revert hm;walk_at "mo";exact λq=>λc a0 bs x y=>z _ _ (q c a0 bs x y)
theorem Mx:cg ["net"] ["net"] (aK yy):=⟨rfl,rfl,rfl,by decide+kernel,rfl,by decide+kernel,by decide+kernel⟩
theorem T5(F:bN K "copied" "copied" yy f fd)(dB:mg "list"=none):
  bf P w K mg base bG 1 f fd ["net"] (m5 1 vd):=by
 refine F.ok Mx (λvs H Q E h=>h.1) (λcdv A outer s H vs Q E hr h=>?_);obtain⟨_,nb,ds,g,D,I⟩:=h;obtain⟨Φ,G,I⟩:∃Φ:V->bW->Prop,(∀v L H',Φ v L->bU H H'->sq nb H H' L->Q v H')/\vd ds Φ:=⟨_,λv L H' q=>q H',I⟩;obtain⟨p,n,cs,rfl,hl,o,q⟩:=I;refine⟨_,(@aL _ _ _ (@bh _ _ _ _ (@gJ _ _ _ _ _ (@aa _ _ _ _ _ (@aH _ _ _ _ _ _ (cY K) dW (pv 0) ai (λ_ _=>rfl)) (@aa _ _ _ _ _ (@aH _ _ _ _ _ _ (cY K) dW (pv 0) ai (λ_ _=>rfl)) (@aa _ _ _ _ _ (gC (dI.of (show eE (aK yy) ["net"] _ ["pairs"] [none]=true by decide+kernel)) (gm (K:=K) rfl (@aH _ _ _ _ _ _ (cY K) dW (pv 0) ai (λ_ _=>rfl))) (λ_ _ _ _=>⟨(aY (i:=0) (by show cf (["pairs"]:List Str);decide+kernel) rfl (a5 rfl)),iP,(@kZ _ _ _ _ _ _ _ _ (jV K) o4 rfl dB jR (@aa _ _ _ _ _ (pv 0) aj rfl) ⋯ ⋯ (by rfl) (by rfl))⟩)) aj rfl) rfl) rfl)))),?_⟩;refine Sv.Ig g D G (ρ:=[.d false _]) rfl ?_;clear G D;refine Sv.HF rfl (Ev.iI (Ev.var rfl ⟨_,rfl,Ev.int ⟨0,rfl,_,rfl,rfl,?_⟩⟩));refine Ev.iI (Ev.var rfl ⟨_,rfl,Ev.int ⟨1,rfl,_,rfl,rfl,?_⟩⟩);refine sG.i9 ⋯ rfl (Ev.iI (Ev.var rfl ⟨_,rfl,Ev.int ⟨2,rfl,_,rfl,_,rfl,?_⟩⟩));refine⟨by rw[ak];exact hl,λv=>⟨λi aG=>aG=eT (cs.take i),rfl,?_,?_⟩⟩
 .rintro i d aG hd hl' rfl;obtain⟨prs,W,rfl⟩:=gQ hd;rfl';refine⟨by walk_at "wk",?_⟩;refine au.listOf ?_;rfl';show _=eT (jt (i+1) cs);unfold eT;rw[xn W,e7]
  rfl
 .rintro aG hl' rfl;rw[ak,jQ];exact q
theorem uP:cg ["script","stir","cell"] ["script"] (aK xZ):=⟨rfl,rfl,rfl,by decide+kernel,rfl,by decide+kernel,by decide+kernel⟩
theorem Rz(F:bN K "_law_bag" "_law_bag" xZ f fd)(Dy:mg "abs"=none):
  bf P w K mg base bG 1 f fd ["script"] (FH K):=by
 refine F.ok uP (λvs H Q E h=>?_) (λcdv A outer s H vs Q E hr h=>?_)
 .obtain⟨a,ns,rfl,N,hl,q⟩:=h
  rfl
 obtain⟨a,ns,rfl,N,hl,q⟩:=h;refine⟨_,(@aB _ _ _ _ _ (@bq _ _ (1) _ _ _ _ uP.nd rfl (a5 rfl) ai (by rfl) (by first|exact .inl rfl|exact .inr rfl|assumption)) (@aB _ _ _ _ _ (@k7 _ _ _ _ _ _ _ _ jy rfl (gm (K:=K) rfl (@rH _ _ _ _ _ _ _ _ _ _ qW (pv 0) rK (@tB _ _ _ ai))) (aY (i:=2) uP.nd rfl (a5 rfl)) (@aL _ _ _ (@bq _ _ (1) _ _ _ _ uP.nd rfl (a5 rfl) (@aI _ _ _ _ _ _ _ _ gX (@aI _ _ _ _ _ _ _ _ gk (@aI _ _ _ _ _ _ _ _ gk (@aI _ _ _ _ _ _ _ _ iD (pv 1) ai) (@aI _ _ _ _ _ _ _ _ gX (pv 2) ai)) ai) ai) (by rfl) (by first|exact .inl rfl|exact .inr rfl|assumption))) (by intro _;rfl)) (@aL _ _ _ (@bh _ _ _ _ (@jw _ _ _ _ (@aa _ _ _ _ _ (gC (dI.of (show eE (aK xZ) ["script","stir","cell"] _ ["cell"] [none]=true by decide+kernel)) (gm (K:=K) rfl (@rH _ _ _ _ _ _ _ _ _ _ qW (pv 0) rK (@tB _ _ _ ai))) (λ_ _ _ _=>⟨(aY (i:=0) (by show cf (["cell"]:List Str);decide+kernel) rfl (a5 rfl)),iP,(@aI _ _ _ _ _ _ _ _ gX (@cS _ _ _ _ _ _ _ _ _ UL rfl Dy td (@aa _ _ _ _ _ (pv 0) aj rfl) ⋯ ⋯ (by rfl) (by rfl)) (@aI _ _ _ _ _ _ _ _ uF ai ai))⟩)) (@aa _ _ _ _ _ ai (@aa _ _ _ _ _ ai (@aa _ _ _ _ _ (pv 1) (@aa _ _ _ _ _ ai aj rfl) rfl) rfl) rfl) rfl)))))),?_⟩;have d:kD (ns.map V.int) none (some 63)=ns.map V.int:=by
  have e:(ns.map V.int).length=ns.length:=ak _;show jt (min 63 (ns.map V.int).length-0) (w7 0 (ns.map V.int))=_;rw[uE];exact Aq ∅
 walk_at "st";refine R.JS N λc hc=>?_;rw[d];refine R.wm (aO.of aT) ?_;refine DM (xs:=ns.map V.int) (λi σ H1=>∃(st:Int) (x:Option V),σ=[some (.ref a),some (.int st),x]/\0<=st/\st<2147483647/\H1=upd H c (.lst (ns.map V.int))) ⟨19,none,rfl,∅,∅,rfl⟩ ?_ ?_ ?_
 .rintro i σ H1 hi ⟨st,x,rfl,h1,h2,rfl⟩;exact aO.of aT
 .rintro i x σ H1 hx ⟨st,y,rfl,h1,h2,rfl⟩;rw[cB] at hx;obtain⟨n,_,rfl⟩:=jJ.mp hx;walk_at "st";exact⟨_,_,rfl,gP _ ⋯,gM _ ⋯,rfl⟩
 .rintro σ H1 ⟨st,x,rfl,h1,h2,rfl⟩;walk_at "st";refine R.JS ((cF hc).seq N) λc2 b=>?_;rw[d];refine R.wm (aO.of aT) ?_;intro acc hacc;refine R.Di (xs:=ns.map V.int) (λi σ H2=>∃(x:Option V),σ=[x]/\H2=upd (upd (upd H c (.lst (ns.map V.int))) c2 (.lst (ns.map V.int))) acc (.lst (((ns.take i).map λn=>(if n<0 then-n else n)%10^60).map V.int))) ⟨none,rfl,rfl⟩ ?_ ?_ ?_
  .rintro i σ H1 hi ⟨x,rfl,rfl⟩;refine aO.of ?_;rw[aM (gZ aT hacc)];exact aT
  .rintro i x σ H1 hx ⟨y,rfl,rfl⟩;rw[cB] at hx;obtain⟨n,hn,rfl⟩:=jJ.mp hx;walk_at "st";refine⟨_,aT,?_,_,rfl,?_⟩
   .rw[ak,ak,kh];exact E7 ∅
   .rw[A0,B4,hn,e7,e7]
    rfl
  .rintro σ H1 ⟨x,rfl,rfl⟩;walk_at "st";refine(show Bh _ _ _ from⟨by show 5<=sizeLine;decide,λp hp=>?_⟩);have hn1:=gZ (aT (H:=upd (upd H c (.lst (ns.map V.int))) c2 (.lst (ns.map V.int))) (a:=acc)) hp;have s1:bU H (upd (upd (upd H c (.lst (ns.map V.int))) c2 (.lst (ns.map V.int))) acc (.lst (((ns.take (ns.map V.int).length).map λn=>(if n<0 then-n else n)%10^60).map V.int))):=(cF hc).trans ((cF b).trans (cF hacc));refine q p acc _ (s1.trans (cF hp)) (s1.free hp) ⟨_,0,0,st,0,aT,by rw[aM hn1];exact aT,?_,?_,∅,∅,∅,h1,h2⟩
   .intro y hy;obtain⟨z,_,rfl⟩:=fk.mp hy;exact⟨gP _ ⋯,gM _ ⋯⟩
   .rw[ak,kh];omega
theorem EV:cg ["bag","many","found"] ["bag","many"] (aK Dj):=⟨rfl,rfl,rfl,by decide+kernel,rfl,by decide+kernel,by decide+kernel⟩
theorem OV(F:bN K "_law_draw" "_law_draw" Dj f fd)(bZ:mg "len"=none):
  bf P w K mg base bG 1 f fd ["bag","many"] i6:=by
 refine F.ok EV (λvs H Q E h=>?_) (λcdv A outer s H vs Q E hr h=>?_)
 .obtain⟨b,l,many,rfl,M,hm,hs,q⟩:=h
  rfl
 obtain⟨b,l,many,rfl,M,hm,hs,q⟩:=h;refine⟨_,(@aB _ _ _ _ _ (@fj _ _ _ _ _ _ _ _ (PW.pt (lB (@bI _ _ _ _ _ _ _ _ gD (@aH _ _ _ _ _ _ _ bE (pv 0) ai (λ_ _=>rfl)) ai (bC _)) (lG (@bI _ _ _ _ _ _ _ _ GD (@aH _ _ _ _ _ _ _ bE (pv 0) ai (λ_ _=>rfl)) (@cS _ _ _ _ _ _ _ _ _ G6 rfl bZ iU (@aa _ _ _ _ _ (@aH _ _ _ _ _ _ _ bE (pv 0) ai (λ_ _=>rfl)) aj rfl) ⋯ ⋯ (by rfl) (by rfl)) (bC _))))) (@aB _ _ _ _ _ (@jr _ _ _ _ _ _ (@aH _ _ _ _ _ _ _ bE (@aH _ _ _ _ _ _ _ bE (pv 0) ai (λ_ _=>rfl)) (@aH _ _ _ _ _ _ _ bE (pv 0) ai (λ_ _=>rfl)) (λ_ _=>rfl)) (ly (pv 0) ai set_list) (by rfl) (by rfl) (by rfl)) (@aL _ _ _ (@jr _ _ _ _ _ _ (@aI _ _ _ _ _ _ _ _ gk (@aH _ _ _ _ _ _ _ bE (pv 0) ai (λ_ _=>rfl)) ai) (ly (pv 0) ai set_list) (by rfl) (by rfl) (by rfl)))) (@aL _ _ _ (@fj _ _ _ _ _ _ _ _ (@bI _ _ _ _ _ _ _ _ gD (@aH _ _ _ _ _ _ _ bE (pv 0) ai (λ_ _=>rfl)) ai (bC _)) (@aB _ _ _ _ _ (@jr _ _ _ _ _ _ (@aI _ _ _ _ _ _ _ _ gk (@aH _ _ _ _ _ _ _ bE (pv 0) ai (λ_ _=>rfl)) ai) (ly (pv 0) ai set_list) (by rfl) (by rfl) (by rfl)) (@aB _ _ _ _ _ (@jr _ _ _ _ _ _ (@aI _ _ _ _ _ _ _ _ gX (@aI _ _ _ _ _ _ _ _ gk (@aI _ _ _ _ _ _ _ _ gk (@aI _ _ _ _ _ _ _ _ gk (@aI _ _ _ _ _ _ _ _ uF (@aH _ _ _ _ _ _ _ bE (pv 0) ai (λ_ _=>rfl)) ai) (@aI _ _ _ _ _ _ _ _ iD ai (@aH _ _ _ _ _ _ _ bE (pv 0) ai (λ_ _=>rfl)))) (@aI _ _ _ _ _ _ _ _ iD ai (@aH _ _ _ _ _ _ _ bE (pv 0) ai (λ_ _=>rfl)))) ai) ai) (ly (pv 0) ai set_list) (by rfl) (by rfl) (by rfl)) (@aL _ _ _ (@bh _ _ _ _ (@aI _ _ _ _ _ _ _ _ gX (@aI _ _ _ _ _ _ _ _ qj (@aH _ _ _ _ _ _ _ bE (pv 0) ai (λ_ _=>rfl)) ai) (pv 1)))))) fy))) (@aB _ _ _ _ _ (@bq _ _ (2) _ _ _ _ EV.nd rfl (a5 rfl) (@aI _ _ _ _ _ _ _ _ gX (@aH _ _ _ _ _ _ _ bE (pv 0) ai (λ_ _=>rfl)) (pv 1)) (by rfl) (by first|exact .inl rfl|exact .inr rfl|assumption)) (@aB _ _ _ _ _ (@jr _ _ _ _ _ _ (@aI _ _ _ _ _ _ _ _ qj (@aH _ _ _ _ _ _ _ bE (pv 0) ai (λ_ _=>rfl)) (pv 1)) (ly (pv 0) ai set_list) (by rfl) (by rfl) (by rfl)) (@aL _ _ _ (@bh _ _ _ _ (pv 2)))))),?_⟩;obtain⟨ns,i,c,st,n,h1,h2,h3,h4,h5,p,d,j,k⟩:=id M;have hlb:=OF h1 h2
 have fin:∀(H1:Hp) (a c':Int),H1 b=some (.lst [.ref l, .int a, .int c', .int st, .int n])->aP (Nb b) H H1->0<=a->0<=c'->c'<10^60->
   ∀(H2:Hp),H2=upd H1 b (.lst [.ref l, .int a, .int (c'/many), .int st, .int n])->Q (.int (c'%many)) H2:=λH1 a c' e1 bt g1 g2 u H2 e2=>by
  subst e2;have e:0<=c'/many:=xP g2 ∅;have g:c'/many<=c':=Ax _ g2;exact q _ _ (gP _ ∅) (gM _ hm) (bt.trans (aP.set rfl)) (dO.put hlb (bt _ _ hlb h2) h3 h4 g1 e ∅ j k)
 walk_at "st";refine pD (λc1=>?_) (λc1=>?_)
 .have c1:c=0:=of_decide_eq_true c1;walk_at "st";refine pD (λc2=>?_) (λc2=>?_)
  .have c2:i<(df V.int ns).length:=of_decide_eq_true c2;rw[ak] at c2;have hi:i.toNat<ns.length:=∅
   obtain⟨g1,g2⟩:=h3 _ (iA hi);walk_at "st";refine R.xg h2 (v:= .int ns[i.toNat]) (lF h5 (by rw[cB,aQ hi];rfl)) ?_;walk_at "st";refine fin (upd H b (.lst [.ref l, .int (i+1), .int ns[i.toNat], .int st, .int n])) (i+1) ns[i.toNat] aT (aP.set rfl) ∅ g1 g2 _ ?_;rw[A0]
   rfl
  .walk_at "st";exact q _ _ (gP _ ∅) (gM _ hm) (aP.set rfl) (dO.put hlb h2 h3 h4 h5 p d (gP _ ⋯) (gM _ ⋯))
 .have c1:¬c=0:=of_decide_eq_false (Bj.mpr c1);walk_at "st";exact fin H i c h1 (aP.refl _ _) h5 p d _ rfl
theorem Q7(is:List Int):eh (.list (is.map bj)) (.list [])=decide (is=[]):=by
 cases is<;>simp[eh,hX]
theorem QU(is:List Int):c5 (.list (is.map bj))=true:=by
 have h:cm (is.map bj)=0/\ba (is.map bj)=true:=by
  induction is with
  |nil=>simp[cm,ba]
  |cons a r ih=>simp[cm,ej,ba,br,ih.2,ih.1]
 unfold c5;simp[br,ej,h.2,h.1]
theorem Hr{nb:aw->Prop}{H:Hp}:∀is:List Int,af nb H (is.map bj) (is.map V.int)
 |[]=>af.nil
 |i::is=>af.cons (.int i) (Hr is)
theorem Se{r:Int}(h0:r<=10100)(h:∀d:Int,2<=d->d<102->¬(d*d<=r/\r%d=0)):wF r:=λd d1 d2 e=>by
 by_cases hd:d<102;·exact h d d1 hd ⟨d2,e⟩
 .have:102*102<=d*d:=Bo ∅ ∅ ∅ ∅;omega
theorem JT:cg ["number","found"] ["number"] (aK vO):=⟨rfl,rfl,rfl,by decide+kernel,rfl,by decide+kernel,by decide+kernel⟩
theorem Uo(F:bN K "_law_prime_from" "_law_prime_from" vO f fd)(cy:mg "range"=none):
  bf P w K mg base bG 1 f fd ["number"] Au:=by
 refine F.ok JT (λvs H Q E h=>?_) (λcdv A outer s H vs Q E hr h=>?_)
 .obtain⟨n,rfl,hn1,t,q⟩:=h
  rfl
 obtain⟨n,rfl,hn1,t,q⟩:=h;refine⟨_,(@aB _ _ _ _ _ (@k7 _ _ _ _ _ _ _ _ jy rfl (@GJ _ _ _ _ _ _ _ rfl cy (@aa _ _ _ _ _ (pv 0) (@aa _ _ _ _ _ (@aI _ _ _ _ _ _ _ _ gk (pv 0) ai) aj rfl) rfl) (by rfl) (by rfl)) (aY (i:=1) JT.nd rfl (e6 rfl)) (@aL _ _ _ (@fj _ _ _ _ _ _ _ _ (@bI _ _ _ _ _ _ _ _ (XY hr.units) (gC (dI.of (show eE (aK vO) ["number","found"] _ ["k","found"] [none,some 1]=true by decide+kernel)) (@GJ _ _ _ _ _ _ _ rfl cy (@aa _ _ _ _ _ ai (@aa _ _ _ _ _ ai aj rfl) rfl) (by rfl) (by rfl)) (λ_ _ _ _=>⟨(aY (i:=0) (by show cf (["k","found"]:List Str);decide+kernel) rfl (a5 rfl)),(mw (PW.pt (lB (@bI _ _ _ _ _ _ _ _ J3 (@aI _ _ _ _ _ _ _ _ iD (pv 0) (pv 0)) (pv 1) (bC _)) (lG (@bI _ _ _ _ _ _ _ _ gD (@aI _ _ _ _ _ _ _ _ gX (pv 1) (pv 0)) ai (bC _)))))),(pv 0)⟩)) (@jw _ _ _ _ aj) (bC _)) (@aL _ _ _ (@bh _ _ _ _ (pv 1))) fy)) (by intro _;rfl)) (@aL _ _ _ (@bh _ _ _ _ ai))),?_⟩;walk_at "st";refine En (λi σ H1=>bU H H1/\∃(x:Option V),σ=[some (.int n),x]) ⟨bU.refl _,none,rfl⟩ ?_ ?_
 .rintro i σ H1 hi ⟨s1,x,rfl⟩;have b:(i:Int)<60:=∅
  walk_at "st";intro acc hacc;refine R.Gi (λj σ H2=>bU H1 H2/\(∃x:Option V,σ=[x,some (.int (n+i))])/\∃is:List Int,H2 acc=some (.lst (is.map V.int))/\is.length<=j/\(is=[]->∀d:Int,2<=d->d<2+j->¬(d*d<=n+i/\(n+i)%d=0))) ?_ ?_ ?_;·exact⟨cF hacc,⟨none,rfl⟩,[],aT,eW _,λ_ d d1 d2=>∅⟩
  .rintro j σ H2 hj ⟨s2,⟨x,rfl⟩,is,e2,l2,h2⟩;have hj2:(j:Int)<100:=∅
   have next:∀d:Int,d<2+((j+1:Nat):Int)->d<2+j\/d=2+j:=λd h=>∅
   walk_at "st";refine pD (λc1=>?_) (λc1=>?_)
   .have c1:(2+(j:Int))*(2+j)<=n+i:=of_decide_eq_true c1;walk_at "st";refine pD (λc2=>?_) (λc2=>?_)
    .have c2:(n+i)%(2+(j:Int))=0:=of_decide_eq_true c2;walk_at "st";refine⟨_,e2,?_,?_,⟨_,rfl⟩,is++[2+(j:Int)],?_,?_,λe=>?_⟩;·rw[ak];exact E7 ∅
     .exact λa o h=>by rw[aM (gZ h hacc)];exact s2 _ _ h
     .rw[aT,e7];rfl
     .rw[gx,j8];omega
     .simp at e
    .have c2:¬(n+i)%(2+(j:Int))=0:=of_decide_eq_false (Bj.mpr c2);refine⟨s2,⟨_,rfl⟩,is,e2,∅,λe d d1 d2=>?_⟩;rcases next d d2 with h|h
     .exact h2 e d d1 h
     .rw[h];exact λz=>c2 z.2
   .have c1:¬(2+(j:Int))*(2+j)<=n+i:=of_decide_eq_false (Bj.mpr c1);walk_at "st";refine⟨s2,⟨_,rfl⟩,is,e2,∅,λe d d1 d2=>?_⟩;rcases next d d2 with h|h
    .exact h2 e d d1 h
    .rw[h];exact λz=>c1 z.1
  .rintro σ H2 ⟨s2,⟨x,rfl⟩,is,e2,l2,h2⟩;walk_at "st";refine R.Qm ⋯ λp H3 s3 g e3=>?_;refine⟨λ_=>False, .list (is.map bj), .list [], .lst id (s3 _ _ e2) (Hr is), .lst id e3 af.nil,QU is,⋯,?_⟩;rw[Q7];walk_at "st";have s:bU H H3:=s1.trans (s2.trans s3);refine pD (λc=>?_) (λc=>?_)
   .have c:is=[]:=by simpa using c
    walk_at "st";exact q _ _ s ∅ ∅ (Se ∅ λd d1 d2=>h2 c d d1 ∅)
   .walk_at "st";exact⟨s,_,rfl⟩
 .rintro σ H1 ⟨s1,x,rfl⟩;walk_at "st";refine q _ _ s1 ∅ ∅ λd d1 d2=>?_;have:2*2<=d*d:=Bo d1 d1 ∅ ∅;omega
def zc:DF:=λds Φ=>ds=[]/\∀p:Int,fE p->p<10^40->∀f,Φ f (.int p)
theorem O4:dJ zc:=by
 intro ds Φ Ψ hm z;revert hm;walk_at "mo";exact λq=>λp h1 h2 f=>z _ _ (q p h1 h2 f)
theorem VJ:∀x∈([2,3,5,7,2,11,101,10007,65537,1000003,998244353,1000000007,2147483647,1000000000039,10^pb 39+3,10^pb 40-17,2305843009213693951,618970019642690137449562111,162259276829213363391578010288127,170141183460469231731687303715884105727]:List Int),x∈uG/\x<10^40:=⋯
theorem qZ:cg ["bag","some","way"] ["bag"] (aK Aj):=⟨rfl,rfl,rfl,by decide+kernel,rfl,by decide+kernel,by decide+kernel⟩
theorem QJ(F:bN K "_law_prime" "_law_prime" Aj f fd)(J:Callee P w K mg base "_law_draw" 1 ["bag","many"] i6)(e:Callee P w K mg base "_law_prime_from" 1 ["number"] Au):
  bf P w K mg base bG 2 f fd ["bag"] (dM 1 zc):=by
 refine F.ok qZ (λvs H Q E h=>h.1) (λcdv A outer s H vs Q E hr h=>?_);obtain⟨b,l,ws,nb,ds,Φ,rfl,M,g,t,D,G,I⟩:=kU h;obtain⟨rfl,q⟩:=I;refine⟨_,(@aB _ _ _ _ _ (@Xn _ 1 _ _ _ _ _ _ qZ.nd rfl (a5 rfl) rfl (a5 rfl)) (@aB _ _ _ _ _ (@bq _ _ (1) _ _ _ _ qZ.nd rfl (a5 rfl) (@aI _ _ _ _ _ _ _ _ Be (pv 1) (@jw _ _ _ _ (@aa _ _ _ _ _ (@aI _ _ _ _ _ _ _ _ gk (@aI _ _ _ _ _ _ _ _ uF ai ai) ai) (@aa _ _ _ _ _ (@aI _ _ _ _ _ _ _ _ lQ (@aI _ _ _ _ _ _ _ _ uF ai ai) ai) (@aa _ _ _ _ _ ai (@aa _ _ _ _ _ ai aj rfl) rfl) rfl) rfl))) (by rfl) (by first|exact .inl rfl|exact .inr rfl|assumption)) (@aB _ _ _ _ _ (@bq _ _ (1) _ _ _ _ qZ.nd rfl (a5 rfl) (@aI _ _ _ _ _ _ _ _ Be (pv 1) (@jw _ _ _ _ (@aa _ _ _ _ _ ai (@aa _ _ _ _ _ ai aj rfl) rfl))) (by rfl) (by first|exact .inl rfl|exact .inr rfl|assumption)) (@aB _ _ _ _ _ (@bq _ _ (2) _ _ _ _ qZ.nd rfl (a5 rfl) (@aV _ _ _ _ _ _ _ _ _ _ J (hr.mono ⋯) (@aa _ _ _ _ _ (pv 0) (@aa _ _ _ _ _ ai aj rfl) rfl) (by rfl) ⋯ (by rfl) (by rfl)) (by rfl) (by first|exact .inl rfl|exact .inr rfl|assumption)) (@aL _ _ _ (@bh _ _ _ _ (@zX _ _ _ _ _ _ _ _ (@bI _ _ _ _ _ _ _ _ GD (pv 2) ai (bC _)) (@aH _ _ _ _ _ _ (cM K) bE (pv 1) (pv 2) (λ_ _=>rfl)) (@aV _ _ _ _ _ _ _ _ _ _ e (hr.mono ⋯) (@aa _ _ _ _ _ (@aI _ _ _ _ _ _ _ _ gk ai (@aV _ _ _ _ _ _ _ _ _ _ J (hr.mono ⋯) (@aa _ _ _ _ _ (pv 0) (@aa _ _ _ _ _ ai aj rfl) rfl) (by rfl) ⋯ (by rfl) (by rfl))) aj rfl) (by rfl) ⋯ (by rfl) (by rfl))))))))),?_⟩;refine Sv.kg M g t D G (ρ:=[.ao, .no, .no]) rfl ?_;clear G D;rfl';intro way w1 w2;by_cases c:way<20
 .rfl';obtain⟨m,em,d,a⟩:=pick (L:=[2,3,5,7,2,11,101,10007,65537,1000003,998244353,1000000007,2147483647,1000000000039,10^pb 39+3,10^pb 40-17,2305843009213693951,618970019642690137449562111,162259276829213363391578010288127,170141183460469231731687303715884105727]) (k:=way) w1 (by show _<(20:Int);omega) _ VJ;refine⟨_,em,?_⟩;exact q m (RK m d) a _
 .rfl';intro r r1 r2;rfl';exact λr' h1 h2=>q r' h1 h2 _
def vQ:DF:=λds Φ=>∃p a b:Int,ds=[.int p, .int a, .int b]/\fE p/\p<10^40/\b%p≠0/\ -(10^61)<=a/\a<=10^61/\((∃k,b*sol p b a-a=p*k)->Φ true (.int (sol p b a)))
theorem Eg:dJ vQ:=by
 intro ds Φ Ψ hm z;revert hm;walk_at "mo";exact λq=>λh=>z _ _ (q h)
theorem kW:cg ["p","a","b","old","new","one","two","times"] ["p","a","b"] (aK C5):=⟨rfl,rfl,rfl,by decide+kernel,rfl,by decide+kernel,by decide+kernel⟩
theorem Tq(F:bN K "_law_over" "_law_over" C5 f fd):
  bf P w K mg base bG 1 f fd ["p","a","b"] (cQ 3 vQ):=by
 refine F.ok kW (λvs H Q E h=>h.1) (λcdv A outer s H vs Q E hr h=>?_);obtain⟨nb,ds,Φ,g,D,G,I⟩:=kL h;obtain⟨p,a,b,rfl,hp,V,hb,a0,a1,q⟩:=I;refine⟨_,(@aB _ _ _ _ _ (@jr _ _ _ _ _ _ (@gJ _ _ _ _ _ (@aa _ _ _ _ _ (@aI _ _ _ _ _ _ _ _ gX (pv 2) (pv 0)) (@aa _ _ _ _ _ (pv 0) (@aa _ _ _ _ _ ai (@aa _ _ _ _ _ ai aj rfl) rfl) rfl) rfl)) (@ku _ (K) _ _ _ (4) _ rfl rfl (@dg _ _ _ _ _ (aY (i:=3) kW.nd rfl (a5 rfl)) (@dg _ _ _ _ _ (aY (i:=4) kW.nd rfl (a5 rfl)) (@dg _ _ _ _ _ (aY (i:=5) kW.nd rfl (a5 rfl)) (@dg _ _ _ _ _ (aY (i:=6) kW.nd rfl (a5 rfl)) j7 (by rfl)) (by rfl)) (by rfl)) (by rfl)) (by rfl) (by rfl)) (by rfl) (by rfl) (by rfl)) (@aB _ _ _ _ _ (@Ey _ _ _ _ _ _ jy (@bI _ _ _ _ _ _ _ _ lH (pv 4) ai (bC _)) (@aB _ _ _ _ _ (@bq _ _ (7) _ _ _ _ kW.nd rfl (a5 rfl) (@aI _ _ _ _ _ _ _ _ qj (pv 3) (pv 4)) (by rfl) (by first|exact .inl rfl|exact .inr rfl|assumption)) (@aL _ _ _ (@jr _ _ _ _ _ _ (@gJ _ _ _ _ _ (@aa _ _ _ _ _ (pv 4) (@aa _ _ _ _ _ (@aI _ _ _ _ _ _ _ _ lQ (pv 3) (@aI _ _ _ _ _ _ _ _ iD (pv 7) (pv 4))) (@aa _ _ _ _ _ (pv 6) (@aa _ _ _ _ _ (@aI _ _ _ _ _ _ _ _ lQ (pv 5) (@aI _ _ _ _ _ _ _ _ iD (pv 7) (pv 6))) aj rfl) rfl) rfl) rfl)) (@ku _ (K) _ _ _ (4) _ rfl rfl (@dg _ _ _ _ _ (aY (i:=3) kW.nd rfl (a5 rfl)) (@dg _ _ _ _ _ (aY (i:=4) kW.nd rfl (a5 rfl)) (@dg _ _ _ _ _ (aY (i:=5) kW.nd rfl (a5 rfl)) (@dg _ _ _ _ _ (aY (i:=6) kW.nd rfl (a5 rfl)) j7 (by rfl)) (by rfl)) (by rfl)) (by rfl)) (by rfl) (by rfl)) (by rfl) (by rfl) (by rfl))))) (@aL _ _ _ (@bh _ _ _ _ (@aI _ _ _ _ _ _ _ _ gX (@aI _ _ _ _ _ _ _ _ iD (pv 1) (pv 5)) (pv 0)))))),?_⟩;refine Sv.jY g D G (ρ:=[.d false _, .d false _, .d false _, .no, .no, .no, .no, .no]) rfl ?_;clear G D;have p2:=hp.1;have m1:=gP b (show p≠0 by omega);have m2:=gM b (show 0<p by omega);rfl';show nD _ _ _ _ [bj (b%p), .int p, .int 1, .int 0] _;rfl';refine Sv.OR (λρ=>∃(L lt r t:Int) (R:Sl),ρ=[.d false (.int p), .d false (.int a), .d false (.int b), .d true (.int L), .d true (.int r), .d true (.int lt), .d true (.int t),R]/\(-p<=lt/\lt<=p)/\((L=b%p/\r=p/\lt=1/\t=0)\/Eu p b L lt r t)) (λρ:Rh=>match ρ[4]? with|some (Sl.d _ (bj r))=>r.toNat|_=>0) ⟨_,_,_,_,_,rfl,∅, .inl ⟨rfl,rfl,rfl,rfl⟩⟩ ?_;rintro ρ ⟨L,lt,r,t,R,rfl,hlt,hI⟩;by_cases c:r=0
 .rcases hI with ⟨_,h,_,_⟩|hE
  .omega
  subst c;obtain⟨k,hk⟩:=hE.fin hp hb;obtain⟨Y,y⟩:=hE.tb;have sa:Sm a:=by unfold Sm;omega
  have sl:Sm lt:=by unfold Sm;omega
  rfl';have e:=qo (a*lt) p;have ef:=qo lt p
  have ex:∃k,b*(a*lt%p)-a=p*k:=⟨a*k+a*(lt/p)*b-a*lt/p*b,by
   generalize a*lt/p=Q1 at*;generalize a*lt%p=R1 at*;generalize lt/p=Q2 at*;generalize lt%p=R2 at*;have h1:R1=a*lt-p*Q1:=∅
   have h2:lt=p*Q2+R2:=∅
   rw[h1];have h3:a*(R2*b)=a*(1+p*k):=by rw[hk]
   grind⟩
  have es:=Er (x:=a*lt%p) (a:=a) hp hb (gP _ ∅) (gM _ ∅) ex;rw[es];rw[es] at ex;exact q ex
 .rcases hI with ⟨rfl,rfl,rfl,rfl⟩|hE
  .have O:b%r/r=0:=Int.ediv_eq_zero_of_lt m1 m2;rfl';show nD _ _ _ _ [bj r, .int (b%r-b%r/r*r), .int 0, .int (1-b%r/r*0)] _;rw[O];rfl';refine⟨⟨_,_,_,_,_,rfl,∅, .inr ?_⟩,?_⟩
   .rw[tu,uT,BQ,uT];exact Eu.start p2
   .show(b%r-0*r).toNat<r.toNat;rw[tu];omega
  .obtain⟨Y,y⟩:=hE.tb;have e1:=hE.l0;have e2:=hE.r0;have e3:=hE.lp;have e4:=hE.rp;have hr:0<r:=∅
   have J:0<=L/r:=xP ∅ ∅;have M:L/r<=L:=Ax _ ∅;obtain⟨j,m⟩:=hE.next hr
   rfl';show nD _ _ _ _ [bj r, .int (L-L/r*r), .int t, .int (lt-L/r*t)] _;rfl';exact⟨⟨_,_,_,_,_,rfl,⟨Y,y⟩, .inr j⟩,by show(L-L/r*r).toNat<r.toNat;omega⟩
def xm:DF:=λds Φ=>∃(p:Int) (prs:aC) (wd:Wo),ds=[.int p,cN prs,eV wd]/\0<p/\prs.length<=10000/\p9 prs wd.length/\ja wd/\Φ true (.int (bQ prs wd%p))
theorem Fo:dJ xm:=by
 intro ds Φ Ψ hm z;revert hm;walk_at "mo";exact λq=>z _ _ q
theorem Oz:cg ["p","pairs","word"] ["p","pairs","word"] (aK wY):=⟨rfl,rfl,rfl,by decide+kernel,rfl,by decide+kernel,by decide+kernel⟩
theorem VT(F:bN K "_law_sum" "_law_sum" wY f fd)(yU:mg "sum"=none):
    bf P w K mg base bG 1 f fd ["p","pairs","word"] (cQ 3 xm):=by
  refine F.ok Oz (λvs H Q E h=>h.1) (λcdv A outer s H vs Q E hr h=>?_);obtain⟨nb,ds,Φ,g,D,G,I⟩:=kL h;obtain⟨p,prs,wd,rfl,hp,hl,h1,h2,q⟩:=I;refine⟨_,(@aL _ _ _ (@bh _ _ _ _ (@aI _ _ _ _ _ _ _ _ gX (@cS _ _ _ _ _ _ _ _ (zz K) (Tr rfl) rfl yU tf (@aa _ _ _ _ _ (gC (dI.of (show eE (aK wY) ["p","pairs","word"] _ ["place","factor","word"] [none,none,some 2]=true by decide+kernel)) (gm (K:=K) rfl (pv 1)) (λ_ _ _ _=>⟨(@ku _ (K) _ _ _ (2) _ rfl rfl (@dg _ _ _ _ _ (aY (i:=0) (by show cf (["place","factor","word"]:List Str);decide+kernel) rfl (a5 rfl)) (@dg _ _ _ _ _ (aY (i:=1) (by show cf (["place","factor","word"]:List Str);decide+kernel) rfl (a5 rfl)) j7 (by rfl)) (by rfl)) (by rfl) (by rfl)),(mw (@bI _ _ _ _ _ _ _ _ uC (@aH _ _ _ _ _ _ (cM K) bE (pv 2) (pv 0) (λ_ _=>rfl)) j6 (bC _))),(@aI _ _ _ _ _ _ _ _ iD (pv 1) (@aH _ _ _ _ _ _ (cM K) bE (pv 2) (pv 0) (λ_ _=>rfl)))⟩)) aj rfl) ⋯ ⋯ (by rfl) (by rfl)) (pv 0)))),?_⟩;refine Sv.jY g D G (ρ:=[.d false _, .d false _, .d false _]) rfl ?_;clear G D;rfl';refine au.ev (au.i9 ⋯ rfl ?_);rfl';refine⟨by rw[ak];exact hl,λv=>⟨false,λi ds=>∃ns:List Int,ds=ns.map .int/\ns.sum=bQ (prs.take i) wd,⟨[],rfl,by simp[bQ]⟩,?_,?_⟩⟩
  · rintro i d ds hd hl' ⟨ns,rfl,hs⟩
    obtain⟨pr,m,rfl⟩:=gQ hd;obtain⟨g1,g2,u⟩:=h1 pr (c8 m);obtain⟨o,U,B⟩:=su (xs:=wd) bS g1 g2 rfl;have hi:i<prs.length:=(bH.mp m).1;have CN:=Gn (wd:=wd) hi;have a:prs[i]=pr:=(bH.mp m).2;rw[a] at CN;rfl';refine⟨by walk_at "wk",?_⟩;rfl';rw[tK];cases o with
    | none =>
      rfl';refine⟨ns,rfl,?_⟩;rw[CN,hs];unfold kR;rw[U];simp
    | some x =>
      have hx:Sm x:=h2 x (c8 U);have YR:bO (wd.map bS) pr.1=some (.int x):=B;rfl';refine⟨ns++[pr.2*x],by simp,?_⟩;rw[CN,yR,hs];unfold kR;rw[U];simp
  · rintro ds hl' ⟨ns,rfl,hs⟩
    rw[ak,jQ] at hs;refine⟨ns,rfl,?_⟩;rw[hs];rfl';exact q
def AA:DF:=λds Φ=>∃p:Int,ds=[.int p]/\2<=p/\p<10^40/\∀x:Int,0<=x->x<p->Φ true (.int x)
theorem Hq:dJ AA:=by
 intro ds Φ Ψ hm z;revert hm;walk_at "mo";exact λq=>λx a b=>z _ _ (q x a b)
theorem Vf:cg ["bag","p"] ["bag","p"] (aK Am):=⟨rfl,rfl,rfl,by decide+kernel,rfl,by decide+kernel,by decide+kernel⟩
theorem Rj(F:bN K "_law_letter" "_law_letter" Am f fd)(J:Callee P w K mg base "_law_draw" 1 ["bag","many"] i6):
  bf P w K mg base bG 2 f fd ["bag","p"] (dM 2 AA):=by
 refine F.ok Vf (λvs H Q E h=>h.1) (λcdv A outer s H vs Q E hr h=>?_);obtain⟨b,l,ws,nb,ds,Φ,rfl,M,g,t,D,G,I⟩:=kU h;obtain⟨p,rfl,p2,i7,q⟩:=I;refine⟨_,(@aL _ _ _ (@bh _ _ _ _ (@aI _ _ _ _ _ _ _ _ gX (@aI _ _ _ _ _ _ _ _ iD (@aV _ _ _ _ _ _ _ _ _ _ J (hr.mono ⋯) (@aa _ _ _ _ _ (pv 0) (@aa _ _ _ _ _ (pv 1) aj rfl) rfl) (by rfl) ⋯ (by rfl) (by rfl)) (@aI _ _ _ _ _ _ _ _ gk (@aI _ _ _ _ _ _ _ _ qj (pv 1) ai) ai)) (pv 1)))),?_⟩;refine Sv.kg M g t D G (ρ:=[.ao, .d false _]) rfl ?_;clear G D;rfl';intro r r1 r2;have h1:0<=r*(p/3+1):=pq r1 ∅;have h2:r*(p/3+1)<=10^40*10^40:=Bo ∅ ∅ ∅ ∅;rfl';exact q _ (gP _ ∅) (gM _ ∅)
def xC:DF:=λds Φ=>∃p:Int,ds=[.int p]/\fE p/\p<10^40/\∀x:Int,0<x->x<p->Φ true (.int x)
theorem HW:dJ xC:=by
 intro ds Φ Ψ hm z;revert hm;walk_at "mo";exact λq=>λx a b=>z _ _ (q x a b)
theorem UC{a b:Int}(hp:fE p)(h:p∣a*b):p∣a\/p∣b:=by
 by_cases ha:p∣a;·exact .inl ha
 .right
  have hg:h9 p a=1:=by
   have d1:(h9 p a:Int)∣p:=nB ..;have d2:(h9 p a:Int)∣a:=ml ..;have h0:0<(h9 p a:Int):=by
    have:h9 p a≠0:=λz=>by have:=(Ja.mp z).1;have:=hp.1;omega
    omega
   rcases hp.2 _ h0 d1 with e|e
   .exact_mod_cast e
   .rw[e] at d2;exact absurd d2 ha
  have h':p.natAbs∣a.natAbs*b.natAbs:=by rw[<-Cs];exact yi.mpr h
  have c:h8 p.natAbs a.natAbs:=hg;exact yi.mp (c.dvd_of_dvd_mul_left h')
theorem Vp:cg ["bag","p"] ["bag","p"] (aK Cq):=⟨rfl,rfl,rfl,by decide+kernel,rfl,by decide+kernel,by decide+kernel⟩
theorem Uc(F:bN K "_law_factor" "_law_factor" Cq f fd)(J:Callee P w K mg base "_law_draw" 1 ["bag","many"] i6):
  bf P w K mg base bG 2 f fd ["bag","p"] (dM 2 xC):=by
 refine F.ok Vp (λvs H Q E h=>h.1) (λcdv A outer s H vs Q E hr h=>?_);obtain⟨b,l,ws,nb,ds,Φ,rfl,M,g,t,D,G,I⟩:=kU h;obtain⟨p,rfl,hp,i7,q⟩:=I;refine⟨_,(@aL _ _ _ (@bh _ _ _ _ (@aI _ _ _ _ _ _ _ _ gX (@aI _ _ _ _ _ _ _ _ iD (@aI _ _ _ _ _ _ _ _ gk ai (@aV _ _ _ _ _ _ _ _ _ _ J (hr.mono ⋯) (@aa _ _ _ _ _ (pv 0) (@aa _ _ _ _ _ (@aI _ _ _ _ _ _ _ _ lQ (pv 1) ai) aj rfl) rfl) (by rfl) ⋯ (by rfl) (by rfl))) (@aI _ _ _ _ _ _ _ _ gk (@aI _ _ _ _ _ _ _ _ qj (pv 1) ai) ai)) (pv 1)))),?_⟩;refine Sv.kg M g t D G (ρ:=[.ao, .d false _]) rfl ?_;clear G D;have p2:=hp.1;rfl';intro r r1 r2;rfl';refine q _ ?_ (gM _ ∅);have h0:=gP ((1+r)*(p/3+1)) (show p≠0 by omega);have T:(1+r)*(p/3+1)%p≠0:=λe=>by
  rcases UC hp (Int.dvd_of_emod_eq_zero e) with h|h
  .have:=zJ ∅ h;omega
  .have:=zJ ∅ h;omega
 omega
def Bl:DF:=λds Φ=>∃p n:Int,ds=[.int p, .int n]/\2<=p/\p<10^40/\0<=n/\n<=10000/\∀os:List Int,(os.length:Int)=n->(∀x∈os,0<=x/\x<p)->Φ true (.list (os.map .int))
theorem Qp:dJ Bl:=by
 intro ds Φ Ψ hm z;revert hm;walk_at "mo";exact λq=>λos a b=>z _ _ (q os a b)
theorem Lu:cg ["bag","p","n","way"] ["bag","p","n"] (aK pQ):=⟨rfl,rfl,rfl,by decide+kernel,rfl,by decide+kernel,by decide+kernel⟩
theorem SQ(F:bN K "_law_letters" "_law_letters" pQ f fd)(J:Callee P w K mg base "_law_draw" 1 ["bag","many"] i6)(a:Callee P w K mg base "_law_letter" 2 ["bag","p"] (dM 2 AA))(cy:mg "range"=none)(lC:mg "int"=none)(BX:mg "min"=none):
  bf P w K mg base bG 3 f fd ["bag","p","n"] (dM 3 Bl):=by
 refine F.ok Lu (λvs H Q E h=>h.1) (λcdv A outer s H vs Q E hr h=>?_);obtain⟨b,l,ws,nb,ds,Φ,rfl,M,g,t,D,G,I⟩:=kU h;obtain⟨p,n,rfl,p2,i7,n0,n1,q⟩:=I;refine⟨_,(@aB _ _ _ _ _ (@bq _ _ (3) _ _ _ _ Lu.nd rfl (a5 rfl) (@aV _ _ _ _ _ _ _ _ _ _ J (hr.mono ⋯) (@aa _ _ _ _ _ (pv 0) (@aa _ _ _ _ _ ai aj rfl) rfl) (by rfl) ⋯ (by rfl) (by rfl)) (by rfl) (by first|exact .inl rfl|exact .inr rfl|assumption)) (@aB _ _ _ _ _ (@fj _ _ _ _ _ _ _ _ (@bI _ _ _ _ _ _ _ _ gD (pv 3) ai (bC _)) (@aL _ _ _ (@bh _ _ _ _ (gC (dI.of (show eE (aK pQ) ["bag","p","n","way"] _ ["k","bag","p"] [none,some 0,some 1]=true by decide+kernel)) (@jZ _ _ _ _ _ _ rfl cy (@aa _ _ _ _ _ (pv 2) aj rfl) (by rfl)) (λ_ _ _ _=>⟨(aY (i:=0) (by show cf (["k","bag","p"]:List Str);decide+kernel) rfl (a5 rfl)),iP,(@aI _ _ _ _ _ _ _ _ iD (@aV _ _ _ _ _ _ _ _ _ _ a (hr.mono ⋯) (@aa _ _ _ _ _ (pv 1) (@aa _ _ _ _ _ (pv 2) aj rfl) rfl) (by rfl) ⋯ (by rfl) (by rfl)) (@kZ _ _ _ _ _ _ _ _ _ Mn rfl lC C4 (@aa _ _ _ _ _ (@Az _ _ _ _ _ _ _ _ gD (@aV _ _ _ _ _ _ _ _ _ _ J (hr.mono ⋯) (@aa _ _ _ _ _ (pv 1) (@aa _ _ _ _ _ ai aj rfl) rfl) (by rfl) ⋯ (by rfl) (by rfl)) ai (bC _)) aj rfl) ⋯ ⋯ (by rfl) (by rfl)))⟩)))) fy) (@aB _ _ _ _ _ (@fj _ _ _ _ _ _ _ _ (@bI _ _ _ _ _ _ _ _ gD (pv 3) ai (bC _)) (@aL _ _ _ (@bh _ _ _ _ (gC (dI.of (show eE (aK pQ) ["bag","p","n","way"] _ ["k","bag","p"] [none,some 0,some 1]=true by decide+kernel)) (@jZ _ _ _ _ _ _ rfl cy (@aa _ _ _ _ _ (pv 2) aj rfl) (by rfl)) (λ_ _ _ _=>⟨(aY (i:=0) (by show cf (["k","bag","p"]:List Str);decide+kernel) rfl (a5 rfl)),iP,(@aV _ _ _ _ _ _ _ _ _ _ J (hr.mono ⋯) (@aa _ _ _ _ _ (pv 1) (@aa _ _ _ _ _ (@cS _ _ _ _ _ _ _ _ _ (Np rfl) rfl BX ti (@aa _ _ _ _ _ (pv 2) (@aa _ _ _ _ _ ai aj rfl) rfl) ⋯ ⋯ (by rfl) (by rfl)) aj rfl) rfl) (by rfl) ⋯ (by rfl) (by rfl))⟩)))) fy) (@aL _ _ _ (@bh _ _ _ _ (gC (dI.of (show eE (aK pQ) ["bag","p","n","way"] _ ["k","bag","p"] [none,some 0,some 1]=true by decide+kernel)) (@jZ _ _ _ _ _ _ rfl cy (@aa _ _ _ _ _ (pv 2) aj rfl) (by rfl)) (λ_ _ _ _=>⟨(aY (i:=0) (by show cf (["k","bag","p"]:List Str);decide+kernel) rfl (a5 rfl)),iP,(@aV _ _ _ _ _ _ _ _ _ _ a (hr.mono ⋯) (@aa _ _ _ _ _ (pv 1) (@aa _ _ _ _ _ (pv 2) aj rfl) rfl) (by rfl) ⋯ (by rfl) (by rfl))⟩))))))),?_⟩;refine Sv.kg M g t D G (ρ:=[.ao, .d false _, .d false _, .no]) rfl ?_;clear G D;rfl';intro way w1 w2;by_cases c:way=2
 .rfl';refine au.ev (au.nq ⋯ rfl ?_);rfl';refine iw.ints (λx=>0<=x/\x<p) ?_ λos m S=>q os ∅ S;rintro i d ⟨hi,rfl⟩;rfl';refine⟨by walk_at "wk",?_⟩;rfl';refine Ev.iT Hq rfl ?_;rfl';refine⟨rfl,p,rfl,p2,i7,λr O N=>?_⟩;rfl';intro s s1 s2;by_cases c2:s=3
  .rfl';rw[decide_eq_true c2];exact⟨by simp;omega,by simp;omega⟩
  .rfl';rw[decide_eq_false c2];exact⟨by simp,by simp;omega⟩
 by_cases L:way=1
 .rfl';refine au.ev (au.nq ⋯ rfl ?_);rfl';refine iw.ints (λx=>0<=x/\x<p) ?_ λos m S=>q os ∅ S;rintro i d ⟨hi,rfl⟩;rfl';refine⟨by walk_at "wk",?_⟩;rfl';intro r O N;refine⟨r,rfl,O,?_⟩;split at N<;>omega
 .rfl';refine au.ev (au.nq ⋯ rfl ?_);rfl';refine iw.ints (λx=>0<=x/\x<p) ?_ λos m S=>q os ∅ S;rintro i d ⟨hi,rfl⟩;rfl';refine⟨by walk_at "wk",?_⟩;rfl';refine Ev.iT Hq rfl ?_;rfl';exact⟨rfl,p,rfl,p2,i7,λr O N=>⟨r,rfl,O,N⟩⟩
def xD:DF:=λds Φ=>∃n wide:Int,ds=[.int n, .int wide]/\1<=n/\n<=420/\1<=wide/\wide<=60/\∀L:List Int,L≠[]->L.length<=420->L.Nodup->(∀x∈L,0<=x/\x<n)->Φ true (.list (L.map .int))
theorem Gh:dJ xD:=by
 intro ds Φ Ψ hm z;revert hm;walk_at "mo";exact λq=>λL a b c d=>z _ _ (q L a b c d)
theorem VE:cg ["bag","n","wide"] ["bag","n","wide"] (aK we):=⟨rfl,rfl,rfl,by decide+kernel,rfl,by decide+kernel,by decide+kernel⟩
theorem NG(F:bN K "_law_places" "_law_places" we f fd)(J:Callee P w K mg base "_law_draw" 1 ["bag","many"] i6)(lA:mg "sorted"=none)(dB:mg "list"=none)(Ci:mg "set"=none)(cy:mg "range"=none):
  bf P w K mg base bG 2 f fd ["bag","n","wide"] (dM 3 xD):=by
 refine F.ok VE (λvs H Q E h=>h.1) (λcdv A outer s H vs Q E hr h=>?_);obtain⟨b,l,ws,nb,ds,Φ,rfl,M,g,t,D,G,I⟩:=kU h;obtain⟨n,wide,rfl,n0,n1,w0,X,q⟩:=I;refine⟨_,(@aB _ _ _ _ _ (@fj _ _ _ _ _ _ _ _ (PW.pt (lB (@bI _ _ _ _ _ _ _ _ J3 (pv 1) ai (bC _)) (lG (@bI _ _ _ _ _ _ _ _ gD (@aV _ _ _ _ _ _ _ _ _ _ J (hr.mono ⋯) (@aa _ _ _ _ _ (pv 0) (@aa _ _ _ _ _ ai aj rfl) rfl) (by rfl) ⋯ (by rfl) (by rfl)) ai (bC _))))) (@aL _ _ _ (@bh _ _ _ _ (@kZ _ _ _ _ _ _ _ _ _ (Yn rfl) rfl dB jR (@aa _ _ _ _ _ (@kZ _ _ _ _ _ _ _ _ _ So rfl cy j2 (@aa _ _ _ _ _ (pv 1) aj rfl) ⋯ ⋯ (by rfl) (by rfl)) aj rfl) ⋯ ⋯ (by rfl) (by rfl)))) fy) (@aL _ _ _ (@bh _ _ _ _ (@cS _ _ _ _ _ _ _ _ (uW P w) (Tz rfl) rfl lA yP (@aa _ _ _ _ _ (@kZ _ _ _ _ _ _ _ _ (yD P w K) (XX rfl) rfl Ci tj (@aa _ _ _ _ _ (gC (dI.of (show eE (aK we) ["bag","n","wide"] _ ["k","bag","n"] [none,some 0,some 1]=true by decide+kernel)) (@jZ _ _ _ _ _ _ rfl cy (@aa _ _ _ _ _ (@aI _ _ _ _ _ _ _ _ gk ai (@aV _ _ _ _ _ _ _ _ _ _ J (hr.mono ⋯) (@aa _ _ _ _ _ (pv 0) (@aa _ _ _ _ _ (pv 2) aj rfl) rfl) (by rfl) ⋯ (by rfl) (by rfl))) aj rfl) (by rfl)) (λ_ _ _ _=>⟨(aY (i:=0) (by show cf (["k","bag","n"]:List Str);decide+kernel) rfl (a5 rfl)),iP,(@aV _ _ _ _ _ _ _ _ _ _ J (hr.mono ⋯) (@aa _ _ _ _ _ (pv 1) (@aa _ _ _ _ _ (pv 2) aj rfl) rfl) (by rfl) ⋯ (by rfl) (by rfl))⟩)) aj rfl) ⋯ ⋯ (by rfl) (by rfl)) aj rfl) ⋯ ⋯ (by rfl) (by rfl))))),?_⟩;refine Sv.kg M g t D G (ρ:=[.ao, .d false _, .d false _]) rfl ?_;clear G D
 have e:Ev {B:=some (b,l),H0:=H,A:=nb} [Sl.ao,Sl.d false (bj n),Sl.d false (bj wide)]
          (eX (uW P w)
           (aX
            (eX (yD P w K)
             (aX
              (k8
               (uD
                (aX
                 (dG (iy λi j => V.int (i + j)) (tC (V.int 1))
                  (fN i6 [] E0 (aX (bz 0) (aX (bz 2) bK))))
                 bK))
               (gc 0) oB (fN i6 [] E0 (aX (bz 1) (aX (bz 2) bK)))
               [none,some 0,some 1])
              bK))
            bK)) Φ:=by
  refine au.ev (au.LS (au.ev (au.nq ⋯ rfl ?_)));rfl';intro m0 m1 m2;rfl';refine iw.ints (λx=>0<=x/\x<n) ?_ λos m S=>⟨os,rfl,∅,λL U a=>?_⟩
  .rintro i d ⟨hi,rfl⟩;rfl';refine⟨by walk_at "wk",?_⟩;rfl';exact λr O N=>⟨r,rfl,O,N⟩
  have hrl:0<L.length:=by
   have:0<os.length:=∅
   obtain⟨y,hy⟩:=List.exists_mem_of_length_pos this;exact List.length_pos_of_mem ((a y).mpr hy)
  have Zm:L.length<=os.length:=BV (U.imp λh=>∅) λk hk=>(a k).mp hk;exact q L (λz=>by rw[z] at hrl;simp at hrl) ∅ (U.imp λh=>∅) λx hx=>S x ((a x).mp hx)
 rfl';by_cases c:n<=20
 .rw[if_pos (decide_eq_true c)];rfl';intro r O N;by_cases c2:r=15
  .rfl';refine au.ev (au.Vg ?_);rfl';refine q _ ?_ ?_ ?_ ?_
   .intro z;have:=congrArg oj z;simp at this;omega
   .simp;omega
   .rw[List.nodup_iff_pairwise_ne,yj];exact Im.imp λh=>∅
   .intro x hx;obtain⟨i,hi,rfl⟩:=fk.mp hx;have:=qX.mp hi;omega
  .rfl';exact e
 .rw[if_neg (by simpa using c)];rfl';exact e
def pL(p n:Int)(prs:aC):Prop:=prs≠[]/\prs.length<=420/\∀pr∈prs,0<=pr.1/\pr.1<n/\0<pr.2/\pr.2<p
def yW:DF:=λds Φ=>∃p n many wide:Int,ds=[.int p, .int n, .int many, .int wide]/\fE p/\p<10^40/\1<=n/\n<=420/\0<=many/\many<=400/\1<=wide/\wide<=60/\∀(cs:List aC) (f:Bool),(cs.length:Int)=many->(∀prs∈cs,pL p n prs)->Φ f (cO p n cs)
theorem PJ:dJ yW:=by
 intro ds Φ Ψ hm z;revert hm;walk_at "mo";exact λq=>λcs f a b=>z _ _ (q cs f a b)
theorem VC(cs:List aC):c5 (.list (cs.map cN))=true:=by
 have h:=Jj cs;unfold c5;simp only[br,ej];rw[h.2];simp;have:=h.1;omega
theorem tL:cg ["bag","p","n","many","wide","checks","c","pairs"] ["bag","p","n","many","wide"] (aK uh):=⟨rfl,rfl,rfl,by decide+kernel,rfl,by decide+kernel,by decide+kernel⟩
theorem Sn(F:bN K "_law_net" "_law_net" uh f fd)(Ds:Callee P w K mg base "_law_factor" 2 ["bag","p"] (dM 2 xC))(yV:Callee P w K mg base "_law_places" 2 ["bag","n","wide"] (dM 3 xD))(J:Callee P w K mg base "_law_draw" 1 ["bag","many"] i6)(cy:mg "range"=none)(dB:mg "list"=none)(bZ:mg "len"=none):
  bf P w K mg base bG 3 f fd ["bag","p","n","many","wide"] (dM 5 yW):=by
 refine F.ok tL (λvs H Q E h=>h.1) (λcdv A outer s H vs Q E hr h=>?_);obtain⟨b,l,ws,nb,ds,Φ,rfl,M,g,t,D,G,I⟩:=kU h;obtain⟨p,n,many,wide,rfl,hp,i7,n0,n1,V,m1,w0,X,q⟩:=I;refine⟨_,(@aB _ _ _ _ _ (@bq _ _ (5) _ _ _ _ tL.nd rfl (a5 rfl) (@jw _ _ _ _ aj) (by rfl) (by first|exact .inl rfl|exact .inr rfl|assumption)) (@aB _ _ _ _ _ (@k7 _ _ _ _ _ _ _ _ jy rfl (@jZ _ _ _ _ _ _ rfl cy (@aa _ _ _ _ _ (pv 3) aj rfl) (by rfl)) (aY (i:=6) tL.nd rfl (a5 rfl)) (@aB _ _ _ _ _ (xB (i:=7) tL.nd rfl rfl (dI.of (show eE (aK uh) ["bag","p","n","many","wide","checks","c","pairs"] _ ["place","bag","p"] [none,some 0,some 1]=true by decide+kernel)) (gm (K:=K) rfl (@aV _ _ _ _ _ _ _ _ _ _ yV (hr.mono ⋯) (@aa _ _ _ _ _ (pv 0) (@aa _ _ _ _ _ (pv 2) (@aa _ _ _ _ _ (pv 4) aj rfl) rfl) rfl) (by rfl) ⋯ (by rfl) (by rfl))) (λ_ _ _ _=>⟨(aY (i:=0) (by show cf (["place","bag","p"]:List Str);decide+kernel) rfl (a5 rfl)),iP,(@gJ _ _ _ _ _ (@aa _ _ _ _ _ (pv 0) (@aa _ _ _ _ _ (@aV _ _ _ _ _ _ _ _ _ _ Ds (hr.mono ⋯) (@aa _ _ _ _ _ (pv 1) (@aa _ _ _ _ _ (pv 2) aj rfl) rfl) (by rfl) ⋯ (by rfl) (by rfl)) aj rfl) rfl))⟩)) (@aB _ _ _ _ _ (@fj _ _ _ _ _ _ _ _ (PW.pt (lB (@bI _ _ _ _ _ _ _ _ (zA hr.units) (pv 5) (@jw _ _ _ _ aj) (bC _)) (lG (@bI _ _ _ _ _ _ _ _ gD (@aV _ _ _ _ _ _ _ _ _ _ J (hr.mono ⋯) (@aa _ _ _ _ _ (pv 0) (@aa _ _ _ _ _ ai aj rfl) rfl) (by rfl) ⋯ (by rfl) (by rfl)) ai (bC _))))) (@aL _ _ _ (@bq _ _ (7) _ _ _ _ tL.nd rfl (a5 rfl) (@kZ _ _ _ _ _ _ _ _ (jV K) o4 rfl dB jR (@aa _ _ _ _ _ (@aH _ _ _ _ _ _ (cM K) bE (pv 5) (@aV _ _ _ _ _ _ _ _ _ _ J (hr.mono ⋯) (@aa _ _ _ _ _ (pv 0) (@aa _ _ _ _ _ (@cS _ _ _ _ _ _ _ _ (gK K) jc rfl bZ iU (@aa _ _ _ _ _ (pv 5) aj rfl) ⋯ ⋯ (by rfl) (by rfl)) aj rfl) rfl) (by rfl) ⋯ (by rfl) (by rfl)) (λ_ _=>rfl)) aj rfl) ⋯ ⋯ (by rfl) (by rfl)) (by rfl) (by first|exact .inl rfl|exact .inr rfl|assumption))) fy) (@aL _ _ _ (@oA _ _ _ _ (Lo nL KJ JQ Cy (pv 5) (@aa _ _ _ _ _ (pv 7) aj rfl)) (by rfl))))) (by intro _;rfl)) (@aL _ _ _ (@bh _ _ _ _ (@gJ _ _ _ _ _ (@aa _ _ _ _ _ (pv 1) (@aa _ _ _ _ _ (pv 2) (@aa _ _ _ _ _ (pv 5) aj rfl) rfl) rfl)))))),?_⟩;refine Sv.kg M g t D G (ρ:=[.ao, .d false _, .d false _, .d false _, .d false _, .no, .no, .no]) rfl ?_;clear G D;have p2:=hp.1;rfl';intro a;rfl';refine Sv.uQ ?_;rfl';refine⟨λi ρ=>∃(f:Bool) (R S:Sl) (cs:List aC),ρ=[.ao, .d false (.int p), .d false (.int n), .d false (.int many), .d false (.int wide), .own a f (cs.map cN),R,S]/\cs.length=i/\∀prs∈cs,pL p n prs,⟨_,_,_,[],rfl,rfl,(λ_ h=>nomatch h)⟩,?_,?_⟩
 .rintro i d ρ ⟨hi,rfl⟩ ⟨f,R,S,cs,rfl,hcl,hcs⟩;rfl';refine au.ev (au.i9 ⋯ rfl ?_);refine Ev.iT Gh rfl ?_;rfl';refine⟨rfl,n,wide,rfl,n0,n1,w0,X,λL r0 O N B=>?_⟩;rfl';refine⟨by rw[ak];omega,λv=>iw.rel xk true (λi pr=>L[i]?=some pr.1/\0<pr.2/\pr.2<p) ?_ λprs o W=>?_⟩
  .rintro j d hd;obtain⟨x,hx,rfl⟩:=gQ hd;rfl';refine⟨by walk_at "wk",?_⟩;rfl';refine Ev.iT HW rfl ?_;rfl';refine⟨rfl,p,rfl,hp,i7,λy Y T=>?_⟩;rfl';exact⟨λ_=>rfl,(x,y),rfl,hx,Y,T⟩
  have hok:pL p n prs:=by
   rw[ak] at o;refine⟨λz=>by rw[z] at o;exact r0 (mP.mp o.symm),∅,λpr m=>?_⟩;obtain⟨k,hk⟩:=kI m;obtain⟨e1,e2,e3⟩:=W k pr hk;obtain⟨g1,g2⟩:=B _ (c8 e1);exact⟨g1,g2,e2,e3⟩
  show Sv _ _ (rN _ _) _;refine Sv.seq ?_;refine Sv.KU (λC=>∃c:aC,pL p n c/\C=[.ao, .d false (.int p), .d false (.int n), .d false (.int many), .d false (.int wide), .own a f (cs.map cN), .d true (.int (0+(i:Int))), .d false (cN c)]) ?_ ?_
  .refine Sv.nX ?_;refine Tv.and ?_;refine Tv.lend 5 rfl ?_;rfl';refine⟨VC cs,rfl,?_⟩;have U:∃c:aC,pL p n c/\[Sl.ao, .d false (.int p), .d false (.int n), .d false (.int many), .d false (.int wide), .own a f (cs.map cN), .d true (.int (0+(i:Int))), .d false (.list (prs.map xk))]=[Sl.ao, .d false (.int p), .d false (.int n), .d false (.int many), .d false (.int wide), .own a f (cs.map cN), .d true (.int (0+(i:Int))), .d false (cN c)]:=⟨prs,hok,rfl⟩;by_cases c0:cs=[]
   .refine⟨false,by subst c0;rfl,?_⟩;rw[if_neg bT];rfl';exact U
   .obtain⟨u,us,e⟩:=List.exists_cons_of_ne_nil c0;refine⟨true,by subst e;rfl,?_⟩;rw[if_pos rfl];rfl';intro y Y T;by_cases c7:y=7
    .rfl';have iu:(cs.map cN).length=cs.length:=ak ..;have r:0<cs.length:=by rw[e];simp
     have YT:cs.length<400:=∅
     rw[iu];refine⟨∅,by unfold Sm;omega,λz z1 z2=>?_⟩;obtain⟨Z,O6,VZ⟩:=su (xs:=cs) cN z1 z2 rfl;refine⟨_,rfl,_,VZ,_, .inl rfl,?_⟩;refine Gv.zk ?_;exact⟨Z,hcs Z (c8 O6),rfl⟩
    .rfl';exact U
  .rintro C ⟨c,Cf,rfl⟩;rfl';refine⟨by rw[ak];omega,_,_,_,cs++[c],by rw[e7];rfl,by simp[hcl],λu hu=>?_⟩;rcases fK.mp hu with h|h
   .exact hcs u h
   .rw[aN.mp h];exact Cf
 .rintro ρ ⟨f,R,S,cs,rfl,hcl,hcs⟩;refine Sv.RD 5 rfl ?_;rfl';exact q cs _ ∅ hcs
noncomputable def vS:Option aC->PyData
 |none=> .none
 |some prs=>cN prs
def BU:DF:=λds Φ=>∃(p wide:Int) (wd:List Int),ds=[.int p, .list (wd.map .int), .int wide]/\fE p/\p<10^40/\1<=wd.length/\wd.length<=400/\(∀x∈wd,0<=x/\x<p)/\1<=wide/\wide<=60/\∀(o:Option aC) (f:Bool),(∀prs,o=some prs->oV p wd.length prs/\bQ prs (wd.map some)%p=0)->Φ f (vS o)
theorem WD:dJ BU:=by
 intro ds Φ Ψ hm z;revert hm;walk_at "mo";exact λq=>λo f h=>z _ _ (q o f h)
theorem wB:cg ["bag","p","word","wide","pairs","rest","last"] ["bag","p","word","wide"] (aK v5):=⟨rfl,rfl,rfl,by decide+kernel,rfl,by decide+kernel,by decide+kernel⟩
theorem QA(F:bN K "_law_planted_check" "_law_planted_check" v5 f fd)(Du:Callee P w K mg base "_law_sum" 1 ["p","pairs","word"] (cQ 3 xm))(Ds:Callee P w K mg base "_law_factor" 2 ["bag","p"] (dM 2 xC))(yV:Callee P w K mg base "_law_places" 2 ["bag","n","wide"] (dM 3 xD))(C8:Callee P w K mg base "_law_over" 1 ["p","a","b"] (cQ 3 vQ))(bZ:mg "len"=none):
  bf P w K mg base bG 3 f fd ["bag","p","word","wide"] (dM 4 BU):=by
 refine F.ok wB (λvs H Q E h=>h.1) (λcdv A outer s H vs Q E hr h=>?_);obtain⟨b,l,ws,nb,ds,Φ,rfl,M,g,t,D,G,I⟩:=kU h;obtain⟨p,wide,wd,rfl,hp,V,X,B,mS,d1,d2,q⟩:=I;refine⟨_,(@aB _ _ _ _ _ (xB (i:=4) wB.nd rfl rfl (dI.of (show eE (aK v5) ["bag","p","word","wide","pairs","rest","last"] _ ["place","bag","p"] [none,some 0,some 1]=true by decide+kernel)) (gm (K:=K) rfl (@aV _ _ _ _ _ _ _ _ _ _ yV (hr.mono ⋯) (@aa _ _ _ _ _ (pv 0) (@aa _ _ _ _ _ (@cS _ _ _ _ _ _ _ _ (gK K) jc rfl bZ iU (@aa _ _ _ _ _ (pv 2) aj rfl) ⋯ ⋯ (by rfl) (by rfl)) (@aa _ _ _ _ _ (pv 3) aj rfl) rfl) rfl) (by rfl) ⋯ (by rfl) (by rfl))) (λ_ _ _ _=>⟨(aY (i:=0) (by show cf (["place","bag","p"]:List Str);decide+kernel) rfl (a5 rfl)),iP,(@gJ _ _ _ _ _ (@aa _ _ _ _ _ (pv 0) (@aa _ _ _ _ _ (@aV _ _ _ _ _ _ _ _ _ _ Ds (hr.mono ⋯) (@aa _ _ _ _ _ (pv 1) (@aa _ _ _ _ _ (pv 2) aj rfl) rfl) (by rfl) ⋯ (by rfl) (by rfl)) aj rfl) rfl))⟩)) (@aB _ _ _ _ _ (@bq _ _ (5) _ _ _ _ wB.nd rfl (a5 rfl) (@aV _ _ _ _ _ _ _ _ _ _ Du (hr.mono ⋯) (@aa _ _ _ _ _ (pv 1) (@aa _ _ _ _ _ (@rH _ _ _ _ _ _ _ _ _ (mQ K) qW (pv 4) rK (@tB _ _ _ (@tZ _ _ _ _ _ _ wO ai))) (@aa _ _ _ _ _ (pv 2) aj rfl) rfl) rfl) (by rfl) ⋯ (by rfl) (by rfl)) (by rfl) (by first|exact .inl rfl|exact .inr rfl|assumption)) (@aB _ _ _ _ _ (@bq _ _ (6) _ _ _ _ wB.nd rfl (a5 rfl) (@aH _ _ _ _ _ _ (cY K) dW (@aH _ _ _ _ _ _ (cM K) bE (pv 4) (@tZ _ _ _ _ _ _ wO ai) (λ_ _=>rfl)) ai (λ_ _=>rfl)) (by rfl) (by first|exact .inl rfl|exact .inr rfl|assumption)) (@aB _ _ _ _ _ (@fj _ _ _ _ _ _ _ _ (PW.pt (lB (@bI _ _ _ _ _ _ _ _ lH (pv 5) ai (bC _)) (lG (@bI _ _ _ _ _ _ _ _ lH (@aH _ _ _ _ _ _ (cM K) bE (pv 2) (pv 6) (λ_ _=>rfl)) ai (bC _))))) (@aL _ _ _ (@bh _ _ _ _ (@aI _ _ _ _ _ _ _ _ Be (@rH _ _ _ _ _ _ _ _ _ (mQ K) qW (pv 4) rK (@tB _ _ _ (@tZ _ _ _ _ _ _ wO ai))) (@jw _ _ _ _ (@aa _ _ _ _ _ (@gJ _ _ _ _ _ (@aa _ _ _ _ _ (pv 6) (@aa _ _ _ _ _ (@aV _ _ _ _ _ _ _ _ _ _ C8 (hr.mono ⋯) (@aa _ _ _ _ _ (pv 1) (@aa _ _ _ _ _ (@aI _ _ _ _ _ _ _ _ lQ ai (pv 5)) (@aa _ _ _ _ _ (@aH _ _ _ _ _ _ (cM K) bE (pv 2) (pv 6) (λ_ _=>rfl)) aj rfl) rfl) rfl) (by rfl) ⋯ (by rfl) (by rfl)) aj rfl) rfl)) aj rfl))))) fy) (@aB _ _ _ _ _ (@fj _ _ _ _ _ _ _ _ (PW.pt (lB (@bI _ _ _ _ _ _ _ _ gD (pv 5) ai (bC _)) (lG (@bI _ _ _ _ _ _ _ _ gD (@aH _ _ _ _ _ _ (cM K) bE (pv 2) (pv 6) (λ_ _=>rfl)) ai (bC _))))) (@aL _ _ _ (@bh _ _ _ _ (pv 4))) fy) (@aL _ _ _ (@bh _ _ _ _ (@zX _ _ _ _ _ _ _ _ (PW.pt (lB (@bI _ _ _ _ _ _ _ _ gD (pv 5) ai (bC _)) (lG (@bI _ _ _ _ _ _ _ _ Ow (@cS _ _ _ _ _ _ _ _ (gK K) jc rfl bZ iU (@aa _ _ _ _ _ (pv 4) aj rfl) ⋯ ⋯ (by rfl) (by rfl)) ai (bC _))))) (@rH _ _ _ _ _ _ _ _ _ (mQ K) qW (pv 4) rK (@tB _ _ _ (@tZ _ _ _ _ _ _ wO ai))) j6)))))))),?_⟩;refine Sv.kg M g t D G (ρ:=[.ao, .d false _, .d false _, .d false _, .no, .no, .no]) rfl ?_;clear G D;have p2:=hp.1;have r:(wd.map bj).length=wd.length:=ak ..;have N:∀x:Int,0<=x->x<=p->Sm x:=λx Z x1=>by unfold Sm;omega
 rfl';refine au.ev (au.i9 ⋯ rfl ?_);refine Ev.iT Gh rfl ?_;rfl';rw[r];refine⟨rfl,(wd.length:Int),wide,rfl,∅,∅,d1,d2,λL r0 O U S=>?_⟩;have hrl:0<L.length:=List.length_pos_iff.mpr r0;rfl';refine⟨by rw[ak];omega,λv=>iw.rel xk true (λi pr=>L[i]?=some pr.1/\1<=pr.2/\pr.2<p) ?_ λprs o W=>?_⟩
 .rintro i d hd;obtain⟨x,hx,rfl⟩:=gQ hd;rfl';refine⟨by walk_at "wk",?_⟩;rfl';refine Ev.iT HW rfl ?_;rfl';refine⟨rfl,p,rfl,hp,V,λy Y y2=>?_⟩;rfl';exact⟨λ_=>rfl,(x,y),rfl,hx,Y,y2⟩
 rw[ak] at o;have JC:prs.map (·.1)=L:=by
  apply lD;intro j;rw[cB];cases e:prs[j]? with
  |none=>rw[mT (by have:=List.getElem?_eq_none_iff.mp e;omega)];rfl
  |some pr=>exact(W j pr e).1.symm
 have C:oV p wd.length prs:=⟨by rw[JC];exact U,∅,λpr m=>by
  obtain⟨k,hk⟩:=kI m;have h2:=W k pr hk;have h1:=S pr.1 (c8 h2.1);omega⟩
 have Vd:(prs.map xk).length=prs.length:=ak ..;have J:kF (prs.map xk) none (some (-1))=prs.dropLast.map xk:=by
  unfold kF HT.eN;simp only[uE,Nat.sub_zero];rw[List.dropLast_eq_take,List.map_take,Vd]
  congr 1
  first|omega|(split<;>omega)
 have hdl:prs.dropLast.length=prs.length-1:=JB ..;have Dn:oV p wd.length prs.dropLast:=⟨((List.dropLast_sublist prs).map _).nodup C.1,∅,λpr m=>C.2.2 pr (List.dropLast_subset _ m)⟩;have DR:L.length-1<L.length:=∅
 have Kc:prs.length-1<prs.length:=∅
 have VM:bO (prs.map xk) (-1)=some (xk prs[prs.length-1]):=by
  unfold bO gU;rw[if_neg ⋯,if_pos (by rw[ak];omega)];show(prs.map xk)[_]?=_;rw[cB,ak,show(-1+(prs.length:Int)).toNat=prs.length-1 by omega,aQ Kc];rfl
 obtain⟨last,qG⟩:∃x,L[L.length-1]=x:=⟨_,rfl⟩;obtain⟨lf,ND⟩:∃y,prs[prs.length-1]=(last,y):=by
  refine⟨prs[prs.length-1].2,?_⟩;have hz:=(W (prs.length-1) _ (aQ Kc)).1;rw[show L[prs.length-1]?=some last by rw[<-qG,show prs.length-1=L.length-1 by omega];exact aQ DR] at hz;rw[ie hz]
 rw[ND] at VM;have n:0<=last/\last<wd.length:=by
  have:=S last (qG▸iA DR);omega
 have hlt:last.toNat<wd.length:=∅
 have Zj:bO (wd.map bj) last=some (.int wd[last.toNat]):=lF n.1 (by rw[cB,aQ hlt];rfl);have hwl:=mS _ (iA hlt);have Nl:∀x:Int,kR (wd.map some) (last,x)=x*wd[last.toNat]:=λx=>WB (pr:=(last,x)) (aQ hlt);generalize wd[last.toNat]=wl at*;have c:wd.map bj=(wd.map some).map bS:=by rw[lI];rfl
 have UY:p9 prs.dropLast (wd.map some).length:=λpr m=>by
  have:=Dn.2.2 pr m;rw[ak];exact⟨this.1,this.2.1,N _ ∅ ∅⟩
 have Pq:ja (wd.map some):=λx hx=>by
  obtain⟨y,hy,e⟩:=fk.mp hx;cases e;have:=mS x hy;exact N x ∅ ∅
 rfl';refine Ev.jj Fo ?_;rfl';refine⟨rfl,p,prs.dropLast,wd.map some,by show[_,gO _,gO _]=_;rw[J,c],∅,∅,UY,Pq,?_⟩;have R0:=gP (bQ prs.dropLast (wd.map some)) (show p≠0 by omega);have R1:=gM (bQ prs.dropLast (wd.map some)) (show 0<p by omega);have u:∃x:Int,prs=prs.dropLast++[(last,x)]:=by
  have T:prs≠[]:=Gk ∅;have e:=EK T;refine⟨(prs.getLast T).2,?_⟩;have e2:(prs.getLast T).1=last:=by
   rw[<-qG,EZ];have hz:=W (prs.length-1) _ (aQ ∅);have e3:L[prs.length-1]?=some L[L.length-1]:=by rw[show prs.length-1=L.length-1 by omega];exact aQ DR
   rw[e3] at hz;exact(ie hz.1).symm
  rw[<-e2];exact e.symm
 have zZ:∀x:Int,bQ (prs.dropLast++[(last,x)]) (wd.map some)%p=(bQ prs.dropLast (wd.map some)%p+x*wl)%p:=λx=>by
  rw[Vo,PX,Nl,my]
  congr 1
  show _+(_+0)=_;omega
 obtain⟨R,eR⟩:∃R,bQ prs.dropLast (wd.map some)%p=R:=⟨_,rfl⟩;simp only[eR] at zZ R0 R1⊢;rfl';by_cases cR:R=0
 .rfl';by_cases cw:wl=0
  .rfl';obtain⟨x,hx⟩:=u
   exact q (some prs) _ (λ_ e=>by
    cases e;refine⟨C,?_⟩;rw[hx,zZ,cR,cw,BQ];simp)
  .rfl';by_cases cl:1<((prs.map xk).length:Int)
   .rfl';rw[J];exact q (some prs.dropLast) _ (λ_ e=>by cases e;exact⟨Dn,by rw[eR,cR]⟩)
   .rfl';exact q none _ (λ_ e=>by cases e)
 .rfl';by_cases cw:wl=0
  .rfl';exact q none _ (λ_ e=>by cases e)
  .have hwp:wl%p≠0:=by rw[vU ∅ ∅];exact cw
   rfl';refine Ev.jj Eg ?_;rfl';refine⟨rfl,p,0-R,wl,rfl,hp,V,hwp,∅,∅,λ⟨k,hk⟩=>?_⟩;have hs:=Ic (p:=p) (b:=wl) (a:=0-R) ∅;generalize sol p wl (0-R)=sl at*;have hs1:sl≠0:=λz=>by
    subst z;rw[BQ] at hk;have YH:R=p*k:=∅
    rcases mr k 0 with z|z|z
    .have:p*k<=p*(-1):=rQ ∅ ∅;omega
    .subst z;omega
    .have:p*1<=p*k:=rQ ∅ ∅;omega
   rfl';refine⟨by rw[J,ak];show _+1<=10000;omega,?_⟩;show Φ _ (.list (kF (prs.map xk) none (some (-1))++[xk (last,sl)]));rw[J,show(prs.dropLast.map xk++[xk (last,sl)])=(prs.dropLast++[(last,sl)]).map xk by rw[e7];rfl];refine q (some (prs.dropLast++[(last,sl)])) _ (λ_ e=>?_);cases e;have hz:(R+sl*wl)%p=0:=by
    rw[show R+sl*wl=p*k by rw[oS sl wl];omega];exact Int.mul_emod_right p k
   refine⟨?_,by rw[zZ];exact hz⟩;have hdr:(prs.dropLast++[(last,sl)]).map (·.1)=L:=by
    rw[e7,List.map_dropLast,JC,List.map_singleton,<-qG];have:=EK (Gk hrl);rw[EZ] at this;exact this
   refine⟨by rw[hdr];exact U,by rw[gx,j8];omega,λpr m=>?_⟩;rcases fK.mp m with h|h
   .exact Dn.2.2 pr h
   .rw[aN.mp h];exact⟨n.1,n.2,by show 1<=sl;omega,hs.2⟩
def zw:DF:=λds Φ=>∃(p many wide:Int) (wd:List Int),ds=[.int p, .list (wd.map .int), .int many, .int wide]/\fE p/\p<10^40/\1<=wd.length/\wd.length<=400/\(∀x∈wd,0<=x/\x<p)/\0<=many/\many<=400/\1<=wide/\wide<=60/\∀(cs:List aC) (f:Bool),(cs.length:Int)<=many->(∀prs∈cs,oV p wd.length prs/\bQ prs (wd.map some)%p=0)->Φ f (cO p wd.length cs)
theorem XQ:dJ zw:=by
 intro ds Φ Ψ hm z;revert hm;walk_at "mo";exact λq=>λcs f a b=>z _ _ (q cs f a b)
theorem Nm(o:Option aC):tP (vS o)=o.isNone:=by cases o<;>rfl
theorem La:cg ["bag","p","word","many","wide","checks"] ["bag","p","word","many","wide"] (aK sU):=⟨rfl,rfl,rfl,by decide+kernel,rfl,by decide+kernel,by decide+kernel⟩
theorem QK(F:bN K "_law_planted" "_law_planted" sU f fd)(a:Callee P w K mg base "_law_planted_check" 3 ["bag","p","word","wide"] (dM 4 BU))(bZ:mg "len"=none)(cy:mg "range"=none):
    bf P w K mg base bG 4 f fd ["bag","p","word","many","wide"] (dM 5 zw):=by
  refine F.ok La (λvs H Q E h=>h.1) (λcdv A outer s H vs Q E hr h=>?_);obtain⟨b,l,ws,nb,ds,Φ,rfl,M,g,t,D,G,I⟩:=kU h;obtain⟨p,many,wide,wd,rfl,hp,V,X,B,mS,m1,m2,d1,d2,q⟩:=I;refine⟨_,(@aB _ _ _ _ _ (xB (i:=5) La.nd rfl rfl (dI.of (show eE (aK sU) ["bag","p","word","many","wide","checks"] _ ["c","bag","p","word","wide"] [none,some 0,some 1,some 2,some 4]=true by decide+kernel)) (@jZ _ _ _ _ _ _ rfl cy (@aa _ _ _ _ _ (pv 3) aj rfl) (by rfl)) (λ_ _ _ _=>⟨(aY (i:=0) (by show cf (["c","bag","p","word","wide"]:List Str);decide+kernel) rfl (a5 rfl)),iP,(@aV _ _ _ _ _ _ _ _ _ _ a (hr.mono ⋯) (@aa _ _ _ _ _ (pv 1) (@aa _ _ _ _ _ (pv 2) (@aa _ _ _ _ _ (pv 3) (@aa _ _ _ _ _ (pv 4) aj rfl) rfl) rfl) rfl) (by rfl) ⋯ (by rfl) (by rfl))⟩)) (@aL _ _ _ (@bh _ _ _ _ (@gJ _ _ _ _ _ (@aa _ _ _ _ _ (pv 1) (@aa _ _ _ _ _ (@cS _ _ _ _ _ _ _ _ (gK K) jc rfl bZ iU (@aa _ _ _ _ _ (pv 2) aj rfl) ⋯ ⋯ (by rfl) (by rfl)) (@aa _ _ _ _ _ (gC (dI.of (show eE (aK sU) ["bag","p","word","many","wide","checks"] _ ["pairs"] [none]=true by decide+kernel)) (gm (K:=K) rfl (pv 5)) (λ_ _ _ _=>⟨(aY (i:=0) (by show cf (["pairs"]:List Str);decide+kernel) rfl (a5 rfl)),(mw (@bI _ _ _ _ _ _ _ _ uC (pv 0) j6 (bC _))),(pv 0)⟩)) aj rfl) rfl) rfl))))),?_⟩;refine Sv.kg M g t D G (ρ:=[.ao, .d false _, .d false _, .d false _, .d false _, .no]) rfl ?_;clear G D;have r:(wd.map bj).length=wd.length:=ak ..;rfl';refine au.ev (au.nq ⋯ rfl ?_);rfl';refine iw.rel vS false (λ_ o=>∀prs,o=some prs->oV p wd.length prs/\bQ prs (wd.map some)%p=0) ?_ λos m S=>?_
  · rintro i d ⟨hi,rfl⟩
    rfl';refine⟨by walk_at "wk",?_⟩;refine Ev.iT WD rfl ?_;rfl';exact⟨rfl,p,wide,wd,rfl,hp,V,X,B,mS,d1,d2,λo f h=>⟨(λz=>by cases z),o,rfl,h⟩⟩
  rfl';refine au.ev (au.i9 ⋯ rfl ?_);rfl';refine⟨by rw[ak];omega,λv=>⟨false,λi ds=>∃es:List aC,ds=es.map cN/\es.length<=i/\∀prs∈es,oV p wd.length prs/\bQ prs (wd.map some)%p=0,⟨[],rfl,aF _,(λ_ h=>nomatch h)⟩,?_,?_⟩⟩
  · rintro j d ds hd hl' ⟨es,rfl,hel,hes⟩
    obtain⟨o,U,rfl⟩:=gQ hd;rfl';refine⟨by walk_at "wk",?_⟩;rfl';rw[Nm];cases o with
    | none =>
      rfl';exact⟨es,rfl,∅,hes⟩
    | some prs =>
      rw[show vS (some prs)=cN prs from rfl];rfl';refine⟨es++[prs],by rw[e7];rfl,by simp;omega,λq hq=>?_⟩;rcases fK.mp hq with h|h
      · exact hes q h
      · rw[aN.mp h];exact S j _ U prs rfl
  rintro ds hl' ⟨es,rfl,hel,hes⟩;rfl';rw[ak] at hel;show Φ _ (.tuple [.int p, .int ((wd.map bj).length:Int), .list (es.map cN)]);rw[r];exact q es _ ∅ hes
def C6:DF:=λds Φ=>∃(p many wide:Int) (wd:List Int),ds=[.int p, .list (wd.map .int), .int many, .int wide]/\fE p/\p<10^40/\1<=wd.length/\wd.length<=400/\(∀x∈wd,0<=x/\x<p)/\0<=many/\many<=400/\1<=wide/\wide<=60/\∀(cs:List aC) (f:Bool),(cs.length:Int)<=many->jP p cs wd.length->Φ f (cO p wd.length cs)
theorem RE:dJ C6:=by
 intro ds Φ Ψ hm z;revert hm;walk_at "mo";exact λq=>λcs f a b=>z _ _ (q cs f a b)
theorem Yh:cg ["bag","p","word","many","wide"] ["bag","p","word","many","wide"] (aK z3):=⟨rfl,rfl,rfl,by decide+kernel,rfl,by decide+kernel,by decide+kernel⟩
theorem Ml(F:bN K "_law_any" "_law_any" z3 f fd)(i:Callee P w K mg base "_law_net" 3 ["bag","p","n","many","wide"] (dM 5 yW))(J:Callee P w K mg base "_law_draw" 1 ["bag","many"] i6)(j:Callee P w K mg base "_law_planted" 4 ["bag","p","word","many","wide"] (dM 5 zw))(bZ:mg "len"=none):
  bf P w K mg base bG 5 f fd ["bag","p","word","many","wide"] (dM 5 C6):=by
 refine F.ok Yh (λvs H Q E h=>h.1) (λcdv A outer s H vs Q E hr h=>?_);obtain⟨b,l,ws,nb,ds,Φ,rfl,M,g,t,D,G,I⟩:=kU h;obtain⟨p,many,wide,wd,rfl,hp,V,X,B,mS,m1,m2,d1,d2,q⟩:=I;refine⟨_,(@aB _ _ _ _ _ (@fj _ _ _ _ _ _ _ _ (@bI _ _ _ _ _ _ _ _ gD (@aV _ _ _ _ _ _ _ _ _ _ J (hr.mono ⋯) (@aa _ _ _ _ _ (pv 0) (@aa _ _ _ _ _ ai aj rfl) rfl) (by rfl) ⋯ (by rfl) (by rfl)) ai (bC _)) (@aL _ _ _ (@bh _ _ _ _ (@aV _ _ _ _ _ _ _ _ _ _ j (hr.mono ⋯) (@aa _ _ _ _ _ (pv 0) (@aa _ _ _ _ _ (pv 1) (@aa _ _ _ _ _ (pv 2) (@aa _ _ _ _ _ (pv 3) (@aa _ _ _ _ _ (pv 4) aj rfl) rfl) rfl) rfl) rfl) (by rfl) ⋯ (by rfl) (by rfl)))) fy) (@aL _ _ _ (@bh _ _ _ _ (@aV _ _ _ _ _ _ _ _ _ _ i (hr.mono ⋯) (@aa _ _ _ _ _ (pv 0) (@aa _ _ _ _ _ (pv 1) (@aa _ _ _ _ _ (@cS _ _ _ _ _ _ _ _ (gK K) jc rfl bZ iU (@aa _ _ _ _ _ (pv 2) aj rfl) ⋯ ⋯ (by rfl) (by rfl)) (@aa _ _ _ _ _ (pv 3) (@aa _ _ _ _ _ (pv 4) aj rfl) rfl) rfl) rfl) rfl) (by rfl) ⋯ (by rfl) (by rfl))))),?_⟩;refine Sv.kg M g t D G (ρ:=[.ao, .d false _, .d false _, .d false _, .d false _]) rfl ?_;clear G D;have r:(wd.map bj).length=wd.length:=ak ..;rfl';intro y y0 y1;rfl';by_cases c:y=0
 .rw[if_pos (by simpa using c)];rfl';refine Ev.iT XQ rfl ?_;rfl';refine⟨rfl,p,many,wide,wd,rfl,hp,V,X,B,mS,m1,m2,d1,d2,λcs f hcl e=>q cs _ hcl ⟨hp,V,∅,λprs W=>?_⟩⟩;obtain⟨_,h2,h3⟩:=(e prs W).1;refine⟨h2,λpr m=>?_,λpr m=>?_⟩
  .obtain⟨a,b,c,d⟩:=h3 pr m;exact⟨a,b,by unfold Sm;omega⟩
  .obtain⟨a,b,c,d⟩:=h3 pr m;rw[vU ∅ d];omega
 rw[if_neg (by simpa using c)];rfl';refine Ev.iT PJ rfl ?_;rfl';rw[r];refine⟨rfl,p,wd.length,many,wide,rfl,hp,V,∅,∅,m1,m2,d1,d2,λcs f hcl e=>q cs _ ∅ ⟨hp,V,∅,λprs W=>?_⟩⟩;obtain⟨_,h2,h3⟩:=e prs W;refine⟨∅,λpr m=>?_,λpr m=>?_⟩
 .obtain⟨a,b,c,d⟩:=h3 pr m;exact⟨a,b,by unfold Sm;omega⟩
 .obtain⟨a,b,c,d⟩:=h3 pr m;rw[vU ∅ d];omega
def D0:DF:=λds Φ=>∃wd:List Int,ds=[.list (wd.map .int)]/\wd.length<=10000/\∀ld:Wo,Tc wd ld->Φ true (eV ld)
theorem Rl:dJ D0:=by
 intro ds Φ Ψ hm z;revert hm;walk_at "mo";exact λq=>λld a=>z _ _ (q ld a)
theorem KW:cg ["bag","word","often"] ["bag","word"] (aK tY):=⟨rfl,rfl,rfl,by decide+kernel,rfl,by decide+kernel,by decide+kernel⟩
theorem O5(F:bN K "_law_lossy" "_law_lossy" tY f fd)(J:Callee P w K mg base "_law_draw" 1 ["bag","many"] i6):
    bf P w K mg base bG 2 f fd ["bag","word"] (dM 2 D0):=by
  refine F.ok KW (λvs H Q E h=>h.1) (λcdv A outer s H vs Q E hr h=>?_);obtain⟨b,l,ws,nb,ds,Φ,rfl,M,g,t,D,G,I⟩:=kU h;obtain⟨wd,rfl,hl,q⟩:=I;refine⟨_,(@aB _ _ _ _ _ (@bq _ _ (2) _ _ _ _ KW.nd rfl (e6 rfl) (@aH _ _ _ _ _ _ (cM K) bE (@jw _ _ _ _ (@p6 _ _ _ rfl)) (@aV _ _ _ _ _ _ _ _ _ _ J (hr.mono ⋯) (@aa _ _ _ _ _ (pv 0) (@aa _ _ _ _ _ ai aj rfl) rfl) (by rfl) ⋯ (by rfl) (by rfl)) (λ_ _=>rfl)) (by rfl) (by first|exact .inl rfl|exact .inr rfl|assumption)) (@aL _ _ _ (@bh _ _ _ _ (gC (dI.of (show eE (aK tY) ["bag","word","often"] _ ["letter","bag","often"] [none,some 0,some 2]=true by decide+kernel)) (gm (K:=K) rfl (pv 1)) (λ_ _ _ _=>⟨(aY (i:=0) (by show cf (["letter","bag","often"]:List Str);decide+kernel) rfl (a5 rfl)),iP,(@zX _ _ _ _ _ _ _ _ (@bI _ _ _ _ _ _ _ _ gD (@aV _ _ _ _ _ _ _ _ _ _ J (hr.mono ⋯) (@aa _ _ _ _ _ (pv 1) (@aa _ _ _ _ _ (pv 2) aj rfl) rfl) (by rfl) ⋯ (by rfl) (by rfl)) ai (bC _)) j6 (pv 0))⟩))))),?_⟩;refine Sv.kg M g t D G (ρ:=[.ao, .d false _, .no]) rfl ?_;clear G D;have n:(wd.map bj).length=wd.length:=ak ..;rfl';intro r r1 r2;obtain⟨m,em,m1,m2⟩:=pick (L:=[8,4,3,2,2,3,8,1]) r1 (by show r<8;omega) (λx=>1<=x/\x<=8) ⋯;refine⟨_,rfl,_,em,?_⟩;refine Gv.tU ?_;rfl';refine au.ev (au.i9 ⋯ rfl ?_);rfl';refine λv=>⟨true,λi ds=>∃ld:Wo,ds=ld.map bS/\ld.length=i/\∀(j:Nat) x,ld[j]?=some (some x)->wd[j]?=some x,⟨[],rfl,rfl,λ_ _ h=>by simp at h⟩,?_,?_⟩
  · rintro i d ds hd hl' ⟨ld,rfl,ez,hin⟩
    obtain⟨x,hx,rfl⟩:=gQ hd;rfl';refine⟨by walk_at "wk",?_⟩;rfl';intro z z1 z2;by_cases c:z=0
    · rfl'
      refine⟨ld++[none],by rw[e7];rfl,by simp[ez],λj y hy=>hin j y ?_⟩;by_cases hj:j<ld.length;· rwa[fG hj] at hy
      · rw[gb ∅] at hy
        cases e:j-ld.length with
        |zero=>rw[e] at hy;simp at hy
        |succ k=>rw[e] at hy;simp at hy
    · rfl'
      refine⟨ld++[some x],by rw[e7];rfl,by simp[ez],λj y hy=>?_⟩;by_cases hj:j<ld.length;· rw[fG hj] at hy;exact hin j y hy
      · rw[gb ∅] at hy
        cases e:j-ld.length with
        | zero =>
          rw[e] at hy;simp at hy;rw[show j=i by omega,<-hy];exact hx
        |succ k=>rw[e] at hy;simp at hy
  rintro ds hl' ⟨ld,rfl,ez,hin⟩;rw[n] at ez;exact q ld ⟨ez,hin⟩
def wK:SF:=λds Φ=>∃(p n:Int) (cs:List aC),ds=[cO p n cs]/\cs.length<=10000/\(∀prs∈cs,prs.length<=10000)/\∀c a0 bs,(c::a0::bs).Nodup->bs.length=(eT cs).length->Φ (.ref c) (gF c a0 bs (.int p) (.int n) (eT cs))
theorem Ni:xx wK:=by
 intro ds Φ Ψ hm z;revert hm;walk_at "mo";exact λq=>λc a0 bs x y=>z _ _ (q c a0 bs x y)
theorem VV:cg ["net"] ["net"] (aK uV):=⟨rfl,rfl,rfl,by decide+kernel,rfl,by decide+kernel,by decide+kernel⟩
theorem NQ(F:bN K "_law_copy" "_law_copy" uV f fd)(dB:mg "list"=none):
  bf P w K mg base bG 1 f fd ["net"] (m5 1 wK):=by
 refine F.ok VV (λvs H Q E h=>h.1) (λcdv A outer s H vs Q E hr h=>?_);obtain⟨_,nb,ds,g,D,I⟩:=h;obtain⟨Φ,G,I⟩:∃Φ:V->bW->Prop,(∀v L H',Φ v L->bU H H'->sq nb H H' L->Q v H')/\wK ds Φ:=⟨_,λv L H' q=>q H',I⟩;obtain⟨p,n,cs,rfl,hl,o,q⟩:=I;refine⟨_,(@aL _ _ _ (@bh _ _ _ _ (@gJ _ _ _ _ _ (@aa _ _ _ _ _ (@aH _ _ _ _ _ _ (cY K) dW (pv 0) ai (λ_ _=>rfl)) (@aa _ _ _ _ _ (@aH _ _ _ _ _ _ (cY K) dW (pv 0) ai (λ_ _=>rfl)) (@aa _ _ _ _ _ (gC (dI.of (show eE (aK uV) ["net"] _ ["pairs"] [none]=true by decide+kernel)) (gm (K:=K) rfl (@aH _ _ _ _ _ _ (cY K) dW (pv 0) ai (λ_ _=>rfl))) (λ_ _ _ _=>⟨(aY (i:=0) (by show cf (["pairs"]:List Str);decide+kernel) rfl (a5 rfl)),iP,(@kZ _ _ _ _ _ _ _ _ (jV K) o4 rfl dB jR (@aa _ _ _ _ _ (pv 0) aj rfl) ⋯ ⋯ (by rfl) (by rfl))⟩)) aj rfl) rfl) rfl)))),?_⟩;refine Sv.Ig g D G (ρ:=[.d false _]) rfl ?_;clear G D;refine Sv.HF rfl (Ev.iI (Ev.var rfl ⟨_,rfl,Ev.int ⟨0,rfl,_,rfl,rfl,?_⟩⟩));refine Ev.iI (Ev.var rfl ⟨_,rfl,Ev.int ⟨1,rfl,_,rfl,rfl,?_⟩⟩);refine sG.i9 ⋯ rfl (Ev.iI (Ev.var rfl ⟨_,rfl,Ev.int ⟨2,rfl,_,rfl,_,rfl,?_⟩⟩));refine⟨by rw[ak];exact hl,λv=>⟨λi aG=>aG=eT (cs.take i),rfl,?_,?_⟩⟩
 .rintro i d aG hd hl' rfl;obtain⟨prs,W,rfl⟩:=gQ hd;rfl';refine⟨by walk_at "wk",?_⟩;refine au.listOf ?_;rfl';show _=eT (jt (i+1) cs);unfold eT;rw[xn W,e7]
  rfl
 .rintro aG hl' rfl;rw[ak,jQ];exact q
def rS:Nat->PyData->Prop
 |0,_=>False
 |n+1,d=>fU d=true\/∃ds,(d= .list ds\/d= .tuple ds)/\ds.length<=10000/\∀e∈ds,rS n e
def oX(n:Nat):DF:=λds Φ=>∃d,ds=[d,d]/\rS n d/\Φ true (.bool true)
theorem tN(n:Nat):dJ (oX n):=by
 intro ds Φ Ψ hm z;revert hm;walk_at "mo";exact λq=>z _ _ q
theorem XC:∀vs H Q E,¬cQ 2 (oX 0) vs H Q E:=λvs H Q E ⟨_,_,_,_,_,d,_,h,_⟩=>h
theorem RC:cg ["found","due"] ["found","due"] (aK xO):=⟨rfl,rfl,rfl,by decide+kernel,rfl,by decide+kernel,by decide+kernel⟩
theorem B3(n:Nat)(F:bN K "_law_alike" "_law_alike" xO f fd)(rY:Callee P w K mg base "_law_alike" (n) ["found","due"] (cQ 2 (oX n)))(iV:mg "isinstance"=none)(dB:mg "list"=none)(pW:mg "tuple"=none)(sW:mg "all"=none)(bZ:mg "len"=none)(qf:mg "bool"=none)(lC:mg "int"=none)(o7:mg "str"=none)(cy:mg "range"=none):
  bf P w K mg base bG (n+1) f fd ["found","due"] (cQ 2 (oX (n+1))):=by
 refine F.ok RC (λvs H Q E h=>h.1) (λcdv A outer s H vs Q E hr h=>?_);obtain⟨nb,ds,Φ,g,D,G,I⟩:=kL h;obtain⟨d,rfl,hok,q⟩:=I;refine⟨_,(@aB _ _ _ _ _ (@fj _ _ _ _ _ _ _ _ (@sP _ (K) _ _ rfl (@cS _ _ _ _ _ _ _ _ (xj) G7 rfl iV kO (@aa _ _ _ _ _ (pv 1) (@aa _ _ _ _ _ (@gJ _ _ _ _ _ (@aa _ _ _ _ _ (jl (v:= .ty "list") rfl dB jR rfl) (@aa _ _ _ _ _ (jl (v:= .ty "tuple") rfl pW EI rfl) aj rfl) rfl)) aj rfl) rfl) ⋯ ⋯ (by rfl) (by rfl)) (λ_=>rfl)) (@aB _ _ _ _ _ (@fj _ _ _ _ _ _ _ _ (PW.pt (ve (@xu _ _ _ _ (@sP _ (K) _ _ rfl (@cS _ _ _ _ _ _ _ _ (xj) G7 rfl iV kO (@aa _ _ _ _ _ (pv 0) (@aa _ _ _ _ _ (@gJ _ _ _ _ _ (@aa _ _ _ _ _ (jl (v:= .ty "list") rfl dB jR rfl) (@aa _ _ _ _ _ (jl (v:= .ty "tuple") rfl pW EI rfl) aj rfl) rfl)) aj rfl) rfl) ⋯ ⋯ (by rfl) (by rfl)) (λ_=>rfl))) (vP (@bI _ _ _ _ _ _ _ _ lH (@cS _ _ _ _ _ _ _ _ (kE K) m6 rfl iV kO (@aa _ _ _ _ _ (pv 0) (@aa _ _ _ _ _ (jl (v:= .ty "list") rfl dB jR rfl) aj rfl) rfl) ⋯ ⋯ (by rfl) (by rfl)) (@cS _ _ _ _ _ _ _ _ (kE K) m6 rfl iV kO (@aa _ _ _ _ _ (pv 1) (@aa _ _ _ _ _ (jl (v:= .ty "list") rfl dB jR rfl) aj rfl) rfl) ⋯ ⋯ (by rfl) (by rfl)) (bC _))))) (@aL _ _ _ (@bh _ _ _ _ oF)) fy) (@aB _ _ _ _ _ (@fj _ _ _ _ _ _ _ _ (@bI _ _ _ _ _ _ _ _ lH (@cS _ _ _ _ _ _ _ _ (gK K) jc rfl bZ iU (@aa _ _ _ _ _ (pv 0) aj rfl) ⋯ ⋯ (by rfl) (by rfl)) (@cS _ _ _ _ _ _ _ _ (gK K) jc rfl bZ iU (@aa _ _ _ _ _ (pv 1) aj rfl) ⋯ ⋯ (by rfl) (by rfl)) (bC _)) (@aL _ _ _ (@bh _ _ _ _ oF)) fy) (@aL _ _ _ (@bh _ _ _ _ (@cS _ _ _ _ _ _ _ _ (Dr K) (S2 rfl) rfl sW tm (@aa _ _ _ _ _ (gC (dI.of (show eE (aK xO) ["found","due"] _ ["k","found","due"] [none,some 0,some 1]=true by decide+kernel)) (@jZ _ _ _ _ _ _ rfl cy (@aa _ _ _ _ _ (@cS _ _ _ _ _ _ _ _ (gK K) jc rfl bZ iU (@aa _ _ _ _ _ (pv 1) aj rfl) ⋯ ⋯ (by rfl) (by rfl)) aj rfl) (by rfl)) (λ_ _ _ _=>⟨(aY (i:=0) (by show cf (["k","found","due"]:List Str);decide+kernel) rfl (a5 rfl)),iP,(@aV _ _ _ _ _ _ _ _ _ _ rY (hr.mono (aF _)) (@aa _ _ _ _ _ (@aH _ _ _ _ _ _ (vF K) GO (pv 1) (pv 0) (λ_ _=>rfl)) (@aa _ _ _ _ _ (@aH _ _ _ _ _ _ (vF K) GO (pv 2) (pv 0) (λ_ _=>rfl)) aj rfl) rfl) (by rfl) ⋯ (by rfl) (by rfl))⟩)) aj rfl) ⋯ ⋯ (by rfl) (by rfl)))))) fy) (@aB _ _ _ _ _ (@fj _ _ _ _ _ _ _ _ (PW.pt (ve (@bI _ _ _ _ _ _ _ _ lH (@cS _ _ _ _ _ _ _ _ (kE K) m6 rfl iV kO (@aa _ _ _ _ _ (pv 0) (@aa _ _ _ _ _ (jl (v:= .ty "bool") rfl qf Eh rfl) aj rfl) rfl) ⋯ ⋯ (by rfl) (by rfl)) (@cS _ _ _ _ _ _ _ _ (kE K) m6 rfl iV kO (@aa _ _ _ _ _ (pv 1) (@aa _ _ _ _ _ (jl (v:= .ty "bool") rfl qf Eh rfl) aj rfl) rfl) ⋯ ⋯ (by rfl) (by rfl)) (bC _)) (vP (@bI _ _ _ _ _ _ _ _ lH (@cS _ _ _ _ _ _ _ _ (kE K) m6 rfl iV kO (@aa _ _ _ _ _ (pv 0) (@aa _ _ _ _ _ (jl (v:= .ty "int") rfl lC C4 rfl) aj rfl) rfl) ⋯ ⋯ (by rfl) (by rfl)) (@cS _ _ _ _ _ _ _ _ (kE K) m6 rfl iV kO (@aa _ _ _ _ _ (pv 1) (@aa _ _ _ _ _ (jl (v:= .ty "int") rfl lC C4 rfl) aj rfl) rfl) ⋯ ⋯ (by rfl) (by rfl)) (bC _))))) (@aL _ _ _ (@bh _ _ _ _ oF)) fy) (@aL _ _ _ (@bh _ _ _ _ (@Xp _ _ _ _ _ _ _ (@Az _ _ _ _ _ _ _ _ gD (@cS _ _ _ _ _ _ _ _ (kE K) m6 rfl iV kO (@aa _ _ _ _ _ (pv 0) (@aa _ _ _ _ _ (jl (v:= .ty "str") rfl o7 Jp rfl) aj rfl) rfl) ⋯ ⋯ (by rfl) (by rfl)) (@cS _ _ _ _ _ _ _ _ (kE K) m6 rfl iV kO (@aa _ _ _ _ _ (pv 1) (@aa _ _ _ _ _ (jl (v:= .ty "str") rfl o7 Jp rfl) aj rfl) rfl) ⋯ ⋯ (by rfl) (by rfl)) (bC _)) (@MV _ _ _ _ _ (@Az _ _ _ _ _ _ _ _ gD (pv 0) (pv 1) (bC _)))))))),?_⟩;refine Sv.jY g D G (ρ:=[.d false _, .d false _]) rfl ?_;clear G D;rfl';rcases hok with hs|⟨ds,hd,hl,he⟩
 .have h1:(iN d "list" ||iN d "tuple")=false:=by cases d<;>first|rfl|cases hs
  rw[h1];rfl';rw[beq_self_eq_true];rfl';rw[beq_self_eq_true];rfl';rw[beq_self_eq_true];rfl';exact⟨true, .self hs,q⟩
 rcases hd with rfl|rfl
 .rw[(G8 ds).1,(G8 ds).2,tE];rfl';refine au.ev (au.nq ⋯ rfl ?_);rfl';refine⟨true,λi es=>es=cj i (.bool true),rfl,?_,?_⟩
  .rintro i d' es ⟨hi,rfl⟩ hl' rfl;have c:i<ds.length:=∅
   have B:bO ds (0+(i:Int))=some ds[i]:=lF ∅ (by rw[show(0+(i:Int)).toNat=i by omega];exact aQ c);rfl';refine⟨by walk_at "wk",?_⟩;rfl';refine Ev.jj (tN n) ?_;rfl';refine⟨rfl,ds[i],rfl,he _ (iA c),λ_=>rfl,?_⟩;show _=cj (i+1) _;rw[HV]
  .rintro es hl' rfl;refine⟨cj ds.length true,by simp,?_⟩;rw[show(cj ds.length true).all id=true by simp];exact q
 .rw[(EU ds).1,(EU ds).2,nV];rfl';refine au.ev (au.nq ⋯ rfl ?_);rfl';refine⟨true,λi es=>es=cj i (.bool true),rfl,?_,?_⟩
  .rintro i d' es ⟨hi,rfl⟩ hl' rfl;have c:i<ds.length:=∅
   have B:bO ds (0+(i:Int))=some ds[i]:=lF ∅ (by rw[show(0+(i:Int)).toNat=i by omega];exact aQ c);rfl';refine⟨by walk_at "wk",?_⟩;rfl';refine Ev.jj (tN n) ?_;rfl';refine⟨rfl,ds[i],rfl,he _ (iA c),λ_=>rfl,?_⟩;show _=cj (i+1) _;rw[HV]
  .rintro es hl' rfl;refine⟨cj ds.length true,by simp,?_⟩;rw[show(cj ds.length true).all id=true by simp];exact q
def C0:DF:=λds Φ=>∃(prs:aC) (wd:Wo),ds=[cN prs,eV wd]/\prs.length<=10000/\p9 prs wd.length/\Φ true (.list (((ff wd prs).map (·.1)).map .int))
theorem Rb:dJ C0:=by
 intro ds Φ Ψ hm z;revert hm;walk_at "mo";exact λq=>z _ _ q
theorem Rr:cg ["pairs","word"] ["pairs","word"] (aK yF):=⟨rfl,rfl,rfl,by decide+kernel,rfl,by decide+kernel,by decide+kernel⟩
theorem VR(F:bN K "_law_gaps" "_law_gaps" yF f fd):
    bf P w K mg base bG 1 f fd ["pairs","word"] (cQ 2 C0):=by
  refine F.ok Rr (λvs H Q E h=>h.1) (λcdv A outer s H vs Q E hr h=>?_);obtain⟨nb,ds,Φ,g,D,G,I⟩:=kL h;obtain⟨prs,wd,rfl,hl,hok,q⟩:=I;refine⟨_,(@aL _ _ _ (@bh _ _ _ _ (gC (dI.of (show eE (aK yF) ["pairs","word"] _ ["place","factor","word"] [none,none,some 1]=true by decide+kernel)) (gm (K:=K) rfl (pv 0)) (λ_ _ _ _=>⟨(@ku _ (K) _ _ _ (2) _ rfl rfl (@dg _ _ _ _ _ (aY (i:=0) (by show cf (["place","factor","word"]:List Str);decide+kernel) rfl (a5 rfl)) (@dg _ _ _ _ _ (aY (i:=1) (by show cf (["place","factor","word"]:List Str);decide+kernel) rfl (a5 rfl)) j7 (by rfl)) (by rfl)) (by rfl) (by rfl)),(mw (@bI _ _ _ _ _ _ _ _ yq (@aH _ _ _ _ _ _ (cM K) bE (pv 2) (pv 0) (λ_ _=>rfl)) j6 (bC _))),(pv 0)⟩)))),?_⟩;refine Sv.jY g D G (ρ:=[.d false _, .d false _]) rfl ?_;clear G D;have n:(prs.map xk).length=prs.length:=ak ..;refine Sv.ret ?_;refine au.ev (au.i9 ⋯ rfl ?_);rfl';refine λv=>⟨true,λi ds=>ds=((ff wd (prs.take i)).map (·.1)).map bj,rfl,?_,?_⟩
  · rintro i d ds hd hl' rfl
    obtain⟨pr,m,rfl⟩:=gQ hd;have hr:=hok pr (c8 m);obtain⟨o,U,B⟩:=su (xs:=wd) bS (k:=pr.1) hr.1 hr.2.1 rfl;rfl';refine⟨by walk_at "wk",?_⟩;rfl';rw[tK];cases o with
    | none =>
      rfl';show _=df _ (df _ (ff wd (prs.take (i+1))));unfold ff;rw[xn m,lg,sL (by rw[U];rfl)];simp
    | some x =>
      rfl';show _=df _ (df _ (ff wd (prs.take (i+1))));unfold ff;rw[xn m,lg,q9 (by rw[U];simp)];simp
  · rintro ds hl' rfl
    rw[n,jQ];rw[tE];exact q
def z7:DF:=λds Φ=>∃wd:Wo,ds=[eV wd]/\wd.length<=10000/\Φ true (.list ((qi wd).map .int))
theorem SE:dJ z7:=by
 intro ds Φ Ψ hm z;revert hm;walk_at "mo";exact λq=>z _ _ q
theorem XI:cg ["word"] ["word"] (aK wA):=⟨rfl,rfl,rfl,by decide+kernel,rfl,by decide+kernel,by decide+kernel⟩
theorem NS(F:bN K "_law_lost" "_law_lost" wA f fd)(cy:mg "range"=none)(bZ:mg "len"=none):
    bf P w K mg base bG 1 f fd ["word"] (cQ 1 z7):=by
  refine F.ok XI (λvs H Q E h=>h.1) (λcdv A outer s H vs Q E hr h=>?_);obtain⟨nb,ds,Φ,g,D,G,I⟩:=kL h;obtain⟨wd,rfl,hl,q⟩:=I;refine⟨_,(@aL _ _ _ (@bh _ _ _ _ (gC (dI.of (show eE (aK wA) ["word"] _ ["place","word"] [none,some 0]=true by decide+kernel)) (@jZ _ _ _ _ _ _ rfl cy (@aa _ _ _ _ _ (@cS _ _ _ _ _ _ _ _ (gK K) jc rfl bZ iU (@aa _ _ _ _ _ (pv 0) aj rfl) ⋯ ⋯ (by rfl) (by rfl)) aj rfl) (by rfl)) (λ_ _ _ _=>⟨(aY (i:=0) (by show cf (["place","word"]:List Str);decide+kernel) rfl (a5 rfl)),(mw (@bI _ _ _ _ _ _ _ _ yq (@aH _ _ _ _ _ _ (cM K) bE (pv 1) (pv 0) (λ_ _=>rfl)) j6 (bC _))),(pv 0)⟩)))),?_⟩;refine Sv.jY g D G (ρ:=[.d false _]) rfl ?_;clear G D;have n:((wd.map bS).length:Int)=wd.length:=by rw[ak]
  refine Sv.ret ?_;refine au.ev (au.nq ⋯ rfl ?_);refine Ev.wX ?_;refine Ev.var rfl ?_;refine⟨_, .inl rfl,_,rfl,∅,∅,?_⟩;rw[show((wd.map bS).length:Int).toNat=wd.length by omega];refine⟨true,λi ds=>ds=(((bp i).filter λj=>wd[j]?==some none).map λ(j:Nat)=>(j:Int)).map bj,rfl,?_,?_⟩
  · rintro i d ds ⟨hi,rfl⟩ hl' rfl
    obtain⟨o,U,B⟩:=su (xs:=wd) bS (k:=0+(i:Int)) ∅ ∅ rfl;rw[show(0+(i:Int)).toNat=i by omega] at U;rfl';refine⟨by walk_at "wk",?_⟩;rfl';rw[tK];cases o with
    | none =>
      rfl';show _=df _ (df _ (kn _ (bp (i+1))));rw[uz,lg,sL (by rw[U];rfl)];simp
    | some x =>
      rfl';show _=df _ (df _ (kn _ (bp (i+1))));rw[uz,lg,q9 (by rw[U];simp)];simp
  · rintro ds hl' rfl
    exact q
def BB:DF:=λds Φ=>∃(p n:Int) (cs:List aC) (wd:Wo),ds=[cO p n cs,eV wd]/\jP p cs wd.length/\ja wd/\wd.length<=4000/\Φ true (pN (cV p cs wd))
theorem Mf:dJ BB:=by
 intro ds Φ Ψ hm z;revert hm;walk_at "mo";exact λq=>z _ _ q
theorem mH:cg ["net","word","p","n","checks","found","c","gaps","factor"] ["net","word"] (aK qE):=⟨rfl,rfl,rfl,by decide+kernel,rfl,by decide+kernel,by decide+kernel⟩
theorem Xw(F:bN K "_law_round" "_law_round" qE f fd)(UU:Callee P w K mg base "_law_gaps" 1 ["pairs","word"] (cQ 2 C0))(C8:Callee P w K mg base "_law_over" 1 ["p","a","b"] (cQ 3 vQ))(Du:Callee P w K mg base "_law_sum" 1 ["p","pairs","word"] (cQ 3 xm))(cy:mg "range"=none)(bZ:mg "len"=none)(lA:mg "sorted"=none):
    bf P w K mg base bG 2 f fd ["net","word"] (cQ 2 BB):=by
  refine F.ok mH (λvs H Q E h=>h.1) (λcdv A outer s H vs Q E hr h=>?_);obtain⟨nb,ds,Φ,g,D,G,I⟩:=kL h;obtain⟨p,n,cs,wd,rfl,hN,hW,hl,q⟩:=I;refine⟨_,(@aB _ _ _ _ _ (@jr _ _ _ _ _ _ (pv 0) (@ku _ (K) _ _ _ (3) _ rfl rfl (@dg _ _ _ _ _ (aY (i:=2) mH.nd rfl (a5 rfl)) (@dg _ _ _ _ _ (aY (i:=3) mH.nd rfl (a5 rfl)) (@dg _ _ _ _ _ (aY (i:=4) mH.nd rfl (a5 rfl)) j7 (by rfl)) (by rfl)) (by rfl)) (by rfl) (by rfl)) (by rfl) (by rfl) (by rfl)) (@aB _ _ _ _ _ (@bq _ _ (5) _ _ _ _ mH.nd rfl (e6 rfl) LO (by rfl) (by first|exact .inl rfl|exact .inr rfl|assumption)) (@aB _ _ _ _ _ (@k7 _ _ _ _ _ _ _ _ jy rfl (@jZ _ _ _ _ _ _ rfl cy (@aa _ _ _ _ _ (@cS _ _ _ _ _ _ _ _ (gK K) jc rfl bZ iU (@aa _ _ _ _ _ (pv 4) aj rfl) ⋯ ⋯ (by rfl) (by rfl)) aj rfl) (by rfl)) (aY (i:=6) mH.nd rfl (a5 rfl)) (@aB _ _ _ _ _ (@bq _ _ (7) _ _ _ _ mH.nd rfl (e6 rfl) (@aV _ _ _ _ _ _ _ _ _ _ UU (hr.mono ⋯) (@aa _ _ _ _ _ (@aH _ _ _ _ _ _ (cM K) bE (pv 4) (pv 6) (λ_ _=>rfl)) (@aa _ _ _ _ _ (pv 1) aj rfl) rfl) (by rfl) ⋯ (by rfl) (by rfl)) (by rfl) (by first|exact .inl rfl|exact .inr rfl|assumption)) (@aL _ _ _ (@fj _ _ _ _ _ _ _ _ (PW.pt (lB (@bI _ _ _ _ _ _ _ _ gD (@cS _ _ _ _ _ _ _ _ (gK K) jc rfl bZ iU (@aa _ _ _ _ _ (pv 7) aj rfl) ⋯ ⋯ (by rfl) (by rfl)) ai (bC _)) (lG (@bI _ _ _ _ _ _ _ _ (K7 hr.units) (@aH _ _ _ _ _ _ (cM K) bE (pv 7) ai (λ_ _=>rfl)) (pv 5) (by with_unfolding_all rfl))))) (@aB _ _ _ _ _ (@bq _ _ (8) _ _ _ _ mH.nd rfl (a5 rfl) (@aH _ _ _ _ _ _ (cM K) bE (gC (dI.of (show eE (aK qE) ["net","word","p","n","checks","found","c","gaps","factor"] _ ["place","one","gaps"] [none,none,some 7]=true by decide+kernel)) (gm (K:=K) rfl (@aH _ _ _ _ _ _ (cM K) bE (pv 4) (pv 6) (λ_ _=>rfl))) (λ_ _ _ _=>⟨(@ku _ (K) _ _ _ (2) _ rfl rfl (@dg _ _ _ _ _ (aY (i:=0) (by show cf (["place","one","gaps"]:List Str);decide+kernel) rfl (a5 rfl)) (@dg _ _ _ _ _ (aY (i:=1) (by show cf (["place","one","gaps"]:List Str);decide+kernel) rfl (a5 rfl)) j7 (by rfl)) (by rfl)) (by rfl) (by rfl)),(mw (@bI _ _ _ _ _ _ _ _ gD (pv 0) (@aH _ _ _ _ _ _ (cM K) bE (pv 2) ai (λ_ _=>rfl)) (bC _))),(pv 1)⟩)) ai (λ_ _=>rfl)) (by rfl) (by first|exact .inl rfl|exact .inr rfl|assumption)) (@aL _ _ _ (@jr _ _ _ _ _ _ (@gJ _ _ _ _ _ (@aa _ _ _ _ _ (@aH _ _ _ _ _ _ (cM K) bE (pv 7) ai (λ_ _=>rfl)) (@aa _ _ _ _ _ (pv 6) (@aa _ _ _ _ _ (@aV _ _ _ _ _ _ _ _ _ _ C8 (hr.mono ⋯) (@aa _ _ _ _ _ (pv 2) (@aa _ _ _ _ _ (@aI _ _ _ _ _ _ _ _ lQ ai (@aV _ _ _ _ _ _ _ _ _ _ Du (hr.mono ⋯) (@aa _ _ _ _ _ (pv 2) (@aa _ _ _ _ _ (@aH _ _ _ _ _ _ (cM K) bE (pv 4) (pv 6) (λ_ _=>rfl)) (@aa _ _ _ _ _ (pv 1) aj rfl) rfl) rfl) (by rfl) ⋯ (by rfl) (by rfl))) (@aa _ _ _ _ _ (pv 8) aj rfl) rfl) rfl) (by rfl) ⋯ (by rfl) (by rfl)) aj rfl) rfl) rfl)) (ly (pv 5) (@aH _ _ _ _ _ _ (cM K) bE (pv 7) ai (λ_ _=>rfl)) set_dict) (by rfl) (by rfl) (by rfl)))) fy))) (by intro _;rfl)) (@aL _ _ _ (@bh _ _ _ _ (gC (dI.of (show eE (aK qE) ["net","word","p","n","checks","found","c","gaps","factor"] _ ["place","found"] [none,some 5]=true by decide+kernel)) (gm (K:=K) rfl (@cS _ _ _ _ _ _ _ _ (vE) (IU rfl) rfl lA yP (@aa _ _ _ _ _ (pv 5) aj rfl) ⋯ ⋯ (by rfl) (by rfl))) (λ_ _ _ _=>⟨(aY (i:=0) (by show cf (["place","found"]:List Str);decide+kernel) rfl (a5 rfl)),iP,(@aH _ _ _ _ _ _ (tT) Jd (pv 1) (pv 0) (λ_ _=>rfl))⟩))))))),?_⟩;refine Sv.jY g D G (ρ:=[.d false _, .d false _, .no, .no, .no, .no, .no, .no, .no]) rfl ?_;clear G D;have p2:=hN.1.1;have i7:=hN.2.1;have hcl:=hN.2.2.1;have X:((cs.map cN).length:Int)=cs.length:=by rw[ak]
  generalize lq:(rN (fP _ (gc 5)) _:TS)=tl;rfl';subst lq;refine Sv.seq ?_;refine Sv.LH (qT.new ?_);intro A5;refine Sv.seq ?_;refine Sv.uQ ?_;refine Ev.wX ?_;refine Ev.var rfl ?_;refine⟨_, .inl rfl,_,rfl,∅,∅,?_⟩;rw[show((cs.map cN).length:Int).toNat=cs.length by omega];refine⟨λi ρ=>∃(R S l:Sl),ρ=[.d false (cO p n cs), .d false (eV wd), .d true (.int p), .d true (.int n), .d false (.list (cs.map cN)), .bD A5 true ((bB p cs wd i).map kM),R,S,l],⟨_,_,_,rfl⟩,?_,?_⟩
  · rintro i d ρ' ⟨hi,rfl⟩ ⟨R,S,l,rfl⟩
    have hfl:=rJ (p:=p) (cs:=cs) (wd:=wd) ∅ hN.rg (i:=i) ∅;obtain⟨prs,W⟩:∃prs,cs[i]?=some prs:=⟨_,aQ hi⟩;obtain⟨o,N,C⟩:=hN.2.2.2 prs (c8 W);have y:cs.getD i []=prs:=by rw[ko,W];rfl
    have B:bO (cs.map cN) (0+(i:Int))=some (cN prs):=lF ∅ (by rw[show(0+(i:Int)).toNat=i by omega,cB,W];rfl)
    have ef:bB p cs wd (i+1)=match gY p (cs.getD i []) 0 wd with
      |some (a,x)=>if a∈(bB p cs wd i).map (·.1) then bB p cs wd i else bB p cs wd i++[(a,(i:Int),x)]
      |none=>bB p cs wd i:=by rw[bB]<;>rfl
    rw[y] at ef;refine Gv.tU ?_;rfl';refine Ev.jj Rb ?_;rfl';refine⟨rfl,prs,wd,rfl,∅,N,?_⟩;refine Gv.name ?_;unfold gY at ef;obtain⟨LP,z⟩:∃LP,ff wd prs=LP:=⟨_,rfl⟩;rw[z] at ef⊢;have done:bB p cs wd (i+1)=bB p cs wd i->∀(M T J:Sl),∃(R S l:Sl),[Sl.d false (cO p n cs), .d false (eV wd), .d true (.int p), .d true (.int n), .d false (.list (cs.map cN)), .bD A5 true ((bB p cs wd i).map kM),M,T,J]=[.d false (cO p n cs), .d false (eV wd), .d true (.int p), .d true (.int n), .d false (.list (cs.map cN)), .bD A5 true ((bB p cs wd (i+1)).map kM),R,S,l]:=λe M T J=>by rw[e];exact⟨_,_,_,rfl⟩
    match LP,z,ef with
    | [], z, ef =>
      rfl';exact done ef _ _ _
    | a :: b :: r, z, ef =>
      rfl';exact done ef _ _ _
    | [pr], z, ef =>
      dsimp only at ef;rfl';refine Ev.Gu rfl ?_;rfl';rw[sh];by_cases c:pr.1∈(bB p cs wd i).map (·.1)
      · rw[if_pos c] at ef
        have:ju ((bB p cs wd i).map kM) pr.1=true:=by rw[yM,qh];exact c
        rw[this];rfl';exact done ef _ _ _
      · rw[if_neg c] at ef
        have O:ju ((bB p cs wd i).map kM) pr.1=false:=by rw[<-nP,yM,qh];exact c
        rw[O];generalize lq:(fP _ (nU (bz 5) _ _):TS)=tl;rfl';refine au.ev (au.i9 ⋯ rfl ?_);rfl';have V:pr∈ff wd prs:=by rw[z];exact aN.mpr rfl
        have Z:pr∈prs:=(lM.mp V).1;have Y:(prs.filter λu=>decide (u.1=pr.1))=[pr]:=by
          have h5:(ff wd prs).filter (λu=>decide (u.1=pr.1))=[pr]:=by rw[z];simp
          rw[<-h5];unfold ff;rw[List.filter_filter];refine(List.filter_congr λu _=>?_).symm;by_cases e:u.1=pr.1
          · have:=(lM.mp V).2
            rw[<-e] at this;simp[e];simpa[e] using this
          · simp[e]
        refine⟨by rw[ak];omega,λv=>⟨false,λj ds=>ds=((prs.take j).filter λu=>decide (u.1=pr.1)).map λu=>bj u.2,rfl,?_,?_⟩⟩
        · rintro j d ds hd hl' rfl
          obtain⟨u,hu,rfl⟩:=gQ hd;rfl';refine⟨by walk_at "wk",?_⟩;rfl';have ts:=xn hu;by_cases e:u.1=pr.1
          · rw[if_pos (decide_eq_true e)]
            rfl';show _=((prs.take (j+1)).filter λu=>decide (u.1=pr.1)).map λu=>bj u.2;rw[ts,lg,sL (by simpa using e),e7]
            rfl
          · rw[if_neg (by simpa using e)]
            show _=((prs.take (j+1)).filter λu=>decide (u.1=pr.1)).map λu=>bj u.2;rw[ts,lg,q9 (by simpa using e),e7];simp
        · rintro ds hl' rfl
          rw[show(prs.map xk).length=prs.length from ak ..,jQ,Y];rfl';subst lq;refine Sv.FL rfl ?_;rfl';refine Ev.jj Eg ?_;rfl';refine Ev.jj Fo ?_;rfl';refine⟨rfl,p,prs,wd,rfl,∅,∅,N,hW,?_⟩;rfl';have s0:=gP (bQ prs wd) (show p≠0 by omega);have s1:=gM (bQ prs wd) (show 0<p by omega);refine⟨rfl,p,0-bQ prs wd%p,pr.2,rfl,hN.1,i7,C pr Z,∅,∅,λ_=>?_⟩;rfl';refine⟨by rw[ak];omega,?_⟩;show∃(R S l:Sl),(_:Rh)=[Sl.d false (cO p n cs), .d false (eV wd), .d true (.int p), .d true (.int n), .d false (.list (cs.map cN)), .bD A5 true ((bB p cs wd (i+1)).map kM),R,S,l];rw[ef,e7];unfold rz;dsimp only;rw[O,show(0+(i:Int))=i by omega];exact⟨_,_,_,rfl⟩
  · rintro ρ' ⟨R,S,l,rfl⟩
    have hfl:=rJ (p:=p) (cs:=cs) (wd:=wd) ∅ hN.rg (i:=cs.length) (aF _);refine Sv.ret (au.ev (au.i9 ⋯ rfl ?_));refine au.ev (au.El rfl (by rw[ak];omega) λL U k=>?_);rw[qh] at k;obtain⟨ms,rfl,t⟩:=Ed k _ rfl;have hmr:=IC t U;have hml:ms.length<=wd.length:=by rw[t.length_eq];exact hfl
    refine⟨_,rfl,by rw[ak,ak];omega,λv=>⟨true,λi ds=>ds=(ms.take i).map oN,rfl,?_,?_⟩⟩
    · rintro i d ds hd hl' rfl
      obtain⟨a,ha,rfl⟩:=gQ hd;obtain⟨m,hm,rfl⟩:=gQ ha;have hv:=AX (l8 (p:=p) (cs:=cs) (wd:=wd) cs.length) (t.mem_iff.mp (c8 hm));rfl';refine⟨by walk_at "wk",?_⟩;rfl';refine Ev.JI rfl ?_;rfl';refine⟨_,hv,λ_=>rfl,?_⟩;show _=df _ (jt (i+1) ms);rw[xn hm,e7]
      rfl
    · rintro ds hl' rfl
      rw[ak,ak,jQ,hmr,tE];exact q
def wI(C:aw):CNF:=λc ds Φ=>∃(x dx l:aw) (p n:Int) (cs:List aC) (wd:Wo),c=aR C x dx (iC (cO p n cs) l wd)/\ds=[]/\jP p cs wd.length/\ja wd/\wd.length<=4000/\Φ (aR C x dx (iC (cO p n cs) l (xl wd (cV p cs wd)))) true ((cV p cs wd).map oN)
theorem Vb{C:aw}:C2 (wI C):=by
 intro c ds Φ Ψ h z;obtain⟨x,dx,l,p,n,cs,wd,e1,e2,h1,h2,h3,q⟩:=h;exact⟨x,dx,l,p,n,cs,wd,e1,e2,h1,h2,h3,z _ _ _ q⟩
theorem rR:cg ["self","found","place","c","letter"] ["self"] (aK pP):=⟨rfl,rfl,rfl,by decide+kernel,rfl,by decide+kernel,by decide+kernel⟩
theorem Rc(F:bN K "step" "Mender.step" pP f fd){aU:aw}(j:dX K aU)(u:fS K aU "net")(r:fS K aU "letters")(v:Callee P w K mg base "round_of" 5 ["net","word"] (cQ 2 AB)):
  bf P w K mg base bG 6 f fd ["self"] (mz 1 (wI aU)):=by
 refine F.ok rR (λvs H Q E h=>h.1) (λcdv A outer s H vs Q E hr h=>?_);obtain⟨nb,c,ws,ds,Φ,rfl,g,k,b,t,D,G,I⟩:=HN h;obtain⟨x,dx,l,p,n,cs,wd,rfl,rfl,hN,hW,hl,q⟩:=I;refine⟨_,(@aB _ _ _ _ _ (@bq _ _ (1) _ _ _ _ rR.nd rfl (a5 rfl) (@aV _ _ _ _ _ _ _ _ _ _ v (hr.mono ⋯) (@aa _ _ _ _ _ (@sY _ _ _ _ _ (pv 0) rfl) (@aa _ _ _ _ _ (@sY _ _ _ _ _ (pv 0) rfl) aj rfl) rfl) (by rfl) ⋯ (by rfl) (by rfl)) (by rfl) (by first|exact .inl rfl|exact .inr rfl|assumption)) (@aB _ _ _ _ _ (@k7 _ _ _ _ _ _ _ _ jy rfl (gm (K:=K) rfl (pv 1)) (@ku _ (K) _ _ _ (3) _ rfl rfl (@dg _ _ _ _ _ (aY (i:=2) rR.nd rfl (a5 rfl)) (@dg _ _ _ _ _ (aY (i:=3) rR.nd rfl (a5 rfl)) (@dg _ _ _ _ _ (aY (i:=4) rR.nd rfl (a5 rfl)) j7 (by rfl)) (by rfl)) (by rfl)) (by rfl) (by rfl)) (@aL _ _ _ (@jr _ _ _ _ _ _ (pv 4) (ly (@sY _ _ _ _ _ (pv 0) rfl) (pv 2) set_list) (by rfl) (by rfl) (by rfl))) (by intro _;rfl)) (@aL _ _ _ (@bh _ _ _ _ (pv 1))))),?_⟩;refine Sv.Ka g k b t D G (ρ:=[.cu _, .no, .no, .no, .no]) rfl ?_;clear G D;have p2:=hN.1.1;refine Sv.seq ?_;refine Sv.GS (kQ.Rv (kQ.BJ Ss ?_));refine ig.cons (Ev.fld rfl j u rfl ?_);refine ig.fld rfl j r rfl ?_;refine ig.nil ?_;refine⟨rfl,p,n,cs,wd,rfl,hN,hW,hl,rfl,?_⟩;refine⟨_,rfl,λo=>?_⟩;refine Sv.seq ?_;refine Sv.Ry rfl ?_;refine⟨λi ρ=>∃(x2 x3 x4:Sl),ρ=[.cu (aR aU x dx (iC (cO p n cs) l (xl wd ((cV p cs wd).take i)))), .own o true ((cV p cs wd).map oN),x2,x3,x4],?_,⟨_,_,_,rfl⟩,?_,?_⟩;·rintro i ρ ⟨x2,x3,x4,rfl⟩;rfl
 .rintro i d ρ hd ⟨x2,x3,x4,rfl⟩;obtain⟨m,hm,rfl⟩:=gQ hd;obtain⟨b1,b2,b3,b4,b5⟩:=AL ∅ (c8 hm) hN.rg;generalize lq:(fP (bz 4) _:TS)=tl;rfl';subst lq;refine Sv.UX rfl j r rfl ?_;rfl';refine⟨_,m.1.toNat,rfl,HH b1 (by rw[ak,Bb];omega),?_⟩;have e:((xl wd ((cV p cs wd).take i)).map bS).set m.1.toNat (.int m.2.2)=(xl wd ((cV p cs wd).take (i+1))).map bS:=by
   rw[xn hm,GH];show _=((xl wd ((cV p cs wd).take i)).set m.1.toNat (some m.2.2)).map bS;rw[tq]
   rfl
  rw[e,Wf];exact⟨_,_,_,rfl⟩
 .rintro ρ ⟨x2,x3,x4,rfl⟩;rw[ak,jQ];exact Sv.Of rfl ⟨rfl,rfl,λa m=>m⟩ ⋯ rfl q
def x9(C:aw):CNF:=λc ds Φ=>∃(x dx l:aw) (nd:PyData) (wd:Wo),c=aR C x dx (iC nd l wd)/\ds=[]/\Φ (aR C x dx (iC nd l wd)) true (wd.map bS)
theorem SV{C:aw}:C2 (x9 C):=by
 intro c ds Φ Ψ h z;obtain⟨x,dx,l,nd,wd,e1,e2,q⟩:=h;exact⟨x,dx,l,nd,wd,e1,e2,z _ _ _ q⟩
theorem PR:cg ["self"] ["self"] (aK qz):=⟨rfl,rfl,rfl,by decide+kernel,rfl,by decide+kernel,by decide+kernel⟩
theorem Vw(F:bN K "word" "Mender.word" qz f fd){aU:aw}(j:dX K aU)(r:fS K aU "letters")(dB:mg "list"=none):
  bf P w K mg base bG 1 f fd ["self"] (mz 1 (x9 aU)):=by
 refine F.ok PR (λvs H Q E h=>h.1) (λcdv A outer s H vs Q E hr h=>?_);obtain⟨nb,c,ws,ds,Φ,rfl,g,k,b,t,D,G,I⟩:=HN h;obtain⟨x,dx,l,nd,wd,rfl,rfl,q⟩:=I;refine⟨_,(@aL _ _ _ (@bh _ _ _ _ (@kZ _ _ _ _ _ _ _ _ (jV K) o4 rfl dB jR (@aa _ _ _ _ _ (@sY _ _ _ _ _ (pv 0) rfl) aj rfl) ⋯ ⋯ (by rfl) (by rfl)))),?_⟩;refine Sv.Ka g k b t D G (ρ:=[.cu _]) rfl ?_;clear G D;refine Sv.VP (k9.o6 (au.Mt rfl j r rfl ?_));rw[Jt];exact⟨_,rfl,⟨rfl,rfl,λa m=>m⟩,q⟩
def sX(C:aw):CF:=λc ds Φ=>∃(x dx l:aw) (nd:PyData) (wd:Wo),c=aR C x dx (iC nd l wd)/\ds=[]/\wd.length<=10000/\Φ (aR C x dx (iC nd l wd)) true (.list ((qi wd).map .int))
theorem Mm{C:aw}:rC (sX C):=by
 intro c ds Φ Ψ h z;obtain⟨x,dx,l,nd,wd,e1,e2,h1,q⟩:=h;exact⟨x,dx,l,nd,wd,e1,e2,h1,z _ _ _ q⟩
theorem PB:cg ["self"] ["self"] (aK p8):=⟨rfl,rfl,rfl,by decide+kernel,rfl,by decide+kernel,by decide+kernel⟩
theorem Ti(F:bN K "lost" "Mender.lost" p8 f fd){aU:aw}(j:dX K aU)(r:fS K aU "letters")(e:Callee P w K mg base "lost_of" 1 ["word"] (cQ 1 zU)):
  bf P w K mg base bG 2 f fd ["self"] (l6 1 (sX aU)):=by
 refine F.ok PB (λvs H Q E h=>h.1) (λcdv A outer s H vs Q E hr h=>?_);obtain⟨_,nb,c,ws,ds,rfl,g,k,b,t,D,I⟩:=h;obtain⟨Φ,G,I⟩:∃Φ:Cu->Pd,(∀c' f d v H',Φ c' f d->lN c c' H H'->c'.P (λa=>nb a\/a∈c'.F) H'->ah (λa=>nb a\/a∈c'.F\/(f=true/\H a≠none)) H' d v->Q v H')/\sX aU c ds Φ:=⟨_,λc' f d v H' q=>q v H',I⟩;obtain⟨x,dx,l,nd,wd,rfl,rfl,hl,q⟩:=I;refine⟨_,(@aL _ _ _ (@bh _ _ _ _ (@aV _ _ _ _ _ _ _ _ _ _ e (hr.mono ⋯) (@aa _ _ _ _ _ (@sY _ _ _ _ _ (pv 0) rfl) aj rfl) (by rfl) ⋯ (by rfl) (by rfl)))),?_⟩;refine Sv.LD g k b t D G (ρ:=[.cu _]) rfl ?_;clear G D;refine Sv.SM (iR.of ?_);refine Ev.BJ N6 ?_;refine ig.fld rfl j r rfl ?_;refine ig.nil ?_;refine⟨rfl,wd,rfl,hl, .inl rfl,?_⟩;intro ay v' H' hv;exact⟨_,_,_,rfl,⟨rfl,rfl,λa m=>m⟩,q,hv⟩
noncomputable def SO(c a0:aw)(bs:List aw)(p n:Int)(cs:List aC)(l:aw)(wd:Wo):Fs:=[("net", .cu (xp (.ref c) false (gF c a0 bs (.int p) (.int n) (eT cs)))),("letters", .cu (jd l (wd.map bS)))]
def rj(C:aw):CF:=λc ds Φ=>∃(x dx:aw) (p n:Int) (cs:List aC) (wd:Wo),c=aR C x dx []/\ds=[cO p n cs,eV wd]/\cs.length<=10000/\(∀prs∈cs,prs.length<=10000)/\∀c0 a0 bs l,(c0::a0::bs).Nodup->bs.length=(eT cs).length->Φ (aR C x dx (SO c0 a0 bs p n cs l wd)) true .none
theorem RI{C:aw}:rC (rj C):=by
 intro c ds Φ Ψ h z;obtain⟨x,dx,p,n,cs,wd,e1,e2,h1,h2,q⟩:=h;exact⟨x,dx,p,n,cs,wd,e1,e2,h1,h2,λc0 a0 bs l y w=>z _ _ _ (q c0 a0 bs l y w)⟩
theorem Vj:cg ["self","net","word"] ["self","net","word"] (aK qv):=⟨rfl,rfl,rfl,by decide+kernel,rfl,by decide+kernel,by decide+kernel⟩
theorem Qz(F:bN K "__init__" "Mender.__init__" qv f fd){aU:aw}(j:dX K aU)(u:fS K aU "net")(r:fS K aU "letters")(e:Callee P w K mg base "copied" 1 ["net"] (m5 1 vd))(dB:mg "list"=none):
  bf P w K mg base bG 2 f fd ["self","net","word"] (l6 3 (rj aU)):=by
 refine F.ok Vj (λvs H Q E h=>h.1) (λcdv A outer s H vs Q E hr h=>?_);obtain⟨_,nb,c,ws,ds,rfl,g,k,b,t,D,I⟩:=h;obtain⟨Φ,G,I⟩:∃Φ:Cu->Pd,(∀c' f d v H',Φ c' f d->lN c c' H H'->c'.P (λa=>nb a\/a∈c'.F) H'->ah (λa=>nb a\/a∈c'.F\/(f=true/\H a≠none)) H' d v->Q v H')/\rj aU c ds Φ:=⟨_,λc' f d v H' q=>q v H',I⟩;obtain⟨x,dx,p,n,cs,wd,rfl,rfl,hl,o,q⟩:=I;refine⟨_,(@aB _ _ _ _ _ (@IZ _ _ _ _ _ _ _ _ (pv 0) (@aV _ _ _ _ _ _ _ _ _ _ e (hr.mono ⋯) (@aa _ _ _ _ _ (pv 1) aj rfl) (by rfl) ⋯ (by rfl) (by rfl)) rfl) (@aL _ _ _ (@IZ _ _ _ _ _ _ _ _ (pv 0) (@kZ _ _ _ _ _ _ _ _ (jV K) o4 rfl dB jR (@aa _ _ _ _ _ (pv 2) aj rfl) ⋯ ⋯ (by rfl) (by rfl)) rfl))),?_⟩;refine Sv.LD g k b t D G (ρ:=[.cu _, .d false _, .d false _]) rfl ?_;clear G D;refine Sv.seq ?_;refine Sv.U4 NT rfl j u rfl ⋯ ?_;rfl';refine⟨rfl,p,n,cs,rfl,hl,o,λc0 a0 bs hn lT M=>?_⟩;refine Sv.Uu rfl j r rfl (Hv rfl) ?_;refine au.listOf ?_;rfl';intro l
 exact⟨_,rfl,⟨rfl,rfl,λa m=>by
  have m:a∈[x,dx]:=m;show a∈x::dx::_;rcases aA.mp m with z|m
  .rw[z];exact bY
  .rw[aN.mp m];exact bA _ bY⟩,q c0 a0 bs l hn lT⟩
theorem OA(wd:Wo)(h:wd.length<=10000):rS (n+2) (eV wd):= .inr ⟨_, .inl rfl,by rw[ak];exact h,λe he=>by
 obtain⟨o,_,rfl⟩:=fk.mp he;cases o<;>exact .inl rfl⟩
theorem Vc(ns:List Int)(h:ns.length<=10000):rS (n+2) (.list (ns.map .int)):= .inr ⟨_, .inl rfl,by rw[ak];exact h,λe he=>by
 obtain⟨o,_,rfl⟩:=fk.mp he;exact .inl rfl⟩
theorem Xr(ms:List gp)(h:ms.length<=10000):rS (n+3) (pN ms):= .inr ⟨_, .inl rfl,by rw[ak];exact h,λe he=>by
 obtain⟨m,_,rfl⟩:=fk.mp he
 exact .inr ⟨_, .inr rfl,(by decide:3<=10000),λe he=>by
  rcases aA.mp he with rfl|he
  .exact .inl rfl
  rcases aA.mp he with rfl|he
  .exact .inl rfl
  rcases aA.mp he with rfl|he
  .exact .inl rfl
  .cases he⟩⟩
noncomputable abbrev tM(a:aw)(p w r:Int)(os:List Int)(cs:List aC)(s7 s8 s9 MI Qt s12 TZ Nd US VB Xu:Sl):Rh:=[.raw (.ref a), .ao, .d true (.int p), .d true (.int w), .d true (.int r), .d false (.list (os.map .int)), .d false (cO p os.length cs),s7,s8,s9,MI,Qt,s12,TZ,Nd,US,VB,Xu]
theorem gn:cg ["script","bag","p","way","rounds","whole","net","word","handed","mender","pairs","k","due","found","place","c","letter","told"] ["script"] (aK l5):=⟨rfl,rfl,rfl,by decide+kernel,rfl,by decide+kernel,by decide+kernel⟩
theorem Mr(F:bN K "law" "law" l5 f fd){aU:aw}(R4:mU P w K mg base aU "step" 6 ["self"] (mz 1 (wI aU)))(PN:mU P w K mg base aU "word" 1 ["self"] (mz 1 (x9 aU)))(X6:mU P w K mg base aU "lost" 2 ["self"] (l6 1 (sX aU)))(U9:AH P w K mg base aU "Mender" 2 ["self","net","word"] (l6 3 (rj aU)))(Qg:Callee P w K mg base "_law_bag" 1 ["script"] (FH K))(UH:Callee P w K mg base "_law_prime" 2 ["bag"] (dM 1 zc))(J:Callee P w K mg base "_law_draw" 1 ["bag","many"] i6)(MQ:Callee P w K mg base "_law_letters" 3 ["bag","p","n"] (dM 3 Bl))(Wn:Callee P w K mg base "_law_any" 5 ["bag","p","word","many","wide"] (dM 5 C6))(L4:Callee P w K mg base "_law_lossy" 2 ["bag","word"] (dM 2 D0))(Xc:Callee P w K mg base "_law_copy" 1 ["net"] (m5 1 wK))(Vm:Callee P w K mg base "_law_round" 2 ["net","word"] (cQ 2 BB))(rY:Callee P w K mg base "_law_alike" 3 ["found","due"] (cQ 2 (oX 3)))(Ma:Callee P w K mg base "_law_lost" 1 ["word"] (cQ 1 z7))(cy:mg "range"=none)(dB:mg "list"=none):
  bf P w K mg base bG 7 f fd ["script"] (yt K):=by
 refine F.ok gn (λvs H Q E h=>?_) (λcdv A outer s H vs Q E hr h=>?_)
 .obtain⟨a,ns,rfl,N,hl,q⟩:=h
  rfl
 obtain⟨a,ns,rfl,N,hl,q⟩:=h;refine⟨_,(@aB _ _ _ _ _ (@bq _ _ (1) _ _ _ _ gn.nd rfl (a5 rfl) (@aV _ _ _ _ _ _ _ _ _ _ Qg (hr.mono ⋯) (@aa _ _ _ _ _ (pv 0) aj rfl) (by rfl) ⋯ (by rfl) (by rfl)) (by rfl) (by first|exact .inl rfl|exact .inr rfl|assumption)) (@aB _ _ _ _ _ (@bq _ _ (2) _ _ _ _ gn.nd rfl (a5 rfl) (@aV _ _ _ _ _ _ _ _ _ _ UH (hr.mono ⋯) (@aa _ _ _ _ _ (pv 1) aj rfl) (by rfl) ⋯ (by rfl) (by rfl)) (by rfl) (by first|exact .inl rfl|exact .inr rfl|assumption)) (@aB _ _ _ _ _ (@bq _ _ (3) _ _ _ _ gn.nd rfl (a5 rfl) (@aV _ _ _ _ _ _ _ _ _ _ J (hr.mono ⋯) (@aa _ _ _ _ _ (pv 1) (@aa _ _ _ _ _ ai aj rfl) rfl) (by rfl) ⋯ (by rfl) (by rfl)) (by rfl) (by first|exact .inl rfl|exact .inr rfl|assumption)) (@aB _ _ _ _ _ (@bq _ _ (4) _ _ _ _ gn.nd rfl (a5 rfl) (@aI _ _ _ _ _ _ _ _ gk ai (@aV _ _ _ _ _ _ _ _ _ _ J (hr.mono ⋯) (@aa _ _ _ _ _ (pv 1) (@aa _ _ _ _ _ ai aj rfl) rfl) (by rfl) ⋯ (by rfl) (by rfl))) (by rfl) (by first|exact .inl rfl|exact .inr rfl|assumption)) (@aB _ _ _ _ _ (@bq _ _ (5) _ _ _ _ gn.nd rfl (a5 rfl) (@aV _ _ _ _ _ _ _ _ _ _ MQ (hr.mono ⋯) (@aa _ _ _ _ _ (pv 1) (@aa _ _ _ _ _ (pv 2) (@aa _ _ _ _ _ (@aI _ _ _ _ _ _ _ _ gk (@aH _ _ _ _ _ _ (cM K) bE (@jw _ _ _ _ (@p6 _ _ _ rfl)) (pv 3) (λ_ _=>rfl)) (@aV _ _ _ _ _ _ _ _ _ _ J (hr.mono ⋯) (@aa _ _ _ _ _ (pv 1) (@aa _ _ _ _ _ (@aH _ _ _ _ _ _ (cM K) bE (@jw _ _ _ _ (@p6 _ _ _ rfl)) (pv 3) (λ_ _=>rfl)) aj rfl) rfl) (by rfl) ⋯ (by rfl) (by rfl))) aj rfl) rfl) rfl) (by rfl) ⋯ (by rfl) (by rfl)) (by rfl) (by first|exact .inl rfl|exact .inr rfl|assumption)) (@aB _ _ _ _ _ (@bq _ _ (6) _ _ _ _ gn.nd rfl (a5 rfl) (@aV _ _ _ _ _ _ _ _ _ _ Wn (hr.mono ⋯) (@aa _ _ _ _ _ (pv 1) (@aa _ _ _ _ _ (pv 2) (@aa _ _ _ _ _ (pv 5) (@aa _ _ _ _ _ (@aV _ _ _ _ _ _ _ _ _ _ J (hr.mono ⋯) (@aa _ _ _ _ _ (pv 1) (@aa _ _ _ _ _ (@aH _ _ _ _ _ _ (cM K) bE (@jw _ _ _ _ (@p6 _ _ _ rfl)) (pv 3) (λ_ _=>rfl)) aj rfl) rfl) (by rfl) ⋯ (by rfl) (by rfl)) (@aa _ _ _ _ _ (@aI _ _ _ _ _ _ _ _ gk ai (@aV _ _ _ _ _ _ _ _ _ _ J (hr.mono ⋯) (@aa _ _ _ _ _ (pv 1) (@aa _ _ _ _ _ ai aj rfl) rfl) (by rfl) ⋯ (by rfl) (by rfl))) aj rfl) rfl) rfl) rfl) rfl) (by rfl) ⋯ (by rfl) (by rfl)) (by rfl) (by first|exact .inl rfl|exact .inr rfl|assumption)) (@aB _ _ _ _ _ (@bq _ _ (7) _ _ _ _ gn.nd rfl (a5 rfl) (@aV _ _ _ _ _ _ _ _ _ _ L4 (hr.mono ⋯) (@aa _ _ _ _ _ (pv 1) (@aa _ _ _ _ _ (pv 5) aj rfl) rfl) (by rfl) ⋯ (by rfl) (by rfl)) (by rfl) (by first|exact .inl rfl|exact .inr rfl|assumption)) (@aB _ _ _ _ _ (@bq _ _ (8) _ _ _ _ gn.nd rfl (a5 rfl) (@gJ _ _ _ _ _ (@aa _ _ _ _ _ (@aV _ _ _ _ _ _ _ _ _ _ Xc (hr.mono ⋯) (@aa _ _ _ _ _ (pv 6) aj rfl) (by rfl) ⋯ (by rfl) (by rfl)) (@aa _ _ _ _ _ (@kZ _ _ _ _ _ _ _ _ (jV K) o4 rfl dB jR (@aa _ _ _ _ _ (pv 7) aj rfl) ⋯ ⋯ (by rfl) (by rfl)) aj rfl) rfl)) (by rfl) (by first|exact .inl rfl|exact .inr rfl|assumption)) (@aB _ _ _ _ _ (@bq _ _ (9) _ _ _ _ gn.nd rfl (a5 rfl) (@RJ _ _ _ _ _ _ _ _ _ _ _ U9 (hr.mono ⋯) (@aa _ _ _ _ _ (@aH _ _ _ _ _ _ (cY K) dW (pv 8) ai (λ_ _=>rfl)) (@aa _ _ _ _ _ (@aH _ _ _ _ _ _ (cY K) dW (pv 8) ai (λ_ _=>rfl)) aj rfl) rfl) (by rfl) ⋯ (by rfl) (by rfl)) (by rfl) (by first|exact .inl rfl|exact .inr rfl|assumption)) (@aB _ _ _ _ _ (@fj _ _ _ _ _ _ _ _ (PW.pt (ve (@bI _ _ _ _ _ _ _ _ (zA hr.units) (@aH _ _ _ _ _ _ (cY K) dW (pv 8) ai (λ_ _=>rfl)) (pv 6) (bC _)) (vP (@bI _ _ _ _ _ _ _ _ (zA hr.units) (@aH _ _ _ _ _ _ (cY K) dW (pv 8) ai (λ_ _=>rfl)) (pv 7) (bC _))))) (@aL _ _ _ (@bh _ _ _ _ oF)) fy) (@aB _ _ _ _ _ (@k7 _ _ _ _ _ _ _ _ jy rfl (gm (K:=K) rfl (@aH _ _ _ _ _ _ (cY K) dW (@aH _ _ _ _ _ _ (cY K) dW (pv 8) ai (λ_ _=>rfl)) ai (λ_ _=>rfl))) (aY (i:=10) gn.nd rfl (a5 rfl)) (@aL _ _ _ (@oA _ _ _ _ (rX nL sA qI qU (pv 10)) (by rfl))) (by intro _;rfl)) (@aB _ _ _ _ _ (@oA _ _ _ _ (rX nL sA qI qU (@aH _ _ _ _ _ _ (cY K) dW (@aH _ _ _ _ _ _ (cY K) dW (pv 8) ai (λ_ _=>rfl)) ai (λ_ _=>rfl))) (by rfl)) (@aB _ _ _ _ _ (@oA _ _ _ _ (rX nL sA qI qU (@aH _ _ _ _ _ _ (cY K) dW (pv 8) ai (λ_ _=>rfl))) (by rfl)) (@aB _ _ _ _ _ (@k7 _ _ _ _ _ _ _ _ jy rfl (@jZ _ _ _ _ _ _ rfl cy (@aa _ _ _ _ _ (pv 4) aj rfl) (by rfl)) (aY (i:=11) gn.nd rfl (a5 rfl)) (@aB _ _ _ _ _ (@bq _ _ (12) _ _ _ _ gn.nd rfl (a5 rfl) (@aV _ _ _ _ _ _ _ _ _ _ Vm (hr.mono ⋯) (@aa _ _ _ _ _ (pv 6) (@aa _ _ _ _ _ (pv 7) aj rfl) rfl) (by rfl) ⋯ (by rfl) (by rfl)) (by rfl) (by first|exact .inl rfl|exact .inr rfl|assumption)) (@aB _ _ _ _ _ (@bq _ _ (13) _ _ _ _ gn.nd rfl (a5 rfl) (@AG _ _ _ _ _ _ _ _ _ _ _ R4 (pv 9) (hr.mono ⋯) (by rfl)) (by rfl) (by first|exact .inl rfl|exact .inr rfl|assumption)) (@aB _ _ _ _ _ (@fj _ _ _ _ _ _ _ _ (@xu _ _ _ _ (@sP _ (K) _ _ rfl (@aV _ _ _ _ _ _ _ _ _ _ rY (hr.mono ⋯) (@aa _ _ _ _ _ (pv 13) (@aa _ _ _ _ _ (pv 12) aj rfl) rfl) (by rfl) ⋯ (by rfl) (by rfl)) (λ_=>rfl))) (@aL _ _ _ (@bh _ _ _ _ oF)) fy) (@aB _ _ _ _ _ (@fj _ _ _ _ _ _ _ _ (@bI _ _ _ _ _ _ _ _ gD (@aV _ _ _ _ _ _ _ _ _ _ J (hr.mono ⋯) (@aa _ _ _ _ _ (pv 1) (@aa _ _ _ _ _ ai aj rfl) rfl) (by rfl) ⋯ (by rfl) (by rfl)) ai (bC _)) (@aL _ _ _ (@oA _ _ _ _ (rX nL sA qI qU (pv 13)) (by rfl))) fy) (@aB _ _ _ _ _ (@oA _ _ _ _ (Lo nL KJ JQ Cy (pv 13) (@aa _ _ _ _ _ (@gJ _ _ _ _ _ (@p6 _ _ _ rfl)) aj rfl)) (by rfl)) (@aB _ _ _ _ _ (@k7 _ _ _ _ _ _ _ _ jy rfl (gm (K:=K) rfl (pv 12)) (@ku _ (K) _ _ _ (3) _ rfl rfl (@dg _ _ _ _ _ (aY (i:=14) gn.nd rfl (a5 rfl)) (@dg _ _ _ _ _ (aY (i:=15) gn.nd rfl (a5 rfl)) (@dg _ _ _ _ _ (aY (i:=16) gn.nd rfl (a5 rfl)) j7 (by rfl)) (by rfl)) (by rfl)) (by rfl) (by rfl)) (@aL _ _ _ (@jr _ _ _ _ _ _ (pv 16) (ly (pv 7) (pv 14) set_list) (by rfl) (by rfl) (by rfl))) (by intro _;rfl)) (@aB _ _ _ _ _ (@bq _ _ (17) _ _ _ _ gn.nd rfl (a5 rfl) (@AG _ _ _ _ _ _ _ _ _ _ _ PN (pv 9) (hr.mono ⋯) (by rfl)) (by rfl) (by first|exact .inl rfl|exact .inr rfl|assumption)) (@aB _ _ _ _ _ (@fj _ _ _ _ _ _ _ _ (PW.pt (ve (@xu _ _ _ _ (@sP _ (K) _ _ rfl (@aV _ _ _ _ _ _ _ _ _ _ rY (hr.mono ⋯) (@aa _ _ _ _ _ (pv 17) (@aa _ _ _ _ _ (pv 7) aj rfl) rfl) (by rfl) ⋯ (by rfl) (by rfl)) (λ_=>rfl))) (vP (@xu _ _ _ _ (@sP _ (K) _ _ rfl (@aV _ _ _ _ _ _ _ _ _ _ rY (hr.mono ⋯) (@aa _ _ _ _ _ (@AG _ _ _ _ _ _ _ _ _ _ _ X6 (pv 9) (hr.mono ⋯) (by rfl)) (@aa _ _ _ _ _ (@aV _ _ _ _ _ _ _ _ _ _ Ma (hr.mono ⋯) (@aa _ _ _ _ _ (pv 7) aj rfl) (by rfl) ⋯ (by rfl) (by rfl)) aj rfl) rfl) (by rfl) ⋯ (by rfl) (by rfl)) (λ_=>rfl)))))) (@aL _ _ _ (@bh _ _ _ _ oF)) fy) (@aL _ _ _ (@oA _ _ _ _ (rX nL sA qI qU (pv 17)) (by rfl))))))))))) (by intro _;rfl)) (@aL _ _ _ (@bh _ _ _ _ oF)))))))))))))))),?_⟩;walk_at "st";refine⟨a,ns,rfl,N,hl,λb l H1 s1 B B1=>?_⟩;have n6:=s1.seq N;have key:∀(t:TS) (D:Ends),(∀H,D.rt (.bl true) H)->Sv (zu b l H1) [.raw (.ref a), .ao, .no, .no, .no, .no, .no, .no, .no, .no, .no, .no, .no, .no, .no, .no, .no, .no] t {nx:=λ_=>False,rt:=λ_ d=>d= .bool true}->t D [some (.ref a),some (.ref b),none,none,none,none,none,none,none,none,none,none,none,none,none,none,none,none] H1:=λt D d2 h=>h _ _ _ D (Yk (m:=16) B1) (Nh d2);refine R.LJ ?_;dsimp only;refine key _ _ (λH=>?_) ?_;·exact q _
 clear key q;rfl';refine Ev.iT O4 rfl ?_;rfl';refine⟨rfl,λp hp i7 Z=>?_⟩;have p2:=hp.1;rfl';intro w w0 w1;rfl';intro r r0 r1;rfl';refine Ev.iT Qp rfl ?_;rfl';obtain⟨m,em,V,m1⟩:=pick (L:=[1,1,1,21]) w0 (by show w<4;omega) (λx=>1<=x/\x<=21) ⋯;refine⟨_,em,?_⟩;rfl';obtain⟨m2,L5,YE,Zb⟩:=pick (L:=[10,10,10,380]) w0 (by show w<4;omega) (λx=>1<=x/\x<=380) ⋯;refine⟨_,L5,_,rfl,∅,by unfold Sm;omega,λu u0 u1=>⟨_,rfl,?_⟩⟩;rfl';refine⟨rfl,p,m+u,rfl,p2,i7,∅,∅,λos U S=>?_⟩;have n:(os.map bj).length=os.length:=ak ..;rfl';refine Ev.iT RE rfl ?_;rfl';obtain⟨m3,S9,Zf,Zk⟩:=pick (L:=[9,25,9,121]) w0 (by show w<4;omega) (λx=>1<=x/\x<=121) ⋯;refine⟨_,S9,_,rfl,∅,by unfold Sm;omega,λy y0 Y=>?_⟩;rfl';intro z z0 z1;refine⟨_,rfl,?_⟩;rfl';refine⟨rfl,p,y,2+z,os,rfl,hp,i7,∅,∅,S,∅,∅,∅,∅,λcs fc hcl hN=>?_⟩;refine Gv.zk ?_;refine Sv.seq (Sv.Yl (kQ.iT Rl rfl ?_));rfl';refine⟨rfl,os,rfl,∅,λiK mS=>⟨rfl, .inl ⟨_,rfl,λA7=>?_⟩⟩⟩;obtain⟨hwl,K5⟩:=mS;have hwl:iK.length=os.length:=hwl;have hr0:ja iK:=λx m=>by
  obtain⟨j,hj⟩:=kI m;have:=S x (c8 (K5 j x hj));unfold Sm;omega
 have o:∀prs∈cs,prs.length<=10000:=λprs m=>by have:=(hN.2.2.2 prs m).1;omega
 rw[<-hwl] at hN;clear K5;refine Sv.seq (Sv.W6 Ni ?_);rfl';refine⟨rfl,p,os.length,cs,rfl,∅,o,λc0 a0 bs hn lT=>⟨c0,rfl,au.UW rfl λc b hcb hc hb M=>?_⟩⟩;obtain⟨O,htu,A6⟩:=WO (wd:=iK) hcb hc hb hn lT;clear hcb hc hb M hn lT;show Sv _ _ _ _;refine Sv.seq (Sv.MO RI 8 rfl A6 ?_);rfl';refine⟨rfl,λx dx=>⟨x,dx,p,os.length,cs,iK,rfl,rfl,∅,o,λc1 a1 YU g hn1 I=>⟨rfl,XO htu I rfl rfl (UT cs) (Jt iK),?_⟩⟩⟩;refine Sv.TF 9 "net" rfl rfl (R6 hn1 I) ?_;clear hn1 I;show Sv _ (tM a p w (1+r) os cs (.own A7 true (iK.map bS)) (.cu (xp (.ref c) false (hdL c b c0 a0 bs p os.length cs iK))) (.cu (aR aU x dx (iC (cO p os.length cs) g iK))) .no .no .no .no .no .no .no .no) _ _;refine Sv.seq (Sv.nX (Tv.UB 8 rfl A6 (Tv.lend 7 rfl ?_)));rfl';refine⟨BE _ _ _,BE _ _ _,_,rfl,?_⟩;rw[eqv_refl _ (.inl (BE _ _ _)),if_neg ⋯];rfl';refine⟨AS _,AS _,_,rfl,?_⟩;rw[show eh (.list (iK.map bS)) (.list (iK.map bS))=true from eqv_refl _ (.inl (AS _)),if_neg ⋯];refine Sv.next ?_
 obtain⟨Y,T,h0⟩:=O.h0;refine Sv.seq (Sv.forA (i:=8) rfl (gh.iI (i:=8) rfl (gh.iI (i:=8) rfl (gh.root (i:=8) rfl (Ev.int ⟨0,_,_,rfl,O.hc,rfl,Ev.int ⟨2,_,_,rfl,h0,rfl,?_⟩⟩)))));generalize hdL c b c0 a0 bs p os.length cs iK=L0 at*;refine⟨bs,O.ha,λm ρ=>∃(L:bW) (oG:Sl),ρ=tM a p w (1+r) os cs (.own A7 true (iK.map bS)) (.cu (xp (.ref c) false L)) (.cu (aR aU x dx (iC (cO p os.length cs) g iK))) oG .no .no .no .no .no .no .no/\qO L c b c0 a0 bs,⟨L0,_,rfl,O⟩,?_,?_,?_⟩
 .rintro m ρ ⟨L,oG,rfl,hL⟩;exact⟨8,_,_,L,rfl,hL.ha⟩
 .rintro m k ρ hk ⟨L,oG,rfl,hL⟩;obtain⟨xs,hx⟩:=hL.hs k (c8 hk);refine Sv.zY (i:=8) rfl (gh.raw rfl ⟨xs,hx,?_⟩);exact⟨_,_,rfl,hL.T3 (c8 hk)⟩
 rintro ρ ⟨L,oG,rfl,hL⟩;clear O htu A6 h0;obtain⟨z1,z2,h0⟩:=hL.h0;refine Sv.seq (Sv.zY (i:=8) rfl (gh.iI (i:=8) rfl (gh.iI (i:=8) rfl (gh.root (i:=8) rfl (Ev.int ⟨0,_,_,rfl,hL.hc,rfl,Ev.int ⟨2,_,_,rfl,h0,rfl,_,hL.ha,?_⟩⟩)))));have X:c≠a0:=λz=>by have:=hL.ha;rw[<-z,hL.hc] at this;cases this
 obtain⟨xb,hb⟩:=hL.hb;refine Sv.seq (Sv.zY (i:=8) rfl (gh.iI (i:=8) rfl (gh.root (i:=8) rfl (Ev.int ⟨1,_,_,rfl,(mR X).trans hL.hc,rfl,_,(mR hL.nb).trans hb,?_⟩))));generalize jC (jC L a0 (.lst [])) b (.lst [])=L';clear hL h0 X hb;refine Sv.seq (Sv.uQ ?_);rfl';refine⟨λi ρ=>∃(wd:Wo) (f7:Bool) (zR yY BP nu G W rT:Sl),ρ=tM a p w (1+r) os cs (.own A7 f7 (wd.map bS)) (.cu (xp (.ref c) false L')) (.cu (aR aU x dx (iC (cO p os.length cs) g wd))) oG zR yY BP nu G W rT/\jP p cs wd.length/\ja wd/\wd.length=os.length,⟨iK,_,_,_,_,_,_,_,_,rfl,hN,hr0,hwl⟩,?_,?_⟩
 .clear hN hr0 hwl;rintro i d ρ ⟨hi,rfl⟩ ⟨wd,f7,zR,yY,BP,nu,G,W,rT,rfl,hN,hr,hwl⟩;have hml:(cV p cs wd).length<=400:=by
   have:=(yO p cs wd).length_eq;have:=rJ (p:=p) (cs:=cs) (wd:=wd) ∅ hN.rg (i:=cs.length) (aF _);omega
  refine Gv.tU ?_;refine Sv.seq (Sv.asg ?_);refine Ev.GA Mf ?_;refine iO.cons (Ev.var rfl ?_);refine iO.own rfl ?_;refine iO.nil ?_;refine⟨rfl,p,os.length,cs,wd,rfl,hN,hr,∅, .inl rfl,?_⟩;refine Gv.name ?_;refine Sv.seq (Sv.HG (k9.ID Vb rfl rfl (aR.is rfl) (Av.nil ⟨rfl,x,dx,g,p,os.length,cs,wd,rfl,rfl,hN,hr,∅,λEB=>?_⟩)));refine Sv.seq (Sv.nX (Tv.lend 13 rfl ?_));rfl';refine Ev.jj (tN 3) ?_;rfl';refine⟨rfl,pN (cV p cs wd),rfl,Xr _ ∅,_,rfl,?_⟩;rw[if_neg ⋯];refine Sv.next ?_
  refine Sv.seq ?_;refine Sv.KU (λC=>∃(sQ:Bool) (pI:List PyData),C=tM a p w (1+r) os cs (.own A7 f7 (wd.map bS)) (.cu (xp (.ref c) false L')) (.cu (aR aU x dx (iC (cO p os.length cs) g (xl wd (cV p cs wd))))) oG (.d true (.int (0+(i:Int)))) (.d true (pN (cV p cs wd))) (.own EB sQ pI) nu G W rT/\pI.length<=400) ?_ ?_
  .refine Sv.nX ?_;rfl';intro v v0 v1;rfl';by_cases cv:v=0
   .rw[if_pos (decide_eq_true cv)];refine Sv.clear rfl ?_;exact⟨_,_,rfl,eW _⟩
   .rw[if_neg (by simpa using cv)];refine Sv.next ?_
    exact⟨_,_,rfl,by rw[ak];exact hml⟩
  rintro ρ ⟨sQ,pI,rfl,hl13⟩;refine Sv.seq (Sv.append rfl ?_);rfl';refine Sv.seq (Sv.forL (Ev.var rfl ?_));refine⟨_,rfl,λv=>⟨λj ρ=>∃(g7:Bool) (BL:Bool) (pI:List PyData) (nu G W:Sl),ρ=tM a p w (1+r) os cs (.own A7 g7 ((xl wd ((cV p cs wd).take j)).map bS)) (.cu (xp (.ref c) false L')) (.cu (aR aU x dx (iC (cO p os.length cs) g (xl wd (cV p cs wd))))) oG (.d true (.int (0+(i:Int)))) (.d true (pN (cV p cs wd))) (.own EB BL pI) nu G W rT,⟨_,_,_,_,_,_,rfl⟩,?_,?_⟩⟩
  .rintro j d ρ hd ⟨g7,BL,pI,nu,G,W,rfl⟩;obtain⟨m,hm,rfl⟩:=gQ hd;obtain⟨b1,b2,b3,b4,b5⟩:=AL ∅ (c8 hm) hN.rg;generalize lq:(fP (bz 16) _:TS)=tl;rfl';subst lq;refine Sv.AU rfl ?_;rfl';refine⟨_,m.1.toNat,rfl,HH b1 (by rw[ak,Bb];omega),?_⟩;have e:((xl wd ((cV p cs wd).take j)).map bS).set m.1.toNat (.int m.2.2)=(xl wd ((cV p cs wd).take (j+1))).map bS:=by
    rw[xn hm,GH];show _=((xl wd ((cV p cs wd).take j)).set m.1.toNat (some m.2.2)).map bS;rw[tq]
    rfl
   rw[e];exact⟨_,_,_,_,_,_,rfl⟩
  rintro ρ ⟨g7,BL,l14,nu,G,W,rfl⟩;rw[ak,jQ];have hr2:=Qn hN hr;have Wj:(xl wd (cV p cs wd)).length=wd.length:=Bb;generalize xl wd (cV p cs wd)=wd2 at*;rw[<-Wj] at hN;refine Sv.next ?_
  refine Sv.seq ?_;refine Sv.HG ?_;refine k9.ID SV rfl rfl (aR.is rfl) ?_;refine Av.nil ⟨rfl,x,dx,g,cO p os.length cs,wd2,rfl,rfl,λYC=>?_⟩;refine Sv.seq (Sv.NC (gR.or (gR.not (gR.of (Tv.lend 17 rfl (Tv.lend 7 rfl (Tv.t7 ?_)))))));refine Ev.jj (tN 3) ?_;rfl';refine⟨rfl,eV wd2,rfl,OA _ ∅,_,rfl,?_⟩;rw[if_neg ⋯];refine gR.not (gR.t7 (iR.jj (tN 3) (xH.cons (iR.Ux Mm rfl rfl (aR.is rfl) (Av.nil ?_)))));refine⟨rfl,x,dx,g,cO p os.length cs,wd2,rfl,rfl,∅,?_⟩;refine Av.cons (Ev.GA SE (iO.own rfl (iO.nil ?_)));refine⟨rfl,wd2,rfl,∅, .inl rfl,?_⟩;rfl';refine⟨rfl, .list ((qi wd2).map .int),rfl,Vc _ (by have:=SR wd2;omega),_,rfl,?_⟩;rw[if_neg ⋯];refine Sv.next ?_
  refine Sv.clear rfl ?_;exact⟨wd2,_,_,_,_,_,_,_,_,rfl,hN,hr2,∅⟩
 .rintro ρ ⟨wd,f7,zR,yY,BP,nu,G,W,rT,rfl,_⟩;rfl';exact rfl
end
local macro_rules| `(tactic|walk_at "bn")=> `(tactic|(intro _ _ _ _ _ _ us hl;first|(obtain⟨_,h⟩:=HC hl;subst h;rfl)|(obtain⟨_,_,h⟩:=ln2 hl;subst h;rfl)|(obtain⟨_,_,_,h⟩:=EL hl;subst h;rfl)|(obtain⟨_,_,_,_,h⟩:=Jx hl;subst h;rfl)|(obtain⟨_,_,_,_,_,h⟩:=M4 hl;subst h;rfl)|(obtain⟨_,_,_,_,_,_,h⟩:=ln6 hl;subst h;rfl)|(obtain⟨_,_,_,_,_,_,_,h⟩:=ln7 hl;subst h;rfl)))
theorem all_mk:U7:=by
 intro l w K h mg fa f0 f1 f2 f3 f4 f5 f6 f7 f8 f9 JL GR ER sQ K8 GN KR Jm Lf Ej Fb Jq LB LG FJ D7 HA Gb xw pB pZ pT f32 X G Lc Fp C9 IT FI zT zv By vJ C3 Ls Jf Iz Kh JH IA E4 As Hi Gy HB J6 EN Ia Jk Ip Cr Ep Fz EF Lv JG Ew Ku Km zO LF FF JX Ju JZ Gd FY Ly Cv KZ aU vm wC v8 uX vG yf ux lu g8 d0 d1 d2 d3 d4 d5 d6 d7 d8 d9 tS tW xr vV wL wZ vH t6 vq wW vD yG wz xT v7 xR uv t8 vK t9 u6 ug u9 vn uc tV uq wM yJ vo ym tO yo vI ua wQ sZ a32 uu w4 xV qD vX yr u5 yC xG vY ud vz vj uH xJ yk xS xK vB;have e:=Lc.symm.trans (cJ X G vK);cases e;obtain⟨a0,_,F0⟩:=d0;have b0:=F0.binds (ps:=["p","a","b"]) (by walk_at "bn");obtain⟨a1,_,f⟩:=d1;have b1:=f.binds (ps:=["p","b"]) (by walk_at "bn");obtain⟨a2,_,H⟩:=d2;have b2:=H.binds (ps:=["p","pairs","word"]) (by walk_at "bn");obtain⟨g,_,p⟩:=d3;have b3:=p.binds (ps:=["word"]) (by walk_at "bn");obtain⟨a,_,I⟩:=d4;have b4:=I.binds (ps:=["net","word","c"]) (by walk_at "bn");obtain⟨c,_,t⟩:=d5;have b5:=t.binds (ps:=["p","pairs","rest","word"]) (by walk_at "bn");obtain⟨T,_,i⟩:=d6;have b6:=i.binds (ps:=["net","word"]) (by walk_at "bn");obtain⟨a7,_,B⟩:=d7;have b7:=B.binds (ps:=["net"]) (by walk_at "bn");obtain⟨a8,_,x⟩:=d8;have b8:=x.binds (ps:=["script"]) (by walk_at "bn");obtain⟨a9,_,F⟩:=d9;have b9:=F.binds (ps:=["bag","many"]) (by walk_at "bn");obtain⟨Q3,_,D⟩:=tS;have Rq:=D.binds (ps:=["number"]) (by walk_at "bn");obtain⟨VG,_,E⟩:=tW;have XJ:=E.binds (ps:=["bag"]) (by walk_at "bn");obtain⟨Ol,_,C⟩:=xr;have Mw:=C.binds (ps:=["p","a","b"]) (by walk_at "bn");obtain⟨Q,_,u⟩:=vV;have VY:=u.binds (ps:=["p","pairs","word"]) (by walk_at "bn");obtain⟨OW,_,J⟩:=wL;have L1:=J.binds (ps:=["bag","p"]) (by walk_at "bn");obtain⟨Xd,_,L⟩:=wZ;have Pe:=L.binds (ps:=["bag","p"]) (by walk_at "bn");obtain⟨QM,_,y⟩:=vH;have Sz:=y.binds (ps:=["bag","p","n"]) (by walk_at "bn");obtain⟨TH,_,m⟩:=t6;have Sx:=m.binds (ps:=["bag","n","wide"]) (by walk_at "bn");obtain⟨U,_,O⟩:=vq;have Pu:=O.binds (ps:=["bag","p","n","many","wide"]) (by walk_at "bn");obtain⟨V,_,N⟩:=wW;have S4:=N.binds (ps:=["bag","p","word","wide"]) (by walk_at "bn");obtain⟨Y,_,o⟩:=vD;have Nn:=o.binds (ps:=["bag","p","word","many","wide"]) (by walk_at "bn");obtain⟨Sy,_,q⟩:=yG;have Rx:=q.binds (ps:=["bag","p","word","many","wide"]) (by walk_at "bn");obtain⟨XN,_,z⟩:=wz;have WN:=z.binds (ps:=["bag","word"]) (by walk_at "bn");obtain⟨R,_,M⟩:=xT;have NI:=M.binds (ps:=["net"]) (by walk_at "bn");obtain⟨d,_,b⟩:=v7;have xY:=b.binds (ps:=["found","due"]) (by walk_at "bn");obtain⟨NH,_,A⟩:=xR;have Nv:=A.binds (ps:=["pairs","word"]) (by walk_at "bn");obtain⟨XS,_,r⟩:=uv;have W8:=r.binds (ps:=["word"]) (by walk_at "bn");obtain⟨Sa,_,n⟩:=t8;have QI:=n.binds (ps:=["net","word"]) (by walk_at "bn");have OX:=qq (st:=l5) t9 u6 ug;have I0:=qq (st:=qv) uc tV uq;have Ws:=I0.binds (ps:=["self","net","word"]) (by walk_at "bn");have Fg:=qq (st:=pP) vo ym tO;have Wx:=Fg.binds (ps:=["self"]) (by walk_at "bn");have Ky:=qq (st:=qz) ua wQ sZ;have TY:=Ky.binds (ps:=["self"]) (by walk_at "bn");have D8:=qq (st:=p8) w4 xV qD;have Qo:=D8.binds (ps:=["self"]) (by walk_at "bn");have j:dX K aU:=⟨wC,v8,uX,vG⟩;have Dy:=ir X G vX;have sW:=ir X G yr;have qf:=ir X G u5;have BD:=ir X G yC;have lC:=ir X G xG;have iV:=ir X G vY;have bZ:=ir X G ud;have dB:=ir X G vz;have BX:=ir X G vj;have cy:=ir X G uH;have Ci:=ir X G xJ;have lA:=ir X G yk;have o7:=ir X G xS;have yU:=ir X G xK;have pW:=ir X G vB;refine⟨PySem.W.fnOf "law" "law" (jL l5) (jq l5) (aK l5) .none zT zv By C9 vJ C3,λs v=> .of_eq rfl,λbase _ _=>?_⟩;have W9:=Callee.mk' f (V5 (P:=l.prog) (w:=w) (base:=base) f) b1 (cJ X G a1);have Tt:=Callee.mk' F0 (Yo (P:=l.prog) (w:=w) (base:=base) F0 W9) b0 (cJ X G a0);have Pf:=Callee.mk' H (Qc (P:=l.prog) (w:=w) (base:=base) H) b2 (cJ X G a2);have Vu:=Callee.mk' p (We (P:=l.prog) (w:=w) (base:=base) p BD) b3 (cJ X G g);have NV:=Callee.mk' t (QW (P:=l.prog) (w:=w) (base:=base) t Tt Pf bZ) b5 (cJ X G c);have QF:=Callee.mk' I (SJ (P:=l.prog) (w:=w) (base:=base) I NV) b4 (cJ X G a);have Vi:=Callee.mk' i (SD (P:=l.prog) (w:=w) (base:=base) i QF cy bZ lA) b6 (cJ X G T);have OY:=Callee.mk' B (T5 (P:=l.prog) (w:=w) (base:=base) B dB) b7 (cJ X G a7);have Xv:=Callee.mk' x (Rz (P:=l.prog) (w:=w) (base:=base) x Dy) b8 (cJ X G a8);have lK:=Callee.mk' F (OV (P:=l.prog) (w:=w) (base:=base) F bZ) b9 (cJ X G a9);have MY:=Callee.mk' D (Uo (P:=l.prog) (w:=w) (base:=base) D cy) Rq (cJ X G Q3);have T8:=Callee.mk' E (QJ (P:=l.prog) (w:=w) (base:=base) E lK MY) XJ (cJ X G VG);have IP:=Callee.mk' C (Tq (P:=l.prog) (w:=w) (base:=base) C) Mw (cJ X G Ol);have D9:=Callee.mk' u (VT (P:=l.prog) (w:=w) (base:=base) u yU) VY (cJ X G Q);have Xi:=Callee.mk' J (Rj (P:=l.prog) (w:=w) (base:=base) J lK) L1 (cJ X G OW);have JF:=Callee.mk' L (Uc (P:=l.prog) (w:=w) (base:=base) L lK) Pe (cJ X G Xd);have Qq:=Callee.mk' y (SQ (P:=l.prog) (w:=w) (base:=base) y lK Xi cy lC BX) Sz (cJ X G QM);have Jr:=Callee.mk' m (NG (P:=l.prog) (w:=w) (base:=base) m lK lA dB Ci cy) Sx (cJ X G TH);have OB:=Callee.mk' O (Sn (P:=l.prog) (w:=w) (base:=base) O JF Jr lK cy dB bZ) Pu (cJ X G U);have VD:=Callee.mk' N (QA (P:=l.prog) (w:=w) (base:=base) N D9 JF Jr IP bZ) S4 (cJ X G V);have V9:=Callee.mk' o (QK (P:=l.prog) (w:=w) (base:=base) o VD bZ cy) Nn (cJ X G Y);have R7:=Callee.mk' q (Ml (P:=l.prog) (w:=w) (base:=base) q OB lK V9 bZ) Rx (cJ X G Sy);have P5:=Callee.mk' z (O5 (P:=l.prog) (w:=w) (base:=base) z lK) WN (cJ X G XN);have Oo:=Callee.mk' M (NQ (P:=l.prog) (w:=w) (base:=base) M dB) NI (cJ X G R);have Xm:=Callee.void (P:=l.prog) (w:=w) (base:=base) (k:=0) (sp:=cQ 2 (oX 0)) b xY (cJ X G d) XC;have S3:=Callee.mk' b (B3 (P:=l.prog) (w:=w) (base:=base) 0 b Xm iV dB pW sW bZ qf lC o7 cy) xY (cJ X G d);have UG:=Callee.mk' b (B3 (P:=l.prog) (w:=w) (base:=base) 1 b S3 iV dB pW sW bZ qf lC o7 cy) xY (cJ X G d);have QN:=Callee.mk' b (B3 (P:=l.prog) (w:=w) (base:=base) 2 b UG iV dB pW sW bZ qf lC o7 cy) xY (cJ X G d);have Py:=QN;have Th:=Callee.mk' A (VR (P:=l.prog) (w:=w) (base:=base) A) Nv (cJ X G NH);have Q8:=Callee.mk' r (NS (P:=l.prog) (w:=w) (base:=base) r cy bZ) W8 (cJ X G XS);have XF:=Callee.mk' n (Xw (P:=l.prog) (w:=w) (base:=base) n Th IP D9 cy bZ lA) QI (cJ X G Sa);have S:mU l.prog w K mg base aU "step" 6 ["self"] (mz 1 (wI aU)):=⟨j,pZ,_,Rc (P:=l.prog) (w:=w) (base:=base) Fg j lu g8 Vi,Wx,⟨wM,yJ,tO⟩⟩;have Qk:mU l.prog w K mg base aU "word" 1 ["self"] (mz 1 (x9 aU)):=⟨j,pT,_,Vw (P:=l.prog) (w:=w) (base:=base) Ky j g8 dB,TY,⟨yo,vI,sZ⟩⟩;have Wi:mU l.prog w K mg base aU "lost" 2 ["self"] (l6 1 (sX aU)):=⟨j,f32,_,Ti (P:=l.prog) (w:=w) (base:=base) D8 j g8 Vu,Qo,⟨a32,uu,qD⟩⟩;have Z:AH l.prog w K mg base aU "Mender" 2 ["self","net","word"] (l6 3 (rj aU)):=⟨pB,_,Qz (P:=l.prog) (w:=w) (base:=base) I0 j lu g8 OY dB,Ws,⟨yf,u9,vn,ux⟩,cJ X G vm⟩;exact Mr OX S Qk Wi Z Xv T8 lK Qq R7 P5 Oo XF Py Q8 cy dB
end K22
end
section
open PySem PySem.W PyProof.Rows
theorem PySem.Challenge.cw_fewchecks_k22_a_round_holds : PySem.Challenge.rw_fewchecks_k22_a_round.Holds := by
 w_on
 o_law
 k_head
 (case hw=>w_witness2)
 k_fill
 refine K22.walk (l:=PySem.Challenge.rw_fewchecks_k22_a_round) rfl rfl (λw h Y=>PySem.W.kIn_of Y) ?F
 case F=>
  intro w mg fa h KX G hmg
  refine' K22.all_mk KX G hmg ..
  any_goals first|(refine' L2.aS.mk ..;any_goals k_is)|k_is
end
