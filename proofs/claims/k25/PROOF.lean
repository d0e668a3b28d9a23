import PyProof.Rows.All
import Wide.All
import OpenK.AllK
import Wide.FinOn
import Lean
import PyProof.EqAt
import PyProof.EqKinds
import PyProof.TupleCall
import PySem.Challenge.RW_fewchecks_k25_long_chains
set_option Elab.async false
set_option linter.all false
set_option maxHeartbeats 0
set_option maxRecDepth 100000
set_option compiler.extract_closed false
section
local macro_rules | `(tactic| omega) => `(tactic| first | lia | omega (config := {}))
local macro_rules|`(∅)=>`(by omega)
local macro_rules|`(⋯)=>`(by decide)
local macro_rules | `(tactic| rfl') => `(tactic| walk_at "dt")
open And renaming intro->rh
open Array renaming length_toList->gZ,getElem?_toList->wK,getD->e0,map->g4,toList_map->kv,toList_zip->ky,size_push->ml,size_map->my
open Bool renaming false_ne_true->cT,and_eq_true->ez,false_eq_true->kI,eq_iff_iff->mH,or_false->nC,false_or->nL,true_or->yk,bne_false->zz,eq_false_iff->AY
open Classical renaming byContradiction->i9,choose_spec->Ih,choose->km
open False renaming elim->cw
open ForInStep renaming yield->dq
open Int renaming toNat_natCast->ic,emod_nonneg->ig,emod_lt_of_pos->gV,mul_assoc->iY,le_refl->kj,mul_ediv_add_emod->kc,mul_sub->ku,mul_comm->lZ,zero_mul->om,mul_one->xA,zero_add->sA,one_mul->sI,ediv_nonneg->vm,sub_mul->su,mul_add->vH,add_mul->sX,sub_zero->tH,natAbs_dvd_natAbs->uh,mul_le_mul->vg,mul_le_mul_of_nonneg_left->yD,mul_nonneg->Bs,natAbs_mul->Bq,mul_le_mul_of_nonneg_right->Ba,le_of_lt->Cr,lt_trichotomy->An,le_of_dvd->yG,emod_eq_of_lt->yW,ediv_le_self->Ai,emod_eq_zero_of_dvd->C4,eq_ofNat_of_zero_le->CO,gcd_eq_zero_iff->GA,toNat_of_nonneg->GN,gcd->fv,mul_emod_right->h7,gcd_dvd_right->iB,gcd_dvd_left->kl,natCast_mul->lx,toNat->mn,add_zero->oL,mul_neg->p0
open List renaming length_map->ao,getElem?_eq_getElem->aA,mem_singleton->aJ,mem_cons->aO,getElem?_set_ne->br,getD_eq_getElem?_getD->bq,map_cons->bu,getElem?_map->bC,getElem?_eq_some_iff->bG,not_mem_nil->cy,getElem?_set_self->cz,mem_cons_of_mem->cB,length_cons->cH,mem_map->cF,mem_cons_self->cQ,size_toArray->cV,mem_of_getElem?->dz,mem_range->dM,mem_filter->dQ,getElem?_replicate->dR,getElem_mem->dP,lookup_cons->eu,getElem?_append_right->eE,getElem?_append_left->eO,length_set->eG,map_append->eN,nodup_cons->eW,length_append->fq,append_nil->fT,length_range->gI,getElem?_eq_none->gK,mem_append->ia,mem_append_right->iG,ext_getElem?->i6,getElem?_cons_succ->jn,map_map->jl,sum_cons->jk,getElem?_of_mem->jr,cons_append->jI,set_set->j4,take_length->j3,map_nil->lC,any_cons->lQ,find?_cons->lO,mem_append_left->mU,pairwise_map->nN,mergeSort_perm->nB,length_take->oO,length_drop->pF,length_singleton->o6,all_cons->n5,map_congr_left->pR,flatMap_cons->pB,all_eq_true->qu,length_eq_zero_iff->qN,mem_flatMap->qg,mem_map_of_mem->rZ,reverse_cons->uK,getElem?_range->tu,pairwise_iff_getElem->vF,take_of_length_le->sC,append_assoc->vL,pairwise_cons->xq,length_pos_iff->uO,map_set->wJ,filterMap_cons->AO,mem_filterMap->z7,of_mem_zip->Aq,take_add_one->ye,nil_append->BQ,nodup_append->zR,mem_of_mem_take->yr,sum_nil->BY,nodup_nil->zW,filterMap_cons_some->FQ,range_succ_eq_map->HG,getElem?_toArray->JH,filter_cons_of_pos->C2,filter_cons_of_neg->Dv,mem_iff_getElem->JW,pairwise_singleton->G1,flatMap_append->DA,pairwise_mergeSort->EB,mem_or_eq_of_mem_set->EE,length_reverse->Jy,replicate_succ'->Gy,mem_of_mem_drop->DL,idxOf_lt_length_of_mem->Et,not_of_lt_findIdx->Ge,range->a3,replicate->be,Nodup->da,map->dn,lookup->el,length->hF,filter_append->hY,getElem_idxOf->h8,foldl_append->i1,filter_congr->i4,getElem?_set->i5,countP_cons->ko,map_snd_zip->kz,Pairwise->oe,map_drop->ox,take->oP
open List.Nodup renaming length_le_of_subset->jD
open List.Pairwise renaming nil->qA,map->qM
open List.Perm renaming of_eq->rf,swap->rk
open List.cons renaming inj->qE
open Nat renaming le_refl->bh,ne_of_lt->cJ,le_trans->dZ,lt_of_lt_of_le->fJ,zero_le->iE,lt_irrefl->jJ,le_succ->kT,mul_mod->kP,le_of_lt->lH,mul_assoc->q8,mul_comm->rA,lt_succ_of_lt->qD,pow_add->uJ,ne_of_gt->Cb,mul_one->BL,zero_mul->B4,div_add_mod->yS,mod_mod->yj,mod_mod_of_dvd->AH,one_mul->BO,le_of_dvd->zu,lt_or_gt_of_ne->Bb,le_of_ble_eq_true->AU,dvd_of_mod_eq_zero->Gm,Coprime->fu,lt_of_le_of_lt->hV,lt_succ_self->kb,succ_le_succ->ke,mod_eq_of_lt->kf,mul_le_mul->mv,not_lt->mW,le_of_eq->oy,mul_zero->oC,pow_zero->oI,lt_or_ge->oK,log2_lt->pE,pow_mul->p1,pow_mod->p3,gcd->p4,mod_lt->qH
open Nat.Coprime renaming pow_left->pb
open Nat.succ renaming inj->vV
open Ne renaming symm->bX
open Option renaming some_ne_none->gU,map_eq_some_iff->oS,isNone_iff_eq_none->tZ,isSome_iff_exists->xM,isSome_map->zb,getD_none->kd,none->pz
open Option.some renaming inj->fF
open Or renaming inl->aR,inr->ee
open PyProof.Rows renaming boot_list->g9,boot_isinstance->kB,callWith_type1->qw,boot_sorted->BA,boot_tuple->Iu,boot_bool->Gd,boot_int->GB,boot_str->Fc,boot_range->HK,seqObj->bp,listUpdate_at->ei,seqEpoch_at->eI,assignInOrder_cons->eM,IntsAre->ft,subscriptTail_builtinR->fA,AllBare->fI,entry_list_sort->gL,slot_list_sort->hu,args_list_sort->hB,subscriptTail->hU,assignInOrder_nil->ik,size_push'->i3,envOfC->jt,callWith_builtin1->ju,plain_sorted->jO,entry_sorted->j0,args_sorted1->j1,kind_sorted->lL,tuples'->lW,list_sort_plain->l4,get?_update_seq->mc,sortedAll->me,sortedAll_old->oj,boot_abs->oT,boot_all->o3,boot_min->pa
open PySem renaming boot_len->g8,mem_of_lookup->nh,Value->ae,wpAny_bind->ar,Addr->aw,Shared->ax,wpAny_pure->a0,mainGlobals->a4,starEach->ba,Program->bc,model->bg,World->bw,compareOp->cc,Around->cj,wpAny_holding->cx,wpAny_mono->cX,wpAny_truthy_bool->c3,wpAny_passesOwn->c4,Heap->dc,wpAny_eqBool_int->de,Expr->dk,wpAny_ite_split->dy,sysModules->dC,FuncData->dE,NameKind->dG,sizeLine_eq->ea,bootBuiltins->ed,wpAny_Call_Name_kw->eh,assignEach->ej,foldedSetIterable->ek,sliceBounds->en,Stmt->eo,backTo->er,wpAny_newList->et,wpAny_execs_nil->eC,letOwnedTupleGo->eD,codeAny_builtin->eF,wpAny_newObj_type->eR,Scope->fb,wpAny_standAt->fe,binaryOp->fg,keywordEach->fo,wpAny_call_entry->fx,getMethod->gd,codeAny_mono->gq,wpAny_specialOf->gN,builtinLookup_eq_fast->g6,attributeBase->hJ,tupleKind_room_in1->hZ,plainId_quiet->h6,wpAny_assign_Name->ij,wpAny_pyIter_list->il,slot_list_getitem->iq,callerA->ix,valueAt->i2,wpAny_execs_cons->j2,GenState->kA,backToKw->kJ,tupleKind->k4,swapsWith->k6,BindsTo->la,seqIndex?->lh,seqIndex_of->lj,subscripted->lr,typeLookup_type->mf,wpAny_updateSeq->mi,wpAny_bindName->mo,recursionLimit->mr,fitsIndex_both->mu,wpAny_newTuple->mx,builtinsNs->mB,wpAny_Name->mI,assign->mJ,typeLookup->mM,call_meets->mN,checkCount->m3,swapsWithSole->nf,swappedStores->ng,bindName->nr,intBits_le_64->nE,callWith->nZ,evalPart_none->n3,call_list_seq->n4,cellsFrom->oA,cLine->ph,bindL->pq,bindC->px,pyNext->qc,Result->qk,compEnvC->qm,compPost->qs,Model->qS,atKey->ra
open PySem.Around renaming under_plainId->sF,under->je
open PySem.Builtin.Int renaming intBits->hG
open PySem.Builtin.List renaming listExtendWith->cq,listLengthHint->eJ,listSameRef->e6,listItems->fD,listUpdate->ot
open PySem.Builtin.Range renaming rangeSize->nz
open PySem.Calls renaming call_function_entry->BI,Name_function_global->HS,spliced_cons->hM,spliced_nil->ip
open PySem.Code renaming isFrame->js,frames->pk
open PySem.DictEntry renaming refKey->qQ
open PySem.F renaming plainAttrs_list->mG,slot_list_append->qB,type_list_append->rO,plain_extend_loop->yF,plain_list_iadd->G9,slot_dict_get->DG,slot_list_insert->Gr,entry_extend_loop->hH
open PySem.Flow renaming next->q5
open PySem.Heap renaming lt_size->bz,get?_push_of_some->dB,get?_push_size->gH,get?_push_ne->ly,size_update->pP,size_push->sf,get?_update_other->sO,get?_update_ne->wO,get?_update_self->Bt,SameBut->eL
open PySem.Heap.DictOf renaming new->rb
open PySem.Heap.IsSliceOf renaming new->ql
open PySem.NameKind renaming free->bo,cell->hX
open PySem.Obj renaming mapSeq->a9
open PySem.PassesOwn renaming never->iM
open PySem.PyData renaming int->aF,canLayAll0->cf,canLay0->df,depthAll->dr,list->ec,eqv->eA,tuple->gJ,depth->g5,eqvAll->oo,bool->pZ
open PySem.SeqAt renaming canLay_of_shaped->sW,shaped->cK
open PySem.SeqAt.EqAt renaming int_str->p5,str_int->qa
open PySem.Str renaming empty->q7
open PySem.Value renaming ref->bj,type->dA,int->eP,none->eQ,str->fH,bool->hh,isInt_shape->ib,float->kS,isStrOf->m4,isInt->pd,bytes->pf
open PySem.W renaming mg_of->cW,mg_none_of->iT,kia_one->jq,kia_tup->mT,kitx_dict->vo,plainGet_of->B6,methodCall_KW->Bh,kitx_list->Aa,callWith_K->Cd,cellsFrom_some->GV,kat_cons->kQ,kas_rev->l3,kat_yes->oa,kat_item->og,kat_no->qv
open PySem.W.KasT renaming kasWp_bind->qY
open PySem.W.Looks renaming of_pure->n7
open PySem.W.WData renaming int->q9
open PySem.W.WShape renaming has->qx
open StateT renaming run_pure->md
open Sum renaming inl->cm,inr->h9
open Sum.inl renaming inj->Ak
open True renaming intro->cn
open PySem PySem.Spec PyProof.Rows
variable{nb ay:aw->Prop}{a C b acc dx:aw}{pins:List (aw×Obj)}{p:Int}{n i t' j m:Nat}{Q E QQ:ae->ax->Prop}{Θ:Bool->List PyData->Prop}{ds:List PyData}{mp:List (Option Nat)}{α κ:Type}{x qual:Str}{s:ax}{mg mA:Str->Option ae}{B:(Str->Option ae)->dc->Prop}{us vs its:List ae}{w:bw}{d:PyData}{u oc:ae}{N ps NX:List Str}{osl:Array (Option ae)}{pos:Pos}{A:cj}{pr:Int×Int}{h base h':dc}{T:String}{pl:Sem Bool}{scope:fb}{l:PySem.W.OpenLaw}{ws ns row L:List Int}{ch fp:List aw}{M:qS}{fd:dE}{e tg:dk}{I:Nat->List PyData->Prop}{use:Option (ae->Sem Unit)}{g':Array kA}{outer:List Env}{es:List dk}{env:Env}{cells:List (Str×aw)}{d':Drawn}{Ψ:PyData->Prop}{wh:Nat->Nat}
namespace PySem.W.Fast
def tw15867397177247546610:=Nat
def tw13820936412474302030:=Nat
def tw13656543081726693228:=Nat
def tw7645600111318903444:=Nat
def tw10449698435840966560:=Nat
def tw4189357240519700936:=Nat
def tw2292873528570419791:=Nat
def tw10227515597274715818:=Nat
def tw14854700260789770700:=Nat
def tw9144926703095632706:=Nat
def tw5578783533345737660:=Nat
def tw11505418598235908090:=Nat
def tw2084830508687585663:=Nat
def tw737465233394272264:=Nat
def tw7317189651064164677:=Nat
def tw716072744574702966:=Nat
def tw12083052300950001537:=Nat
def tw15035759433239170681:=Nat
def tw971705766675201403:=Nat
def tw6673777579995074224:=Nat
def tw2377586221927169777:=Nat
def tw17938766617873108069:=Nat
def tw10387128687528679978:=Nat
def tw13978141947544907278:=Nat
def tw8653559045394658094:=Nat
def tw9704569939242038:=Nat
def tw2622269705695426788:=Nat
def tw1947390560690819034:=Nat
def tw9907334701251444140:=Nat
def tw11958174812303098523:=Nat
def tw7062012948831370873:=Nat
def tw2898602771172033998:=Nat
def tw7171010821168244480:=Nat
def tw6499741206529162939:=Nat
def tw14808396408626860527:=Nat
def tw8888809276442935371:=Nat
def tw8845466018157870196:=Nat
def tw14568568837216287264:=Nat
def tw7031420601749445799:=Nat
def tw8744550540838605357:=Nat
def tw8962616108744731801:=Nat
def tw11942972116501006689:=Nat
def tw6199116347273636094:=Nat
def tw7325478973488339934:=Nat
def tw2719006565863353905:=Nat
def tw10509183766992331475:=Nat
def tw15288746973456082023:=Nat
def tw2779343917163412429:=Nat
def tw17826406489767014780:=Nat
def tw15910106374403289495:=Nat
def tw12769462411684913264:=Nat
def tw335905287905950492:=Nat
def tw2720340132768635387:=Nat
def tw17508123235531689733:=Nat
def tw977386662193357710:=Nat
def tw1232221865944806363:=Nat
def tw4423696521185883975:=Nat
def tw9777561473211375942:=Nat
def tw17435123210107186593:=Nat
def tw9316073340566383242:=Nat
def tw18145894906418761752:=Nat
def tw12564751278516409857:=Nat
def tw14022516851275533354:=Nat
def tw4809620902902601029:=Nat
def tw18419926763820375342:=Nat
def tw13205586425457181570:=Nat
def tw17529091191086183209:=Nat
def tw2504369443048366961:=Nat
def tw74072414668183021:=Nat
def tw11536989033733838906:=Nat
def tw15739283964819411076:=Nat
def tw15524592349273774959:=Nat
def tw4271204647528207430:=Nat
def tw3602162401349280163:=Nat
def tw10432395011704439173:=Nat
def tw5053205365523466288:=Nat
def tw547589860846279504:=Nat
def tw12580528885837866055:=Nat
def tw2692043692032121767:=Nat
def tw12282706153085304894:=Nat
def tw10573974465164797500:=Nat
def tw4548599923239015567:=Nat
def tw1467393068025040006:=Nat
def tw350252117755429534:=Nat
def tw6905654368122630946:=Nat
def tw1483931396997072892:=Nat
def tw17673092736704014179:=Nat
def tw9313688718421601208:=Nat
def tw5349344311859524454:=Nat
def tw17118853988070687543:=Nat
def tw9495256062622395403:=Nat
def tw14891184949783723172:=Nat
def tw6685444823735596577:=Nat
def tw11500638563327796447:=Nat
def tw18403198512540801214:=Nat
def tw10563305327330863060:=Nat
def tw15299022155947960635:=Nat
def tw12246886537417957128:=Nat
def tw13275077098998056570:=Nat
def tw12854515701597934994:=Nat
def tw828860727899783473:=Nat
def tw16038746093720276980:=Nat
def tw10034686333971915266:=Nat
def tw4837571196685643724:=Nat
def tw2111282017624030939:=Nat
def tw6826362666593065707:=Nat
def tw7246932654951887831:=Nat
def tw9767201750515919664:=Nat
def tw2019348601260553640:=Nat
def tw2493266508934452526:=Nat
def tw7050608173113975920:=Nat
def tw1328145744072944954:=Nat
def tw14499306968298956767:=Nat
def tw5690215574501569425:=Nat
def tw1222917194502668127:=Nat
def tw6197522520421880668:=Nat
def tw5702772816290252444:=Nat
def tw10779647328164066519:=Nat
def tw1326227004274630304:=Nat
def tw14831457009394007401:=Nat
def tw18176127966454473685:=Nat
def tw7250330260325524088:=Nat
def tw15274880310737047293:=Nat
def tw18134450739203956962:=Nat
def tw15878723595037028226:=Nat
def tw16647679956168937796:=Nat
def tw4627855468002544002:=Nat
def tw11377050921788554255:=Nat
def tw10178436165094734421:=Nat
def tw4754842951583152423:=Nat
def tw160355462093506288:=Nat
def tw15285277675706882350:=Nat
def tw2619466115137527409:=Nat
def tw12601789881679648075:=Nat
def tw17832470505033148463:=Nat
def tw2809486134780990629:=Nat
def tw16908332030828188793:=Nat
def tw2760694635627814560:=Nat
def tw14862723144126645606:=Nat
def tw7383106742425305519:=Nat
def tw15772057406080126506:=Nat
def tw13532761782187318655:=Nat
def tw16670612812085710330:=Nat
def tw546520967426060332:=Nat
def tw16170976618267794255:=Nat
def tw13787996321664954237:=Nat
def tw13666420838631124817:=Nat
def tw12570519396936488411:=Nat
def tw7152131318861002528:=Nat
def tw15617036758863580447:=Nat
def tw8090821613161144437:=Nat
def tw1269249355276293767:=Nat
def tw8138734484530819346:=Nat
def tw4596177574179604472:=Nat
def tw17068531745050631203:=Nat
end PySem.W.Fast
namespace L2
noncomputable abbrev Key:=Sum Int Str
noncomputable def pM:Key->ae->Bool
 | .inl k,v=>pd k v
 | .inr x,v=>m4 x v
noncomputable def TR(w:bw):Key->Int
 | .inl k=>hashInt k
 | .inr x=>hashStr w x
theorem k8:∀{k:Key} {v:ae},pM k v=true->(∃i t,k=cm i/\v=eP i t)\/(∃x t,k=h9 x/\v=fH x t)
  | .inl i, v, h => by
    obtain⟨t,e⟩:=ib (k:=i) (v:=v) h;exact .inl ⟨i,t,rfl,e⟩
  | .inr x, v, h => by
    obtain⟨t,e⟩:=Value.isStrOf_shape (x:=x) (v:=v) h;exact .inr ⟨x,t,rfl,e⟩
theorem Rc(i:Int)(t:Tok):pM (.inl i) (.int i t)=true:=by simp[pM,pd]
theorem Mg(x:Str)(t:Tok):pM (.inr x) (.str x t)=true:=by simp[pM,m4]
theorem Qj(a b:Int):decide ((cm a:Key)=cm b)=(a==b):=by
 by_cases e:a=b;·subst e;simp
 .have h:¬(cm a:Key)=cm b:=λq=>e (Ak q);rw[decide_eq_false h];exact(beq_eq_false_iff_ne.mpr e).symm
theorem QB(a b:Str):decide ((h9 a:Key)=h9 b)=decide (a=b):=by
 by_cases e:a=b;·subst e;simp
 .have h:¬(h9 a:Key)=h9 b:=λq=>e (Sum.inr.inj q);rw[decide_eq_false h,decide_eq_false e]
theorem Sz(a:Int)(b:Str):decide ((cm a:Key)=h9 b)=false:=decide_eq_false (λq=>nomatch q)
theorem N5(a:Str)(b:Int):decide ((h9 a:Key)=cm b)=false:=decide_eq_false (λq=>nomatch q)
noncomputable def gR(prog:bc)(w:bw):PySem.KeyKind prog w Key where
 is:=pM
 hash:=TR w
 inj:=λv a b ha hb=>by
  rcases k8 ha with ⟨i,t,rfl,rfl⟩|⟨x,t,rfl,rfl⟩
  .rcases k8 hb with ⟨j,u,rfl,e⟩|⟨y,u,rfl,e⟩
   .injection e with e1 _;rw[e1]
   .exact nomatch e
  .rcases k8 hb with ⟨j,u,rfl,e⟩|⟨y,u,rfl,e⟩
   .exact nomatch e
   .injection e with e1 _;rw[e1]
 byValue:=λk v h=>by
  rcases k8 h with ⟨i,t,rfl,rfl⟩|⟨x,t,rfl,rfl⟩<;>rfl
 pyHash:=λhv h=>by
  rcases k8 hv with ⟨i,t,rfl,rfl⟩|⟨x,t,rfl,rfl⟩
  .exact wpAny_pyHash_int h
  .exact wpAny_pyHash_str h
 eqBool:=λF hv h=>by
  rcases k8 F with ⟨i,t,rfl,rfl⟩|⟨x,t,rfl,rfl⟩
  .rcases k8 hv with ⟨j,u,rfl,rfl⟩|⟨y,u,rfl,rfl⟩
   .rw[Qj] at h;exact de h
   .rw[Sz] at h;exact p5 i t y u _ _ _ _ h
  .rcases k8 hv with ⟨j,u,rfl,rfl⟩|⟨y,u,rfl,rfl⟩
   .rw[N5] at h;exact qa x t j u _ _ _ _ h
   .rw[QB] at h;exact wpAny_eqBool_str h
 «strs» :=λk x t v h=>by
  rcases k8 h with ⟨i,u,rfl,e⟩|⟨y,u,rfl,e⟩
  .exact nomatch e
  .injection e with e1 _
   subst e1
   cases v<;>rfl
theorem RC(prog:bc)(w:bw)(i:Int)(t:Tok):(gR prog w).is (.inl i) (.int i t)=true:=Rc i t
theorem K8(prog:bc)(w:bw)(x:Str)(t:Tok):(gR prog w).is (.inr x) (.str x t)=true:=Mg x t
inductive V where
 |aD|bl (b:Bool)|int (i:Int)|str (x:Str)|iI (b:Array UInt8)|jW (b:UInt64)|ref (a:aw)|ty (n:String)
 deriving DecidableEq
def RelV:V->ae->Prop
 | .aD,u=>u=eQ
 | .bl b,u=>u=hh b
 | .int i,u=>∃t,u=eP i t
 | .str x,u=>∃t,u=fH x t
 | .iI b,u=>∃t,u=pf b t
 | .jW b,u=>∃t,u=kS b t
 | .ref a,u=>u=bj a
 | .ty n,u=>u=dA n
abbrev Vals:List V->List ae->Prop:=Paired RelV
theorem Vals.length{xs:List V}{us:List ae}(r:Vals xs us):xs.length=us.length:=Paired.length r
theorem Vals.get:∀{xs:List V} {us:List ae} {i:Nat} {x:V},Vals xs us->xs[i]?=some x->∃u,us[i]?=some u/\RelV x u
  |_,_,_,_, .nil,e=>by simp at e
  |_,_,0,_, .cons r _,e=>by simp at e;subst e;exact⟨_,rfl,r⟩
  | _, _, i + 1, x, .cons _ t, e => by
    obtain⟨u,h1,h2⟩:=Vals.get (i:=i) (x:=x) t (by simpa using e);exact⟨u,by simpa using h1,h2⟩
theorem Vals.set{x:V}{u:ae}(r:RelV x u):∀{xs:List V} {us:List ae} (i:Nat),Vals xs us->Vals (xs.set i x) (us.set i u)
 |_,_,_, .nil=> .nil
 |_,_,0, .cons _ t=> .cons r t
 |_,_,i+1, .cons q t=> .cons q (Vals.set r i t)
theorem Vals.append:∀{xs ys:List V} {us ws:List ae},Vals xs us->Vals ys ws->Vals (xs++ys) (us++ws)
 |_,_,_,_, .nil,s=>s
 |_,_,_,_, .cons r t,s=> .cons r (Vals.append t s)
theorem Vals.take:∀{xs:List V} {us:List ae} (n:Nat),Vals xs us->Vals (xs.take n) (us.take n)
 |_,_,0,_=> .nil
 |_,_,_+1, .nil=> .nil
 |_,_,n+1, .cons r t=> .cons r (Vals.take n t)
theorem Vals.drop:∀{xs:List V} {us:List ae} (n:Nat),Vals xs us->Vals (xs.drop n) (us.drop n)
 |_,_,0,r=>r
 |_,_,_+1, .nil=> .nil
 |_,_,n+1, .cons _ t=>Vals.drop n t
def gz:Option V->Option ae->Prop
 |some v,some u=>RelV v u
 |none,none=>True
 |_,_=>False
def KV:List (κ×V)->List (κ×ae)->Prop:=Paired λ(p:κ×V) (q:κ×ae)=>p.1=q.1/\RelV p.2 q.2
noncomputable def kV:Key->V
 | .inl i=> .int i
 | .inr x=> .str x
inductive HO where
  |lst (xs:List V)
  |tup (xs:List V)
  |dK (kvs:List (Key×V))|dT (kvs:List (List Key×V))
  |set (S:Int->Bool) (n:Nat)
  |ins (C dx:aw) (fs:List (Str×V))
  |own (x:aw)
  |xd (fs:List (Str×V))
  |met (f x:aw)
  |lA (lo hi:Int)
  |gp (o:Obj) (u:HO)
  |mZ (ps:Array ae)
  |ext (φ:dc->Prop)
noncomputable abbrev Hp:=aw->Option HO
noncomputable def upd(H:Hp)(a:aw)(o:HO):Hp:=λb=>if b=a then some o else H b
theorem aY{H:Hp}{o:HO}:upd H a o a=some o:=by unfold upd;rw[if_pos rfl]
theorem bA{H:Hp}{o:HO}(h:b≠a):upd H a o b=H b:=by unfold upd;rw[if_neg h]
theorem CB{H:Hp}{o u:HO}:upd (upd H a o) a u=upd H a u:=by
 funext b;unfold upd;split<;>rfl
theorem gM{H:Hp}{o:HO}(h:H a=some o)(h':H b=none):a≠b:=by
 intro e;subst e;rw[h] at h';cases h'
section
variable(P:bc)(w:bw)
def bS(H:Hp)(h:dc)(a:aw):HO->Prop
 | .lst xs=>xs.length<=sizeLine/\∃(its:List ae) (n:Nat),Vals xs its/\h.get? a=some {cls:= .type "list",data:= .seq its.toArray n}
 | .tup xs=>xs.length<=sizeLine/\∃its:List ae,Vals xs its/\IsTup h a its.toArray
 | .dK kvs=>kvs.length<=sizeLine/\(a==dC)=false/\∃vs,KV kvs vs/\h.DictOf (gR P w) a vs
 | .dT kvs => kvs.length <= sizeLine /\ (a == sysModules) = false /\ ∃ xs : List (List Key × Addr × Value),
   Paired (λ(p:List Key×V) (q:List Key×aw×ae)=>p.1=q.1/\H q.2.1=some (.tup (p.1.map kV))/\RelV p.2 q.2.2) kvs xs/\
   ∃o es ep,h.get? a=some o/\o.ExactDict/\o.data= .dict es ep/\es.toList=xs.map (entryOfKey (k4 (gR P w)))/\(xs.map (·.1)).Nodup
 | .set S n=>h.SetOf (intKind P w) a S n
 | .ins C dx fs => H dx = some (.own a) /\ fs.length <= 1000 /\ dx ≠ a /\ h.get? a = some (PySem.W.instObj C dx) /\
   ∃mA,h.Ns1 dx mA/\(∀f,gz (fs.lookup f) (mA f))/\PySem.Within mA (fs.map (·.1))
 | .own _=>∃o,h.get? a=some o
 | .xd fs=>∃mA,h.Ns1 a mA/\∀f,gz (fs.lookup f) (mA f)
 | .lA lo hi=>∃t u v,h.get? a=some {cls:= .type "range",data:= .fields #[.int lo t, .int hi u, .int 1 v]}
 | .gp o u=>h.get? a=some o/\bS H h a u
 | .mZ ps=>h.get? a=some {cls:= .none,data:= .fields ps}
 | .met f x=>h.get? a=some (PySem.W.methodObj (.ref f) (.ref x))
 | .ext φ=>φ h/\(∃o,h.get? a=some o)/\∀h1 h2:dc,φ h1->(∀o,h1.get? a=some o->h2.get? a=some o)->φ h2
def cY(H:Hp)(h:dc):Prop:=∀a o,H a=some o->bS P w H h a o
end
section
variable{P:bc}{w:bw}{H H':Hp}{h h':dc}{a:aw}{o:HO}
theorem bS.lt(x:bS P w H h a o):a<h.objs.size:=by
 cases o with
 |lst xs=>obtain⟨_,_,_,_,e⟩:=x;exact bz e
 |tup xs=>obtain⟨_,_,_,p⟩:=x;exact p.lt
 |dK kvs=>obtain⟨_,_,_,_,o,_,_,e,_⟩:=x;exact bz e
 |dT kvs=>obtain⟨_,_,_,_,o,_,_,e,_⟩:=x;exact bz e
 |set S n=>obtain⟨o,_,_,_,e,_⟩:=x;exact bz e
 |ins C dx fs=>obtain⟨_,_,_,e,_⟩:=x;exact bz e
 |own y=>obtain⟨_,e⟩:=x;exact bz e
 |xd fs=>obtain⟨_,⟨_,_,_,e,_⟩,_⟩:=x;exact bz e
 |lA lo hi=>obtain⟨_,_,_,e⟩:=x;exact bz e
 |gp g u=>obtain⟨e,_⟩:=x;exact bz e
 |mZ ps=>exact bz (show h.get? a=some _ from x)
 |met f y=>exact bz (show h.get? a=some _ from x)
 |ext φ=>obtain⟨_,⟨_,e⟩,_⟩:=x;exact bz e
theorem Paired.Ff{α c:Type}{F G:α->c->Prop}:∀{d:List α} {l₂:List c},Paired F d l₂->(∀a b,F a b->G a b)->Paired G d l₂
 |_,_, .nil,_=> .nil
 |_,_, .cons r t,f=> .cons (f _ _ r) (Paired.Ff t f)
theorem bS.stay(x:bS P w H h a o)(k:∀b u,(b=a\/H b=some (.own a))->h.get? b=some u->h'.get? b=some u)
    (ho:∀b,H b=some (.own a)->H' b=some (.own a)) (ht:∀b xs,H b=some (.tup xs)->H' b=some (.tup xs)):bS P w H' h' a o:=by
  induction o with
  |lst xs=>obtain⟨z,its,n,r,e⟩:=x;exact⟨z,its,n,r,k _ _ (.inl rfl) e⟩
  |tup xs=>obtain⟨z,its,r,g,e,c⟩:=x;exact⟨z,its,r,g,k _ _ (.inl rfl) e,c⟩
  |dK kvs=>obtain⟨z,y,vs,r,g,es,ep,e,c⟩:=x;exact⟨z,y,vs,r,g,es,ep,k _ _ (.inl rfl) e,c⟩
  | dT kvs =>
    obtain⟨z,y,xs,r,g,es,ep,e,c⟩:=x;exact⟨z,y,xs,Paired.Ff r λp q z=>⟨z.1,ht _ _ z.2.1,z.2.2⟩,g,es,ep,k _ _ (.inl rfl) e,c⟩
  |set S n=>obtain⟨g,es,ep,t,e,c⟩:=x;exact⟨g,es,ep,t,k _ _ (.inl rfl) e,c⟩
  | ins C dx fs =>
    obtain⟨d,z,ne,e,mA,⟨od,es,ep,e2,c⟩,r⟩:=x;exact⟨ho _ d,z,ne,k _ _ (.inl rfl) e,mA,⟨od,es,ep,k _ _ (.inr d) e2,c⟩,r⟩
  |own y=>obtain⟨g,e⟩:=x;exact⟨g,k _ _ (.inl rfl) e⟩
  |xd fs=>obtain⟨mA,⟨od,es,ep,e,c⟩,r⟩:=x;exact⟨mA,⟨od,es,ep,k _ _ (.inl rfl) e,c⟩,r⟩
  |lA lo hi=>obtain⟨t,u,v,e⟩:=x;exact⟨t,u,v,k _ _ (.inl rfl) e⟩
  |gp g u ih=>obtain⟨e,q⟩:=x;exact⟨k _ _ (.inl rfl) e,ih q⟩
  | mZ ps =>
    have e:h.get? a=some {cls:= .none,data:= .fields ps}:=x;show h'.get? a=some {cls:= .none,data:= .fields ps};exact k a _ (.inl rfl) e
  | met f y =>
    have e:h.get? a=some (PySem.W.methodObj (.ref f) (.ref y)):=x;show h'.get? a=some (PySem.W.methodObj (.ref f) (.ref y));exact k a _ (.inl rfl) e
  |ext φ=>obtain⟨p,⟨o,e⟩,st⟩:=x;exact⟨st _ _ p λo q=>k _ _ (.inl rfl) q,⟨o,k _ _ (.inl rfl) e⟩,st⟩
theorem cY.lt(x:cY P w H h)(e:H a=some o):a<h.objs.size:=(x a o e).lt
theorem cY.fresh(x:cY P w H h)(e:h.objs.size<=a):H a=none:=by
 cases q:H a with
 |none=>rfl
 |some u=>exact absurd (fJ (x.lt q) e) (jJ _)
theorem cY.kept(x:cY P w H h)(k:∀b u,h.get? b=some u->h'.get? b=some u):cY P w H h':=λa o e=>
 (x a o e).stay (λb u _ q=>k b u q) (λ_ q=>q) λ_ _ q=>q
theorem cY.laid(x:cY P w H h)(k:∀b u,h.get? b=some u->h'.get? b=some u)(hp:h.objs.size<=a)(new:bS P w (upd H a o) h' a o):cY P w (upd H a o) h':=λb u e=>by
 have hn:=x.fresh hp;by_cases hb:b=a;·subst hb;rw[aY] at e;cases e;exact new
 .rw[bA hb] at e;exact(x b u e).stay (λc v _ q=>k c v q) (λc q=>by rw[bA (gM q hn)];exact q) λc xs q=>by rw[bA (gM q hn)];exact q
end
def Rd(H:Hp)(a:aw)(u:HO):Prop:=H a=some u\/∃o,H a=some (.gp o u)
theorem Rd.ok{P:bc}{H:Hp}{u:HO}(r:Rd H a u)(x:cY P w H h):bS P w H h a u:=by
 rcases r with r|⟨o,r⟩
 .exact x a u r
 .obtain⟨_,q⟩:=x a _ r;exact q
def qj:Option HO->Prop
 |some (.lst _)=>True
 |some (.dK _)=>True
 |some (.dT _)=>True
 |some (.set _ _)=>True
 |some (.ins _ _ _)=>True
 |some (.ext _)=>True
 |_=>False
section
variable{P:bc}{w:bw}{H:Hp}{h h':dc}{x e:aw}{o':HO}
theorem cY.write(ok:cY P w H h)(d:qj (H x))(he:e=x\/H e=some (.own x))(k:∀b u,b≠e->h.get? b=some u->h'.get? b=some u)(f:∃u,h'.get? e=some u)
  (new:bS P w (upd H x o') h' x o'):cY P w (upd H x o') h':=λb u q=>by
 have g:∀c y,H c=some (.own y)->c≠x:=λc y r z=>by subst z;rw[r] at d;exact d
 have i:∀c xs,H c=some (.tup xs)->c≠x:=λc xs r z=>by subst z;rw[r] at d;exact d
 by_cases hb:b=x;·subst hb;rw[aY] at q;cases q;exact new
 .rw[bA hb] at q;by_cases a:b=e
  .have B:H b=some (.own x):=by
    rcases he with z|z
    .exact absurd (a.trans z) hb
    .rw[a];exact z
   rw[q] at B;cases B
   obtain⟨v,hv⟩:=f;exact⟨v,by rw[a];exact hv⟩
  .refine(ok b u q).stay (λc v hc r=>k c v ?_ r) (λc r=>by rw[bA (g c b r)];exact r) λc xs r=>by rw[bA (i c xs r)];exact r
   rcases hc with rfl|hc
   .exact a
   .rintro rfl;rcases he with z|z
    .exact g c b hc z
    .rw[hc] at z;cases z;exact hb rfl
end
structure Un(fs ex:List aw)(H H':Hp)(h h':dc):Prop where
 keep:∀b o,h.get? b=some o->H b=none->b∉fs->b∉ex->h'.get? b=some o
 slot:∀b o,h.get? b=some o->H b=none->b∈fs->b∉ex->∃sl,h'.get? b=some {o with slots:=sl}
 free:∀b o,h.get? b=some o->H b=none->b∉ex->H' b=none
 there:∀b o,h.get? b=some o->b∉ex->∃o',h'.get? b=some o'
 tups:∀b xs,H b=some (.tup xs)->H' b=some (.tup xs)
 lg:∀b o u,H b=some (.gp o u)->H' b=some (.gp o u)
 lK:∀b ps,H b=some (.mZ ps)->∃more,H' b=some (.mZ (ps++more))
section
variable{fs fs' ex ex':List aw}{H H1 H2:Hp}{h h1 h2 h':dc}{a x e:aw}{o:HO}
theorem Un.any(u:Un fs ex H H1 h h1){b:aw}{g:Obj}(q:h.get? b=some g)(n:H b=none)(hx:b∉ex):∃sl,h1.get? b=some {g with slots:=sl}:=by
 by_cases hb:b∈fs;·exact u.slot b g q n hb hx
 .exact⟨g.slots,u.keep b g q n hb hx⟩
theorem Un.kept(k:∀b u,h.get? b=some u->h'.get? b=some u):Un fs ex H H h h':=
 ⟨λb g q _ _ _=>k b g q,λb g q _ _ _=>⟨g.slots,k b g q⟩,λ_ _ _ n _=>n,λb g q _=>⟨g,k b g q⟩,λ_ _ q=>q,λ_ _ _ q=>q,λ_ ps q=>⟨#[],by rw[q];simp⟩⟩
theorem Un.refl:Un fs ex H H h h:=Un.kept λ_ _ q=>q
theorem Un.laid(k:∀b u,h.get? b=some u->h'.get? b=some u)(hp:h.objs.size<=a)(hn:H a=none):Un fs ex H (upd H a o) h h' where
 keep:=λb u q _ _ _=>k b u q
 slot:=λb u q _ _ _=>⟨u.slots,k b u q⟩
 free:=λb u q n _=>by rw[bA (cJ (fJ (bz q) hp))];exact n
 there:=λb u q _=>⟨u,k b u q⟩
 tups:=λb xs q=>by rw[bA (gM q hn)];exact q
 lg:=λb u xs q=>by rw[bA (gM q hn)];exact q
 lK:=λb ps q=>⟨#[],by rw[bA (gM q hn),q];simp⟩
theorem Un.write(d:qj (H x))(he:e=x\/H e=some (.own x))(k:∀b u,b≠e->h.get? b=some u->h'.get? b=some u)(f:∃u,h'.get? e=some u):Un fs ex H (upd H x o) h h':=by
 have hx:∀b,H b=none->b≠x:=λb n z=>by subst z;rw[n] at d;exact d
 have hb:∀b,H b=none->b≠e:=λb n z=>by
  subst z;rcases he with r|r
  .exact hx b n r
  .rw[n] at r;cases r
 have hm:∀b u,H b=some u->¬qj (some u)->b≠x:=λb u q nm z=>by subst z;rw[q] at d;exact nm d
 refine⟨λb u q n _ _=>k b u (hb b n) q,λb u q n _ _=>⟨u.slots,k b u (hb b n) q⟩,λb u q n _=>by rw[bA (hx b n)];exact n,λb u q _=>?_,
  λb xs q=>by rw[bA (hm b _ q λz=>z)];exact q,λb u xs q=>by rw[bA (hm b _ q λz=>z)];exact q,λb ps q=>⟨#[],by rw[bA (hm b _ q λz=>z),q];simp⟩⟩
 by_cases a:b=e;·subst a;exact f
 .exact⟨u,k b u a q⟩
end
noncomputable def uF(h:dc)(H:Hp):List aw:=(a3 h.objs.size).filter λa=>(H a).isSome
noncomputable def kY(h:dc)(H:Hp):dc:=PySem.W.hideAll h (uF h H)
theorem OU(h:dc)(H:Hp):(kY h H).objs.size=h.objs.size:=PySem.W.hideAll_size _ _
theorem KI{H:Hp}{o:Obj}(e:h.get? b=some o)(n:H b=none):(kY h H).get? b=some o:=
 PySem.W.hideAll_get _ e λhm=>by
  have q:(H b).isSome=true:=(dQ.mp hm).2;rw[n] at q;simp at q
theorem Uw{H:Hp}{o:Obj}(e:(kY h H).get? b=some o):h.get? b=some o/\H b=none:=by
  have e':h.get? b=some o:=PySem.W.of_hideAll (uF h H) e;refine⟨e',?_⟩;cases q:H b with
  |none=>rfl
  | some x =>
    have hm:b∈uF h H:=dQ.mpr ⟨dM.mpr (bz e'),by simp[q]⟩;have z:(kY h H).get? b=none:=PySem.W.hideAll_none (uF h H) hm;rw[z] at e;cases e
noncomputable def QV(g h:dc)(L:aw):List (aw×Obj):=(a3 h.objs.size).filterMap λa=>if a=L\/(g.get? a).isSome=true then none else(h.get? a).map λo=>(a,o)
noncomputable def rest(g h:dc)(L d:aw):List (aw×Obj):=(QV g h L).filter λp=>decide (p.1≠d)
structure Mod(K:PySem.W.Frag)(mg:Str->Option ae)(base:dc):Prop where
 rq:K.In base
 glob:base.Ns a4 mg
 blt:∃mb,base.Ns mB mb/\∀x:Str,x≠"__name__" ->mb x=ed x
 nolimit:base.NoLimit
structure Cx where
 prog:bc
 w:bw
 K:PySem.W.Frag
 mg:Str->Option ae
 base:dc
 A:cj
 N:List Str
 s₀:ax
 H₀:Hp
 env:Env
 outer:List Env
 stack:List Env
 ex:List aw
 fn:Str->Bool
 calm:Bool
 pn:List (aw×Obj)
 xe:ae->ax->Prop
noncomputable def frs(l:List Env):List aw:=l.filterMap (·.frame)
noncomputable abbrev Cx.fs(X:Cx):List aw:=frs X.outer
def BW(sc:fb)(x:Str):Prop:=sc.names.lookup x=some .local\/sc.names.lookup x=some .cell\/sc.names.lookup x=some .free
def Loc(sc:fb)(x:Str):Prop:=sc.names.lookup x=some .local\/sc.names.lookup x=some .cell
def Look(env:Env)(h:dc)(m:Str->Option ae)(x:Str)(u:ae):Prop:=
 (env.kindOf x=some .local/\m x=some u)\/((env.kindOf x=some .cell\/env.kindOf x=some .free)/\∃c,env.cells.lookup x=some c/\h.IsCell c (some u))
structure Cx.Ok(X:Cx):Prop where
 mod:Mod X.K X.mg X.base
 kind:X.env.scope.kind= .function
 glob:X.env.globals=a4
 blt:X.env.builtins=mB
 above:X.s₀.heap.objs.size<=X.env.locals
 inj:∀x y c,X.env.cells.lookup x=some c->X.env.cells.lookup y=some c->x=y
 has:∀x,(X.env.kindOf x=some .cell\/X.env.kindOf x=some .free)->∃c,X.env.cells.lookup x=some c
 rN:∀x c,X.fn x=true->X.env.cells.lookup x=some c->X.s₀.heap.objs.size<=c
 hd:X.calm=true->X.A.handled=none
 frames:X.A.frames=some X.stack
 stk:X.stack=X.outer\/(X.stack=X.env::X.outer/\X.env.frame=some X.env.locals)
 vj:∀b∈X.ex,b≠X.env.locals/\∀x c,X.env.cells.lookup x=some c->c≠b
 bs:∀b o,X.base.get? b=some o->X.s₀.heap.get? b=some o/\X.H₀ b=none
 l6:X.base.objs.size<=X.s₀.heap.objs.size
 qK:∀b o,X.base.get? b=some o->b∉X.ex
 qL:∀b∈X.ex,b∉X.fs
 jm:X.s₀.heap.FunFrames X.base X.outer
 nS:∀b∈X.fs,X.H₀ b=none
structure Inv(X:Cx)(pins:List (aw×Obj))(σ:List (Option V))(H:Hp)(s:ax):Prop where
 ok:X.Ok
 os:s.os=X.s₀.os
 bare:fI s.gens
 base:Un X.fs X.ex X.H₀ H X.s₀.heap s.heap
 loc:∃m,s.heap.Ns X.env.locals m/\∀(i:Nat) (x:Str) (v:V),X.N[i]?=some x->σ[i]?=some (some v)->BW X.env.scope x->∃u,RelV v u/\Look X.env s.heap m x u
 cell:∀x c,X.env.cells.lookup x=some c->∃v,s.heap.IsCell c v
 free:H X.env.locals=none
 jX:∀x c,X.env.cells.lookup x=some c->H c=none
 pin:∀p∈X.pn++pins,s.heap.get? p.1=some p.2/\H p.1=none/\p.1≠X.env.locals/\p.1∉X.fs/\∀v,p.2.data≠ .cell v
 hok:cY X.prog X.w H s.heap
 len:σ.length=X.N.length
section
variable{X:Cx}{pins:List (aw×Obj)}{σ:List (Option V)}{H H':Hp}{s:ax}{h':dc}
theorem Cx.Ok.R4(ok:X.Ok){b:aw}{o:Obj}(e:X.base.get? b=some o):b∉X.fs:=λhb=>by
 have:=(ok.jm.mem hb).1;rw[e] at this;cases this
theorem Inv.bs(I:Inv X pins σ H s):∀b o,X.base.get? b=some o->s.heap.get? b=some o/\H b=none:=λb o e=>
 ⟨I.base.keep b o (I.ok.bs b o e).1 (I.ok.bs b o e).2 (I.ok.R4 e) (I.ok.qK b o e),I.base.free b o (I.ok.bs b o e).1 (I.ok.bs b o e).2 (I.ok.qK b o e)⟩
theorem Inv.bk(I:Inv X pins σ H s):∀b o,X.base.get? b=some o->s.heap.get? b=some o:=λb o e=>(I.bs b o e).1
theorem Inv.mod(I:Inv X pins σ H s):Mod X.K X.mg X.base:=I.ok.mod
theorem Inv.cC(I:Inv X pins σ H s):X.K.In s.heap:=I.ok.mod.rq.keeps I.bk
theorem Inv.lt(I:Inv X pins σ H s):X.env.locals<s.heap.objs.size:=let ⟨_,hn,_⟩:=I.loc;hn.lt
theorem Inv.sz(I:Inv X pins σ H s):X.s₀.heap.objs.size<=s.heap.objs.size:=dZ I.ok.above (lH I.lt)
theorem Inv.Qp(I:Inv X pins σ H s){a:aw}(h:s.heap.objs.size<=a):a∉X.fs:=λhb=>by
 obtain⟨_,o,ho,_⟩:=I.ok.jm.mem hb;exact absurd (fJ (bz ho) (dZ I.sz h)) (jJ _)
theorem Inv.nF(I:Inv X pins σ H s):∀x c,X.env.cells.lookup x=some c->c≠X.env.locals:=λx c e z=>by
 obtain⟨v,o,ho,hd⟩:=I.cell x c e;obtain⟨m,⟨o',es,ep,d,p,_⟩,_⟩:=I.loc;rw[z,d] at ho;cases ho;rw[p] at hd;cases hd
theorem Inv.jm(I:Inv X pins σ H s):s.heap.FunFrames X.base X.outer:=by
  have all:∀(l:List Env),(∀b∈frs l,b∈X.fs)->X.s₀.heap.FunFrames X.base l->s.heap.FunFrames X.base l:=by
    intro l;induction l with
    |nil=>intro _ _;trivial
    | cons env r ih =>
      intro hs hl;obtain⟨hk,⟨L,o,hf,hn,ho,hd⟩,hr⟩:=hl;have T:L∈X.fs:=hs L (by unfold frs;rw[AO,hf];exact cQ);obtain⟨sl,e⟩:=I.base.slot L o ho (I.ok.nS L T) T λz=>I.ok.qL L z T;exact⟨hk,⟨L,_,hf,hn,e,hd⟩,ih (λb hb=>hs b (by unfold frs;rw[AO,hf];exact cB _ hb)) hr⟩
  exact all X.outer (λ_ hb=>hb) I.ok.jm
theorem Inv.stack(I:Inv X pins σ H s):s.heap.FunFrames X.base X.stack:=by
 rcases I.ok.stk with e|⟨e,hf⟩
 .rw[e];exact I.jm
 .rw[e];obtain⟨m,hn,_⟩:=I.loc;refine .cons (by rw[I.ok.kind];decide) hf hn ?_ I.jm;exact Heap.get?_none_of_le (dZ I.ok.l6 I.ok.above)
theorem Inv.zK(I:Inv X pins σ H s):∀b∈frs X.stack,b∈X.env.locals::X.fs:=λb hb=>by
 rcases I.ok.stk with e|⟨e,hf⟩
 .rw[e] at hb;exact cB _ hb
 .rw[e] at hb;unfold frs at hb;rw[AO,hf] at hb;exact hb
theorem Inv.EW(I:Inv X pins σ H s):∀b∈frs X.stack,H b=none:=λb hb=>by
 rcases aO.mp (I.zK b hb) with e|hb
 .rw[e];exact I.free
 .obtain⟨_,o,ho,_⟩:=I.ok.jm.mem hb;exact I.base.free b o ho (I.ok.nS b hb) λz=>I.ok.qL b z hb
theorem Inv.step(I:Inv X pins σ H s)
  (a:∀b∈ch,(b∈X.ex\/X.s₀.heap.objs.size<=b)/\b≠X.env.locals/\(∀x c,X.env.cells.lookup x=some c->c≠b)/\∀p∈X.pn++pins,p.1≠b)
  (keep:∀b o,b≠X.env.locals->b∉X.fs->b∉ch->s.heap.get? b=some o->H b=none->h'.get? b=some o)
  (slot:∀b o,b≠X.env.locals->b∈X.fs->b∉ch->s.heap.get? b=some o->H b=none->∃sl,h'.get? b=some {o with slots:=sl}) (free:∀b o,b∉ch->s.heap.get? b=some o->H b=none->H' b=none)
  (there:∀b o,b∉ch->s.heap.get? b=some o->∃o',h'.get? b=some o')
  (tups:∀b xs,H b=some (.tup xs)->H' b=some (.tup xs)) (lg:∀b o u,H b=some (.gp o u)->H' b=some (.gp o u)) (lK:∀b ps,H b=some (.mZ ps)->∃more,H' b=some (.mZ (ps++more)))
  (ns:∀m,s.heap.Ns X.env.locals m->h'.Ns X.env.locals m) (hok:cY X.prog X.w H' h') (hg:fI g'):
  Inv X pins σ H' {s with heap:=h',gens:=g',drawn:=d',toks:=t'}:=by
 have j:∀b o,X.s₀.heap.get? b=some o->b≠X.env.locals:=λb o e=>cJ (fJ (bz e) I.ok.above);have h:∀b o,X.s₀.heap.get? b=some o->b∉X.ex->b∉ch:=λb o e hx hb=>by
  rcases(a b hb).1 with z|z
  .exact hx z
  .exact absurd (fJ (bz e) z) (jJ _)
 have f:∀x c,X.env.cells.lookup x=some c->∀v,s.heap.IsCell c v->h'.IsCell c v:=λx c e v ⟨o,ho,hd⟩=>by
  have g:c∉ch:=λz=>(a c z).2.2.1 x c e rfl;by_cases hc:c∈X.fs
  .obtain⟨sl,q⟩:=slot c o (I.nF x c e) hc g ho (I.jX x c e);exact⟨_,q,hd⟩
  .exact⟨o,keep c o (I.nF x c e) hc g ho (I.jX x c e),hd⟩
 refine⟨I.ok,I.os,hg,⟨λb o e n hb hx=>?_,λb o e n hb hx=>?_,λb o e n hx=>?_,λb o e hx=>?_,λb xs e=>tups b xs (I.base.tups b xs e),λb o xs e=>lg b o xs (I.base.lg b o xs e),λb ps e=>?_⟩,?_,λx c e=>?_,?_,λx c e=>?_,λp hp=>?_,hok,I.len⟩;·exact keep b o (j b o e) hb (h b o e hx) (I.base.keep b o e n hb hx) (I.base.free b o e n hx)
 .obtain⟨sl,e1⟩:=I.base.slot b o e n hb hx;obtain⟨t,e2⟩:=slot b _ (j b o e) hb (h b o e hx) e1 (I.base.free b o e n hx);exact⟨t,e2⟩
 .obtain⟨o',e1⟩:=I.base.there b o e hx;exact free b o' (h b o e hx) e1 (I.base.free b o e n hx)
 .obtain⟨o',e1⟩:=I.base.there b o e hx;exact there b o' (h b o e hx) e1
 .obtain⟨m1,e1⟩:=I.base.lK b ps e;obtain⟨m2,e2⟩:=lK b _ e1;exact⟨m1++m2,by rw[e2,Array.append_assoc]⟩
 .obtain⟨m,hn,hl⟩:=I.loc;refine⟨m,ns m hn,λi x v e1 e2 e3=>?_⟩;obtain⟨u,r,l⟩:=hl i x v e1 e2 e3;refine⟨u,r,?_⟩;rcases l with l|⟨k,c,e,z⟩
  .exact .inl l
  .exact .inr ⟨k,c,e,f x c e _ z⟩
 .obtain⟨v,z⟩:=I.cell x c e;exact⟨v,f x c e v z⟩
 .obtain⟨m,⟨o,_,_,ho,_⟩,_⟩:=I.loc;exact free _ o (λz=>(a _ z).2.1 rfl) ho I.free
 .obtain⟨v,o,ho,hd⟩:=I.cell x c e;exact free c o (λz=>(a c z).2.2.1 x c e rfl) ho (I.jX x c e)
 .obtain⟨e,n,ne,G,d⟩:=I.pin p hp;have g:p.1∉ch:=λz=>(a p.1 z).2.2.2 p hp rfl;exact⟨keep p.1 p.2 ne G g e n,free p.1 p.2 g e n,ne,G,d⟩
theorem Inv.un(I:Inv X pins σ H s)(u:Un X.fs [] H H' s.heap h')(hok:cY X.prog X.w H' h'):Inv X pins σ H' {s with heap:=h',toks:=t'}:=by
 obtain⟨m,⟨o,es,ep,ho,r⟩,_⟩:=id I.loc;obtain⟨sl,T⟩:=u.any ho I.free (by simp)
 exact I.step (g':=s.gens) (d':=s.drawn) (ch:=[]) (λ_ z=>nomatch z) (λb o _ hb _ e n=>u.keep b o e n hb (by simp)) (λb o _ hb _ e n=>u.slot b o e n hb (by simp)) (λb o _ e n=>u.free b o e n (by simp)) (λb o _ e=>u.there b o e (by simp)) u.tups u.lg u.lK (λM hm=>by
  obtain⟨o',f,g,d,r'⟩:=hm;rw[ho] at d;cases d
  exact⟨_,f,g,T,r'⟩) hok I.bare
theorem Inv.call(I:Inv X pins σ H s)(u:Un (frs X.stack) ch H H' s.heap h')(hok:cY X.prog X.w H' h')(hg:fI g')
  (a:∀b∈ch,(b∈X.ex\/X.s₀.heap.objs.size<=b)/\b≠X.env.locals/\(∀x c,X.env.cells.lookup x=some c->c≠b)/\∀p∈X.pn++pins,p.1≠b):
  Inv X pins σ H' {s with heap:=h',gens:=g',drawn:=d',toks:=t'}:=by
 obtain⟨m,⟨o,es,ep,ho,r⟩,_⟩:=id I.loc;obtain⟨sl,T⟩:=u.any ho I.free λz=>(a _ z).2.1 rfl
 exact I.step (ch:=ch) a (λb o T hb hc e n=>u.keep b o e n (λz=>(aO.mp (I.zK b z)).elim T hb) hc) (λb o _ _ hc e n=>u.any e n hc) (λb o hc e n=>u.free b o e n hc) (λb o hc e=>u.there b o e hc) u.tups u.lg u.lK (λM hm=>by
  obtain⟨o',f,g,d,r'⟩:=hm;rw[ho] at d;cases d
  exact⟨_,f,g,T,r'⟩) hok hg
theorem Inv.turned{it:aw}(I:Inv X pins σ H s)(k:∀b o,b≠it->s.heap.get? b=some o->h'.get? b=some o)(hn:H it=none)(T:it≠X.env.locals)
  (h1:it∈X.ex\/X.s₀.heap.objs.size<=it) (h2:∀x c,X.env.cells.lookup x=some c->c≠it) (h3:∀p∈X.pn++pins,p.1≠it):Inv X pins σ H {s with heap:=h',toks:=t'}:=by
 have a:∀b u,H b=some u->b≠it:=λb u e z=>by rw[z,hn] at e;cases e
 refine I.step (g':=s.gens) (d':=s.drawn) (ch:=[it]) (λb hb=>?_) (λb o _ _ hc e _=>k b o (λz=>hc (by simp[z])) e) (λb o _ _ hc e _=>⟨o.slots,k b o (λz=>hc (by simp[z])) e⟩) (λ_ _ _ _ n=>n)
  (λb o hc e=>⟨o,k b o (λz=>hc (by simp[z])) e⟩) (λ_ _ e=>e) (λ_ _ _ e=>e) (λb ps e=>⟨#[],by rw[e];simp⟩) (λm hm=>?_) (λb u e=>?_) I.bare
 .have e:b=it:=by simpa using hb
  subst e;exact⟨h1,T,h2,h3⟩
 .obtain⟨o,es,ep,ho,r⟩:=hm;exact⟨o,es,ep,k _ o (bX T) ho,r⟩
 .refine(I.hok b u e).stay (λc v hc q=>k c v ?_ q) (λ_ q=>q) λ_ _ q=>q;rcases hc with z|z
  .rw[z];exact a b u e
  .exact a c _ z
theorem Inv.tok(I:Inv X pins σ H s)(t:Nat):Inv X pins σ H {s with toks:=t}:=I.un (h':=s.heap) (t':=t) Un.refl I.hok
theorem Inv.kept{t':Nat}(I:Inv X pins σ H s)(k:∀b u,s.heap.get? b=some u->h'.get? b=some u):Inv X pins σ H {s with heap:=h',toks:=t'}:=I.un (Un.kept k) (I.hok.kept k)
theorem Inv.laid{a:aw}{o:HO}{t':Nat}(I:Inv X pins σ H s)(k:∀b u,s.heap.get? b=some u->h'.get? b=some u)(hp:s.heap.objs.size<=a)(new:bS X.prog X.w (upd H a o) h' a o):
  Inv X pins σ (upd H a o) {s with heap:=h',toks:=t'}:=I.un (Un.laid k hp (I.hok.fresh hp)) (I.hok.laid k hp new)
theorem Inv.write{x e:aw}{o:HO}{t':Nat}(I:Inv X pins σ H s)(d:qj (H x))(he:e=x\/H e=some (.own x))(k:∀b u,b≠e->s.heap.get? b=some u->h'.get? b=some u)(f:∃u,h'.get? e=some u)
  (new:bS X.prog X.w (upd H x o) h' x o):Inv X pins σ (upd H x o) {s with heap:=h',toks:=t'}:=I.un (Un.write d he k f) (I.hok.write d he k f new)
theorem Inv.Er{a:List (aw×Obj)}(I:Inv X pins σ H s)(h:∀p∈a,s.heap.get? p.1=some p.2/\H p.1=none/\p.1≠X.env.locals/\p.1∉X.fs/\∀v,p.2.data≠ .cell v):Inv X a σ H s:=
 ⟨I.ok,I.os,I.bare,I.base,I.loc,I.cell,I.free,I.jX,λp hp=>(ia.mp hp).elim (λz=>I.pin p (mU _ z)) (h p),I.hok,I.len⟩
theorem FJ(hN:N.Nodup){i j:Nat}{x:Str}(a:N[i]?=some x)(b:N[j]?=some x):i=j:=by
 obtain⟨h1,e1⟩:=bG.mp a;obtain⟨h2,e2⟩:=bG.mp b;exact(List.getElem_inj hN).mp (e1.trans e2.symm)
theorem Ft{v:V}{Q:Unit->ax->Prop}(I:Inv X pins σ H s)(hN:X.N.Nodup)(hi:X.N[i]?=some x)(hx:Loc X.env.scope x)(r:RelV v u)
  (h:∀s',Inv X pins (σ.set i (some v)) H s'->(∃a,eL a s.heap s'.heap/\(a=X.env.locals\/X.env.cells.lookup x=some a))->Q () s') (hf:X.fn x=true\/X.env.scope.names.lookup x=some .local:=by first|exact .inl rfl|exact .inr rfl|assumption):wpAny M A (storeName X.env x u) Q E s:=by
 obtain⟨m,hn,hl⟩:=id I.loc;have R:(X.env.scope.kind== .class||(X.env.scope.kind== .module && X.env.locals !=X.env.globals))=false:=by rw[I.ok.kind];rfl
 have U:i<σ.length:=by rw[I.len];exact(bG.mp hi).1
 have nF:=I.nF;have l:∀{a:aw} {h':dc},(∃o,s.heap.get? a=some o/\H a=none)->eL a s.heap h'->cY X.prog X.w H h':=λ{a h'} ha O b g e=>by
  obtain⟨_,_,f⟩:=ha;refine(I.hok b g e).stay (λc K hc q=>(O.2 c ?_).trans q) (λ_ q=>q) λ_ _ q=>q;rintro rfl;rcases hc with rfl|hc
  .rw[f] at e;cases e
  .rw[f] at hc;cases hc
 rcases hx with hk|hk
 .refine wpAny_storeName_local hk hn (λh' S O=>?_) R;obtain⟨W,_,_,D,_⟩:=id hn;refine h _ ⟨I.ok,I.os,I.bare,⟨λb o e n hb hx=>?_,λb o e n hb hx=>?_,I.base.free,λb o e hx=>?_,I.base.tups,I.base.lg,I.base.lK⟩,⟨_,S,λj y L e1 e2 e3=>?_⟩,λy c e=>?_,I.free,I.jX,λp hp=>?_,l ⟨W,D,I.free⟩ O,by simpa using I.len⟩ ⟨_,O, .inl rfl⟩;·exact(O.2 b (cJ (fJ (bz e) I.ok.above))).trans (I.base.keep b o e n hb hx)
  .obtain⟨sl,e1⟩:=I.base.slot b o e n hb hx;exact⟨sl,(O.2 b (cJ (fJ (bz e) I.ok.above))).trans e1⟩
  .obtain⟨o',e1⟩:=I.base.there b o e hx;exact⟨o',(O.2 b (cJ (fJ (bz e) I.ok.above))).trans e1⟩
  .by_cases hj:j=i
   .subst hj;rw[hi] at e1;cases e1
    rw[cz U] at e2;cases e2;exact⟨u,r, .inl ⟨hk,by simp⟩⟩
   .rw[br (bX hj)] at e2;obtain⟨J,r',q⟩:=hl j y L e1 e2 e3;refine⟨J,r',?_⟩;rcases q with ⟨k,e⟩|⟨k,c,e,z⟩
    .refine .inl ⟨k,?_⟩;have:y≠x:=λe=>hj (FJ hN e1 (e▸hi));simp[this,e]
    .exact .inr ⟨k,c,e,z.sameBut O (nF y c e)⟩
  .obtain⟨K,z⟩:=I.cell y c e;exact⟨K,z.sameBut O (nF y c e)⟩
  .obtain⟨e,n,ne,G,d⟩:=I.pin p hp;exact⟨(O.2 p.1 ne).trans e,n,ne,G,d⟩
 .have F:X.fn x=true:=by
   rcases hf with z|z
   .exact z
   .rw[z] at hk;cases hk
  obtain⟨c,hc⟩:=I.ok.has x (.inl hk);obtain⟨K,z⟩:=I.cell x c hc;refine wpAny_storeName_cell I.ok.kind hk hc z (λh' C O=>?_);obtain⟨oc,t,Y⟩:=id z;refine h {s with heap:=h'} ⟨I.ok,I.os,I.bare,⟨λb o e n hb hx=>?_,λb o e n hb hx=>?_,I.base.free,λb o e hx=>?_,I.base.tups,I.base.lg,I.base.lK⟩,⟨m,hn.sameBut O (bX (nF x c hc)),λj y L e1 e2 e3=>?_⟩,λy c' e=>?_,I.free,I.jX,λp hp=>?_,l ⟨oc,t,I.jX x c hc⟩ O,by simpa using I.len⟩ ⟨c,O, .inr hc⟩;·exact(O.2 b (cJ (fJ (bz e) (I.ok.rN x c F hc)))).trans (I.base.keep b o e n hb hx)
  .obtain⟨sl,e1⟩:=I.base.slot b o e n hb hx;exact⟨sl,(O.2 b (cJ (fJ (bz e) (I.ok.rN x c F hc)))).trans e1⟩
  .obtain⟨o',e1⟩:=I.base.there b o e hx;exact⟨o',(O.2 b (cJ (fJ (bz e) (I.ok.rN x c F hc)))).trans e1⟩
  .by_cases hj:j=i
   .subst hj;rw[hi] at e1;cases e1
    rw[cz U] at e2;cases e2;exact⟨u,r, .inr ⟨.inl hk,c,hc,C⟩⟩
   .rw[br (bX hj)] at e2;obtain⟨J,r',q⟩:=hl j y L e1 e2 e3;refine⟨J,r',?_⟩;rcases q with q|⟨k,c',e,z'⟩
    .exact .inl q
    .refine .inr ⟨k,c',e,z'.sameBut O ?_⟩;rintro rfl;exact hj (FJ hN e1 (I.ok.inj _ _ _ e hc▸hi))
  .by_cases P:c'=c;·subst P;exact⟨_,C⟩
   .obtain⟨T,z2⟩:=I.cell y c' e;exact⟨T,z2.sameBut O P⟩
  .obtain⟨e,n,ne,G,d⟩:=I.pin p hp;refine⟨(O.2 p.1 ?_).trans e,n,ne,G,d⟩;intro q;rw[q,t] at e;have B:oc=p.2:=fF e;exact d K (by rw[<-B];exact Y)
theorem xo{v:V}{Q:Unit->ax->Prop}(I:Inv X pins σ H s)(hN:X.N.Nodup)(hi:X.N[i]?=some x)(hx:Loc X.env.scope x)(r:RelV v u)
  (h:∀s',Inv X pins (σ.set i (some v)) H s'->Q () s') (hf:X.fn x=true\/X.env.scope.names.lookup x=some .local:=by first|exact .inl rfl|exact .inr rfl|assumption):wpAny M A (storeName X.env x u) Q E s:=
 Ft I hN hi hx r (λs' b _=>h s' b) hf
theorem Inv.LN{s':ax}(I:Inv X pins σ H s)(ho:s'.os=s.os)(u:Un (frs X.stack) ch H H' s.heap s'.heap)(hok:cY X.prog X.w H' s'.heap)(hg:fI s'.gens)
  (a:∀b∈ch,(b∈X.ex\/X.s₀.heap.objs.size<=b)/\b≠X.env.locals/\(∀x c,X.env.cells.lookup x=some c->c≠b)/\∀p∈X.pn++pins,p.1≠b):Inv X pins σ H' s':=by
 obtain⟨h',g',d',t',o'⟩:=s';have e:o'=s.os:=ho;subst e;exact I.call (g':=g') (t':=t') (d':=d') u hok hg a
end
abbrev XK:=ae->Option aw->Hp->Prop
noncomputable abbrev qr:=List (Option V)
abbrev VK:=V->Hp->Prop
abbrev TE:=qr->Hp->VK->Prop
abbrev TT:=qr->Hp->(Bool->Hp->Prop)->Prop
abbrev TA:=qr->Hp->(List V->Hp->Prop)->Prop
structure Ends where
 nx:qr->Hp->Prop
 rt:VK
 bk:qr->Hp->Prop:=λ_ _=>False
 ct:qr->Hp->Prop:=λ_ _=>False
abbrev TS:=Ends->qr->Hp->Prop
def EP(X:Cx)(pins:List (aw×Obj))(σ:qr)(Q:VK)(u:ae)(s':ax):Prop:=∃v H',Inv X pins σ H' s'/\RelV v u/\Q v H'
def TP(X:Cx)(pins:List (aw×Obj))(σ:qr)(Q:Bool->Hp->Prop)(b:Bool)(s':ax):Prop:=∃H',Inv X pins σ H' s'/\Q b H'
def AP(X:Cx)(pins:List (aw×Obj))(σ:qr)(Q:List V->Hp->Prop)(us:List ae)(s':ax):Prop:=∃vs H',Inv X pins σ H' s'/\Vals vs us/\Q vs H'
def SP(X:Cx)(pins:List (aw×Obj))(D:Ends)(f:Flow)(s':ax):Prop:=
 match f with
 | .next=>∃C H',Inv X pins C H' s'/\D.nx C H'
 | .brk=>∃C H',Inv X pins C H' s'/\D.bk C H'
 | .cont=>∃C H',Inv X pins C H' s'/\D.ct C H'
 | .ret u=>∃v C H',Inv X pins C H' s'/\RelV v u/\D.rt v H'
def PE(X:Cx)(e:dk)(t:TE):Prop:=
 ∀(pins:List (aw×Obj)) (s:ax) (σ:qr) (H:Hp) (Q:VK),Inv X pins σ H s->t σ H Q->wpAny (bg X.prog X.w) X.A (eval e X.env) (EP X pins σ Q) X.xe s
def PT(X:Cx)(e:dk)(t:TT):Prop:=
 ∀(pins:List (aw×Obj)) (s:ax) (σ:qr) (H:Hp) (Q:Bool->Hp->Prop),Inv X pins σ H s->t σ H Q->wpAny (bg X.prog X.w) X.A (isTrue e X.env (eval e X.env)) (TP X pins σ Q) X.xe s
def PW(X:Cx)(e:dk)(t:TT):Prop:=
 ∀(whole:Sem ae) (pins:List (aw×Obj)) (s:ax) (σ:qr) (H:Hp) (Q:Bool->Hp->Prop),Inv X pins σ H s->t σ H Q->wpAny (bg X.prog X.w) X.A (isTrue e X.env whole) (TP X pins σ Q) X.xe s
theorem PW.pt{X:Cx}{t:TT}(h:PW X e t):PT X e t:=h _
def PA(X:Cx)(es:List dk)(t:TA):Prop:=
 ∀(pos:Pos) (pins:List (aw×Obj)) (s:ax) (σ:qr) (H:Hp) (Q:List V->Hp->Prop),Inv X pins σ H s->t σ H Q->wpAny (bg X.prog X.w) X.A (spliced (er pos (ba es X.env))) (AP X pins σ Q) X.xe s
def PS(X:Cx)(st:eo)(t:TS):Prop:=
 ∀(pins:List (aw×Obj)) (s:ax) (σ:qr) (H:Hp) (D:Ends),Inv X pins σ H s->t D σ H->wpAny (bg X.prog X.w) X.A (exec st X.env) (SP X pins D) X.xe s
def iS(X:Cx)(st:List eo)(t:TS):Prop:=
 ∀(pins:List (aw×Obj)) (s:ax) (σ:qr) (H:Hp) (D:Ends),Inv X pins σ H s->t D σ H->wpAny (bg X.prog X.w) X.A (execs st X.env) (SP X pins D) X.xe s
theorem aI{α:Type}{t:Sem α}{Q i:α->ax->Prop}(h:wpAny M A t Q E s)(g:∀a s,Q a s->i a s):wpAny M A t i E s:=cX h g λ_ _ x=>x
section
variable{X:Cx}
def bE(i:Nat):TE:=λσ H Q=>∃v,σ[i]?=some (some v)/\Q v H
def tC(v:V):TE:=λ_ H Q=>Q v H
theorem KY(hN:X.N[i]?=some x)(hv:BW X.env.scope x)(hd:(x==("__debug__":Str))=false:=by decide)(j:(x==("__classdict__":Str))=false:=by decide):PE X (.Name x pos) (bE i):=by
 intro pins s σ H Q I h;obtain⟨v,e,h⟩:=h;obtain⟨m,hn,hl⟩:=I.loc;obtain⟨u,r,l⟩:=hl i x v hN e hv;have fin:EP X pins σ Q u s:=⟨v,H,I,r,h⟩;rcases l with ⟨hk,hm⟩|⟨hk,c,hc,hcell⟩
 .exact mI (wpAny_loadName_local I.ok.kind hk hn hm fin) hd
 .rcases hk with hk|hk
  .exact mI (wpAny_loadName_cell I.ok.kind hk hc hcell fin) hd
  .exact mI (wpAny_loadName_free I.ok.kind hk hc hcell fin j) hd
theorem ak{i j pos}:PE X (.Constant (.int i) j pos) (tC (.int i)):=λ_ _ _ H _ I h=>wpAny_Constant_int ⟨.int i,H,I.tok _,⟨_,rfl⟩,h⟩
theorem sU{b j pos}:PE X (.Constant (.bool b) j pos) (tC (.bl b)):=λ_ _ _ H _ I h=>Constant_bool ⟨.bl b,H,I,rfl,h⟩
theorem pO{j pos}:PE X (.Constant .none j pos) (tC .aD):=λ_ _ _ H _ I h=>Constant_none ⟨.aD,H,I,rfl,h⟩
def Gl(X:Cx)(x:Str):Prop:=X.env.kindOf x=some .globalImplicit
theorem Fq{σ:qr}{H:Hp}(I:Inv X pins σ H s)(hg:Gl X x)(hm:X.mg x=some u)(h:Q u s)
  (hd:(x==("__debug__":Str))=false:=by decide):wpAny (bg X.prog X.w) X.A (eval (.Name x pos) X.env) Q E s:=
 HS I.ok.kind hg (Calls.loadGlobal_global (by rw[I.ok.glob];exact I.mod.glob.keeps I.bk) hm h) hd
theorem mR{σ:qr}{H:Hp}(I:Inv X pins σ H s)(hg:Gl X x)(hm:X.mg x=none)(hv:ed x=some u)(h:Q u s)
  (hn:x≠"__name__":=by decide) (hd:(x==("__debug__":Str))=false:=by decide):wpAny (bg X.prog X.w) X.A (eval (.Name x pos) X.env) Q E s:=by
 obtain⟨mb,h1,h2⟩:=I.mod.blt;exact HS I.ok.kind hg (Calls.loadGlobal_builtin (by rw[I.ok.glob];exact I.mod.glob.keeps I.bk) hm (by rw[I.ok.blt];exact h1.keeps I.bk) ((h2 x hn).trans hv) h) hd
theorem jv{v:V}(hg:Gl X x)(hm:X.mg x=none)(hv:ed x=some u)(r:RelV v u)(hn:x≠"__name__":=by decide)(hd:(x==("__debug__":Str))=false:=by decide):PE X (.Name x pos) (tC v):=
 λ_ _ _ H _ I h=>mR I hg hm hv ⟨v,H,I,r,h⟩ hn hd
variable{a b:dk}{ta tb:TE}{pos:Pos}
def PC(X:Cx)(op:CmpOp)(a b:dk)(t:TE):Prop:=
 ∀(pins:List (aw×Obj)) (s:ax) (σ:qr) (H:Hp) (Q:VK),Inv X pins σ H s->t σ H Q->
  wpAny (bg X.prog X.w) X.A (eval a X.env) (λv s₁=>wpAny (bg X.prog X.w) X.A (eval b X.env) (λu d=>wpAny (bg X.prog X.w) X.A (cc op v u) (EP X pins σ Q) X.xe d) X.xe s₁) X.xe s
variable{tA vN:TT}{rest:List dk}
def Ay(t u:TT):TT:=λσ H Q=>t σ H λc H1=>if c=true then u σ H1 Q else Q false H1
def yv(t u:TT):TT:=λσ H Q=>t σ H λc H1=>if c=true then Q true H1 else u σ H1 Q
def Cy(t:TT):TT:=λσ H Q=>t σ H λc H1=>Q (!c) H1
theorem w4(ha:PT X a tA):PW X (.BoolOp .And [a] pos) tA:=by
 intro wh pins s σ H Q I h;refine isTrue_and (aI (ha pins s σ H Q I h) λc s1 e=>?_);cases c with
 |true=>exact isTrue_and_nil e
 |false=>exact e
theorem qF(ha:PT X a tA):PW X (.BoolOp .Or [a] pos) tA:=by
 intro wh pins s σ H Q I h;refine isTrue_or (aI (ha pins s σ H Q I h) λc s1 e=>?_);cases c with
 |false=>exact isTrue_or_nil e
 |true=>exact e
theorem vQ(ha:PT X a tA)(hb:PW X (.BoolOp .And (b::rest) pos) vN):PW X (.BoolOp .And (a::b::rest) pos) (Ay tA vN):=by
 intro wh pins s σ H Q I h;refine isTrue_and (aI (ha pins s σ H _ I h) λc s1 ⟨H1,I1,J⟩=>?_);cases c with
 |true=>exact hb wh pins s1 σ H1 Q I1 J
 |false=>exact⟨H1,I1,J⟩
theorem sj(ha:PT X a tA)(hb:PW X (.BoolOp .Or (b::rest) pos) vN):PW X (.BoolOp .Or (a::b::rest) pos) (yv tA vN):=by
 intro wh pins s σ H Q I h;refine isTrue_or (aI (ha pins s σ H _ I h) λc s1 ⟨H1,I1,J⟩=>?_);cases c with
 |true=>exact⟨H1,I1,J⟩
 |false=>exact hb wh pins s1 σ H1 Q I1 J
theorem vA(ha:PT X a tA):PT X (.UnaryOp .Not a pos) (Cy tA):=by
 intro pins s σ H Q I h;exact isTrue_not (ha pins s σ H (λc H1=>Q (!c) H1) I h)
def sG(ta tb:TE):TE:=λσ H Q=>ta σ H λx H1=>∃c,x= .bl c/\if c=true then tb σ H1 Q else Q (.bl false) H1
def En(ta tb:TE):TE:=λσ H Q=>ta σ H λx H1=>∃c,x= .bl c/\if c=true then Q (.bl true) H1 else tb σ H1 Q
def Ds(ta:TE):TE:=λσ H Q=>ta σ H λx H1=>∃c,x= .bl c/\Q (.bl (!c)) H1
theorem zP{op}{t:TE}(h:PE X a t):PE X (.BoolOp op [a] pos) t:=λpins s σ H Q I hw=>BoolOp_one (h pins s σ H Q I hw)
theorem GG(ha:PE X a ta)(hb:PE X (.BoolOp .And (b::rest) pos) tb):PE X (.BoolOp .And (a::b::rest) pos) (sG ta tb):=by
 intro pins s σ H Q I h;refine BoolOp_and (aI (ha pins s σ H _ I h) λv s1 ⟨x,H1,I1,C,J⟩=>?_);obtain⟨c,rfl,J⟩:=J;cases C;refine c3 ?_;cases c with
 |true=>exact hb pins s1 σ H1 Q I1 J
 |false=>exact⟨.bl false,H1,I1,rfl,J⟩
theorem Dg(ha:PE X a ta)(hb:PE X (.BoolOp .Or (b::rest) pos) tb):PE X (.BoolOp .Or (a::b::rest) pos) (En ta tb):=by
 intro pins s σ H Q I h;refine BoolOp_or (aI (ha pins s σ H _ I h) λv s1 ⟨x,H1,I1,C,J⟩=>?_);obtain⟨c,rfl,J⟩:=J;cases C;refine c3 ?_;cases c with
 |false=>exact hb pins s1 σ H1 Q I1 J
 |true=>exact⟨.bl true,H1,I1,rfl,J⟩
theorem Ma(ha:PE X a ta):PE X (.UnaryOp .Not a pos) (Ds ta):=by
 intro pins s σ H Q I h;refine UnaryOp_ (aI (ha pins s σ H _ I h) λv s1 ⟨x,H1,I1,C,J⟩=>?_);obtain⟨c,rfl,J⟩:=J;cases C;exact not_of (c3 ⟨.bl (!c),H1,I1,rfl,J⟩)
def yd(t:TT)(ta tb:TE):TE:=λσ H Q=>t σ H λc H1=>if c=true then ta σ H1 Q else tb σ H1 Q
theorem xJ{c:dk}(hc:PT X c tA)(ha:PE X a ta)(hb:PE X b tb):PE X (.IfExp c a b pos) (yd tA ta tb):=by
 intro pins s σ H Q I h;refine wpAny_IfExp (aI (hc pins s σ H _ I h) λd s1 ⟨H1,I1,J⟩=>?_);cases d with
 |true=>exact ha pins s1 σ H1 Q I1 J
 |false=>exact hb pins s1 σ H1 Q I1 J
end
def aS(K:PySem.W.Frag)(H:Hp)(a:aw)(xs:List V):Prop:=
 Rd H a (.lst xs)\/
  ∃(o:Obj) (its:Array ae) (n:Nat),K.lookup a=some o/\o.cls= .type "list" /\o.dict=none/\o.data= .seq its n/\its.size<=sizeLine/\Vals xs its.toList
def fN(K:PySem.W.Frag)(H:Hp)(a:aw)(xs:List V):Prop:=
 Rd H a (.tup xs)\/
  ∃(o:Obj) (its:Array ae) (n:Nat),K.lookup a=some o/\o.cls= .type "tuple" /\o.data= .seq its n/\its.size<=sizeLine/\Vals xs its.toList
noncomputable def NZ:ae->Option V
 | .none=>some .aD
 | .bool b=>some (.bl b)
 | .int i _=>some (.int i)
 | .str x _=>some (.str x)
 | .bytes b _=>some (.iI b)
 | .float b _=>some (.jW b)
 | .ref a=>some (.ref a)
 | .type n=>some (.ty n)
 |_=>none
theorem RelV.abs{x:V}(r:RelV x u):NZ u=some x:=by
 cases x with
 |aD=>cases r;rfl
 |bl _=>cases r;rfl
 |int _=>obtain⟨t,rfl⟩:=r;rfl
 |str _=>obtain⟨t,rfl⟩:=r;rfl
 |iI _=>obtain⟨t,rfl⟩:=r;rfl
 |jW _=>obtain⟨t,rfl⟩:=r;rfl
 |ref _=>cases r;rfl
 |ty _=>cases r;rfl
theorem RelV.inj{x y:V}(r:RelV x u)(q:RelV y u):x=y:=fF (r.abs.symm.trans q.abs)
theorem Vals.inj{xs ys:List V}{us:List ae}(h:Vals xs us)(k:Vals ys us):xs=ys:=by
 induction h generalizing ys with
 |nil=>cases k;rfl
 |cons r t ih=>cases k with|cons r' t'=>rw[r.inj r',ih t']
section
variable{X:Cx}{pins:List (aw×Obj)}{σ:qr}{H:Hp}{s:ax}{a:aw}{xs ys:List V}
theorem aS.of{K:PySem.W.Frag}(h:H a=some (.lst xs)):aS K H a xs:= .inl (.inl h)
theorem fN.of{K:PySem.W.Frag}(h:H a=some (.tup xs)):fN K H a xs:= .inl (.inl h)
theorem Inv.list(I:Inv X pins σ H s)(h:aS X.K H a xs):∃its:List ae,Vals xs its/\PlainL s.heap a its.toArray/\xs.length<=sizeLine:=by
 rcases h with h|⟨o,its,n,hk,hc,hd,hs,hz,r⟩
 .obtain⟨z,its,n,r,e⟩:=h.ok I.hok;exact⟨its,r,⟨_,n,e,rfl,rfl,rfl⟩,z⟩
 .refine⟨its.toList,r,⟨o,n,I.cC a o hk,hc,hd,by simpa using hs⟩,?_⟩;have e:=r.length;simp only[gZ] at e;omega
theorem Inv.tuple(I:Inv X pins σ H s)(h:fN X.K H a xs):∃its:List ae,Vals xs its/\IsTup s.heap a its.toArray/\xs.length<=sizeLine:=by
 rcases h with h|⟨o,its,n,hk,hc,hs,hz,r⟩
 .obtain⟨z,its,r,p⟩:=h.ok I.hok;exact⟨its,r,p,z⟩
 .refine⟨its.toList,r,⟨o,I.cC a o hk,hc,n,by simpa using hs⟩,?_⟩;have e:=r.length;simp only[gZ] at e;omega
theorem Inv.Kq(I:Inv X pins σ H s)(h:aS X.K H a xs)(h':aS X.K H a ys):xs=ys:=by
 obtain⟨its,r,⟨o,n,e,_,_,d⟩,_⟩:=I.list h;obtain⟨its',r',⟨o',c,e',_,_,d'⟩,_⟩:=I.list h';rw[e] at e';cases e'
 rw[d] at d';injection d' with d1 _
 have:its=its':=by simpa using congrArg Array.toList d1
 subst this;exact r.inj r'
end
noncomputable abbrev Cx.j9(X:Cx)(E:ae->ax->Prop):Cx:={X with xe:=E}
noncomputable abbrev Cx.uZ(X:Cx):Cx:=X.j9 λ_ _=>False
theorem Cx.Ok.j9{X:Cx}(ok:X.Ok)(E:ae->ax->Prop):(X.j9 E).Ok:=
 ⟨ok.mod,ok.kind,ok.glob,ok.blt,ok.above,ok.inj,ok.has,ok.rN,ok.hd,ok.frames,ok.stk,ok.vj,ok.bs,ok.l6,ok.qK,ok.qL,ok.jm,ok.nS⟩
theorem Cx.Ok.lM{X:Cx}(ok:(X.j9 E).Ok):X.Ok:=
 ⟨ok.mod,ok.kind,ok.glob,ok.blt,ok.above,ok.inj,ok.has,ok.rN,ok.hd,ok.frames,ok.stk,ok.vj,ok.bs,ok.l6,ok.qK,ok.qL,ok.jm,ok.nS⟩
section
variable{X:Cx}{pins:List (aw×Obj)}{σ:qr}{H:Hp}{s:ax}{E:ae->ax->Prop}
theorem Inv.j9(I:Inv X pins σ H s)(E:ae->ax->Prop):Inv (X.j9 E) pins σ H s:=⟨I.ok.j9 E,I.os,I.bare,I.base,I.loc,I.cell,I.free,I.jX,I.pin,I.hok,I.len⟩
theorem Inv.lM(I:Inv (X.j9 E) pins σ H s):Inv X pins σ H s:=⟨I.ok.lM,I.os,I.bare,I.base,I.loc,I.cell,I.free,I.jX,I.pin,I.hok,I.len⟩
theorem SP.lM{D:Ends}{f:Flow}{s':ax}(h:SP (X.j9 E) pins D f s'):SP X pins D f s':=by
 cases f with
 |next=>obtain⟨C,H',I,q⟩:=h;exact⟨C,H',I.lM,q⟩
 |brk=>obtain⟨C,H',I,q⟩:=h;exact⟨C,H',I.lM,q⟩
 |cont=>obtain⟨C,H',I,q⟩:=h;exact⟨C,H',I.lM,q⟩
 |ret u=>obtain⟨v,C,H',I,r,q⟩:=h;exact⟨v,C,H',I.lM,r,q⟩
theorem iS.uZ{st:List eo}{t:TS}(h:iS X.uZ st t):iS X st t:=λpins s σ H D I hw=>
 cX (h pins s σ H D (I.j9 _) hw) (λ_ _ q=>q.lM) λ_ _ z=>cw z
end
section
variable{X:Cx}{st:eo}{rest:List eo}{t u:TS}{e:dk}{te:TE}{pos:Pos}
def Co:TS:=λD σ H=>D.nx σ H
def jR(t u:TS):TS:=λD σ H=>t {D with nx:=u D} σ H
theorem fR:iS X [] Co:=λ_ _ σ H _ I h=>eC ⟨σ,H,I,h⟩
theorem az(h1:PS X st t)(h2:iS X rest u):iS X (st::rest) (jR t u):=by
  intro pins s σ H D I h;refine j2 (aI (h1 pins s σ H {D with nx:=u D} I h) λf s1 q=>?_);cases f with
  | next =>
    obtain⟨C,H',b,q⟩:=q;exact h2 pins s1 C H' D b q
  |ret v=>exact q
  |brk=>exact q
  |cont=>exact q
theorem aL(h1:PS X st t):iS X [st] t:=by
 intro pins s σ H D I h;refine j2 (aI (h1 pins s σ H D I h) λf s1 q=>?_);cases f with
 |next=>exact eC q
 |ret v=>exact q
 |brk=>exact q
 |cont=>exact q
def Nq:TS:=λD σ H=>D.bk σ H
def UZ:TS:=λD σ H=>D.ct σ H
theorem Inv.quiet{σ:qr}{H:Hp}(I:Inv X pins σ H s):interactive X.env=false:=by simp[interactive,I.ok.kind]
def sr(te:TE):TS:=λD σ H=>te σ H λ_ H1=>D.nx σ H1
theorem lP(he:PE X e te)(O:k6 e none pos.line X.env=pure false:=by rfl):PS X (.Expr e pos) (sr te):=by
 intro pins s σ H D I h;exact wpAny_Expr_any (aI (he pins s σ H _ I h) λv s1 ⟨x,H1,I1,C,J⟩=>⟨σ,H1,I1,J⟩) I.quiet O
def lG(te:TE):TS:=λD σ H=>te σ H D.rt
theorem bY(he:PE X e te):PS X (.Return (some e) pos) (lG te):=by
 intro pins s σ H D I h;exact wpAny_Return_some (aI (he pins s σ H _ I h) λv s1 ⟨x,H1,I1,C,J⟩=>⟨x,σ,H1,I1,C,J⟩)
def qy(c:TT)(t u:TS):TS:=λD σ H=>c σ H λb H1=>if b=true then t D σ H1 else u D σ H1
theorem fG{c:dk}{a b:List eo}{tc:TT}(hc:PT X c tc)(ha:iS X a t)(hb:iS X b u):PS X (.If c a b pos) (qy tc t u):=by
 intro pins s σ H D I h;refine wpAny_If (aI (hc pins s σ H _ I h) λd s1 ⟨H1,I1,J⟩=>?_);cases d with
 |true=>exact ha pins s1 σ H1 D I1 J
 |false=>exact hb pins s1 σ H1 D I1 J
end
abbrev TG:=V->qr->Hp->(qr->Hp->Prop)->Prop
abbrev gX:=List V->qr->Hp->(qr->Hp->Prop)->Prop
def PG(X:Cx)(a:dk)(t:TG):Prop:=
 ∀(pins:List (aw×Obj)) (s:ax) (σ:qr) (H:Hp) (v:V) (u:ae) (Q:qr->Hp->Prop),Inv X pins σ H s->RelV v u->t v σ H Q->
  wpAny (bg X.prog X.w) X.A (mJ a X.env u) (λ_ s'=>∃C H',Inv X pins C H' s'/\Q C H') X.xe s
def rR(X:Cx)(b:List dk)(t:gX):Prop:=
 ∀(pins:List (aw×Obj)) (s:ax) (σ:qr) (H:Hp) (vs:List V) (us:List ae) (Q:qr->Hp->Prop),Inv X pins σ H s->Vals vs us->t vs σ H Q->
  wpAny (bg X.prog X.w) X.A (assignInOrder ((ej b X.env).map (·.2)) us) (λ_ s'=>∃C H',Inv X pins C H' s'/\Q C H') X.xe s
abbrev wG:=V->V->V->Hp->(Hp->Prop)->Prop
def AL(X:Cx)(t:wG):Prop:=
 ∀(pins:List (aw×Obj)) (s:ax) (σ:qr) (H:Hp) (o i v:V) (b a u:ae) (Q:Hp->Prop),Inv X pins σ H s->RelV o b->RelV i a->RelV v u->t o i v H Q->
  wpAny (bg X.prog X.w) X.A (setItem b a u) (λ_ s'=>∃H',Inv X pins σ H' s'/\Q H') X.xe s
section
variable{X:Cx}{pos:Pos}
def eV(i:Nat):TG:=λv σ H Q=>Q (σ.set i (some v)) H
theorem cg(hN:X.N.Nodup)(hi:X.N[i]?=some x)(hx:Loc X.env.scope x)(hf:X.fn x=true\/X.env.scope.names.lookup x=some .local:=by first|exact .inl rfl|exact .inr rfl|assumption):PG X (.Name x pos) (eV i):=by
 intro pins s σ H v u Q I r h;exact ij (xo I hN hi hx r (λs' b=>⟨_,H,b,h⟩) hf)
def yq:gX:=λvs σ H Q=>vs=[]/\Q σ H
def Ar(t:TG)(u:gX):gX:=λvs σ H Q=>∃v r,vs=v::r/\t v σ H λC H'=>u r C H' Q
theorem oQ:rR X [] yq:=by
 intro pins s σ H vs us Q I r h;obtain⟨e,h⟩:=h;subst e;cases r;exact ik ⟨σ,H,I,h⟩
theorem gy{e:dk}{es:List dk}{t:TG}{u:gX}(h1:PG X e t)(h2:rR X es u)
    (O:(ej (e::es) X.env).map (·.2)=mJ e X.env::(ej es X.env).map (·.2):=by rfl):rR X (e::es) (Ar t u):=by
  intro pins s σ H vs us Q I r h;obtain⟨v,vr,e1,h⟩:=h;subst e1;cases r with
  | cons r m =>
    rw[O];refine eM (aI (h1 pins s σ H _ _ _ I r h) λ_ s1 ⟨a,H1,I1,J⟩=>?_);exact h2 pins s1 a H1 _ _ Q I1 m J
def vX(K:PySem.W.Frag)(n:Nat)(t:gX):TG:=λv σ H Q=>∃a xs,v= .ref a/\fN K H a xs/\xs.length=n/\t xs σ H Q
theorem Jz{k:Nat}{t:gX}(hc:X.calm=true)(h:rR X es t)
  (hn:(ej es X.env).length=n:=by rfl) (d:(ej es X.env).findIdx? (·.1)=none:=by rfl):PG X (.Tuple es k pos) (vX X.K n t):=by
 intro pins s σ H v u Q I r hw;obtain⟨a,xs,e1,hq,hl,hw⟩:=hw;subst e1;cases r;obtain⟨its,rv,ht,hz⟩:=I.tuple hq;refine assign_Tuple_tuple (I.ok.hd hc) ht (by simp[hn,<-hl,rv.length]) d λh' hx=>?_;have I1:Inv X pins σ H {s with heap:=h'}:=I.kept (t':=s.toks) λb o e=>hx b o (cJ (bz e)) e;exact h pins _ σ H xs _ Q I1 (by simpa using rv) hw
def pV(to c:TE)(t:wG):TG:=λv σ H Q=>to σ H λo H1=>c σ H1 λi H2=>t o i v H2 λH3=>Q σ H3
theorem jz{o i:dk}{to c:TE}{t:wG}(ho:PE X o to)(hi:PE X i c)(O:AL X t)
  (ha : ∀ v, assign (.Subscript o i pos) X.env v = (do
   let b<-holding [v] (eval o X.env)
   let a<-holding [v,b] (eval i X.env)
   standAt pos
   holding [v,b,a] (setItem b a v)
   release [v,b,a] []):=by intro _;rfl):PG X (.Subscript o i pos) (pV to c t):=by
 intro pins s σ H v u Q I r h;rw[ha];refine ar (cx (aI (ho pins s σ H _ I h) λb s1 ⟨x,H1,I1,C,J⟩=>?_));refine ar (cx (aI (hi pins s1 σ H1 _ I1 J) λa s2 ⟨y,H2,I2,N,q2⟩=>?_));refine ar (fe (ar (cx (aI (O pins s2 σ H2 x y v b a u _ I2 C N r q2) λ_ U ⟨H3,I3,L⟩=>?_))));exact wpAny_release ⟨σ,H3,I3,L⟩
def fk(te:TE)(g:TG):TS:=λD σ H=>te σ H λx H1=>g x σ H1 D.nx
theorem jc{te:TE}{g:TG}(he:PE X e te)(hg:PG X tg g)(O:nf [tg] e pos.line X.env=pure false:=by rfl)(hw:ng [tg] e X.env=pure none:=by rfl)
  (h1:(ej [tg] X.env).map (·.2)=[mJ tg X.env]:=by rfl):PS X (.Assign [tg] e pos) (fk te g):=by
 intro pins s σ H D I h;refine wpAny_Assign_stores (aI (he pins s σ H _ I h) λv s1 ⟨x,H1,I1,C,J⟩=>?_) O hw;rw[h1];exact aI (hg pins s1 σ H1 x v _ I1 C J) λ_ s2 q=>q
theorem aN{i:Nat}{x:Str}{e:dk}{te:TE}{pos':Pos}(hN:X.N.Nodup)(hi:X.N[i]?=some x)(hx:Loc X.env.scope x)(he:PE X e te)(O:k6 e (some (.Name x pos')) pos.line X.env=pure false:=by rfl)(hf:X.fn x=true\/X.env.scope.names.lookup x=some .local:=by first|exact .inl rfl|exact .inr rfl|assumption):
  PS X (.Assign [.Name x pos'] e pos) (fk te (eV i)):=by
 intro pins s σ H D I h;refine wpAny_Assign_Name (aI (he pins s σ H _ I h) λv s1 ⟨y,H1,I1,C,J⟩=>?_) O;exact xo I1 hN hi hx C (λs2 I2=>⟨_,H1,I2,J⟩) hf
def Hf(i j:Nat)(ta:TA):TS:=λD σ H=>ta σ H λvs H1=>∃v w,vs=[v,w]/\D.nx ((σ.set i (some v)).set j (some w)) H1
theorem UL{i j:Nat}{x y:Str}{a b:dk}{ta:TA}{f c pt:Pos}{kt k2 pt2}(hc:X.calm=true)(hN:X.N.Nodup)(hi:X.N[i]?=some x)(hj:X.N[j]?=some y)(hij:i≠j)
    (hx:X.env.scope.names.lookup x=some .local) (hy:X.env.scope.names.lookup y=some .local) (ha:PA X [a,b] ta)
    (hw:ng [.Tuple [.Name x f, .Name y c] kt pt] (.Tuple [a,b] k2 pt2) X.env=pure (some [x,y]))
    (O:nf [.Tuple [.Name x f, .Name y c] kt pt] (.Tuple [a,b] k2 pt2) pos.line X.env=pure false:=by rfl):
    PS X (.Assign [.Tuple [.Name x f, .Name y c] kt pt] (.Tuple [a,b] k2 pt2) pos) (Hf i j ta):=by
  intro pins s σ H D I h;rw[exec_Assign_arm];refine ar (fe ?_);rw[O];refine ar (a0 ?_);rw[if_neg ⋯];refine ar (Tuple_ (aI (ha _ pins s σ H _ I h) λus s1 ⟨vs,H1,I1,C,J⟩=>?_));obtain⟨v,w,e1,J⟩:=J;subst e1;obtain⟨u1,u2,rfl,rv,d⟩:∃u1 u2,us=[u1,u2]/\RelV v u1/\RelV w u2:=by
    cases C with
    | cons p q =>
      cases q with
      | cons k B =>
        cases B;exact⟨_,_,rfl,p,k⟩
  refine eR ?_ (by show 2<=sizeLine;decide);have I2:Inv X pins σ H1 {s1 with heap:=s1.heap.push {cls:= .type "tuple",data:= .seq [u1,u2].toArray}}:=I1.kept (t':=s1.toks) λb o e=>dB _ e;rw[hw];refine ar (a0 ?_);show wpAny (bg X.prog X.w) X.A (do rule "assign.swapped-stores";let items<-unpackItems (.ref s1.heap.objs.size) 2 none;assignInOrder [λv=>nr X.env y v,λv=>nr X.env x v] items.reverse;pure q5) _ _ _;refine ar (wpAny_rule (ar (unpackItems_tuple (items:= #[u1,u2]) (I.ok.hd hc) (IsTup.new s1.heap _) λh' L=>?_)));have I3:=I2.kept (h':=h') (t':=s1.toks) λb o e=>L b o (cJ (bz e)) e;show wpAny _ _ (assignInOrder [λv=>nr X.env y v,λv=>nr X.env x v] [u2,u1]>>=λ_=>pure q5) _ _ _;refine ar (eM (mo (xo I3 hN hj (.inl hy) d (λs2 t=>?_) (.inr hy))));refine eM (mo (xo t hN hi (.inl hx) rv (λU S=>ik (a0 ?_)) (.inr hx)));rw[List.set_comm _ _ (bX hij)] at S;exact⟨_,H1,S,J⟩
end
section
variable{X:Cx}{pos:Pos}
def A0(c:TT)(tb:TS):TS:=λD σ H=>∃W:Nat->qr->Hp->Prop,(∃m,W m σ H)/\∀m σ H,W m σ H->
 c σ H λb H1=>if b=true then∃N:qr->Hp->Prop,(∀C H',N C H'->∃M,M<m/\W M C H')/\tb {D with nx:=N,ct:=N,bk:=D.nx} σ H1 else D.nx σ H1
theorem CD{c:dk}{a:List eo}{tc:TT}{tb:TS}(hp:PassesOwn (bg X.prog X.w) X.A X.env X.xe)(hc:PT X c tc)(hb:iS X a tb):PS X (.While c a [] pos) (A0 tc tb):=by
  intro pins s σ H D I h;obtain⟨W,⟨m0,w0⟩,E⟩:=h;refine wpAny_While (codeAny_whileLoop (λn s'=>∃σ' H',Inv X pins σ' H' s'/\W n σ' H') ?_ m0 ⟨σ,H,I,w0⟩);rintro n s1 ⟨σ1,H1,I1,w1⟩;refine c4 hp (aI (hc pins s1 σ1 H1 _ I1 (E n σ1 H1 w1)) λb s2 ⟨H2,I2,q2⟩=>?_);cases b with
  | true =>
    obtain⟨N,hN,q2⟩:=q2;rw[if_pos rfl];refine c4 hp (aI (hb pins s2 σ1 H2 _ I2 q2) λf U L=>?_);cases f with
    | next =>
      obtain⟨d,H3,I3,j⟩:=L;obtain⟨M,hm,e⟩:=hN d H3 j;exact⟨M,hm,d,H3,I3,e⟩
    | cont =>
      obtain⟨d,H3,I3,j⟩:=L;obtain⟨M,hm,e⟩:=hN d H3 j;exact⟨M,hm,d,H3,I3,e⟩
    |brk=>exact L
    |ret v=>exact L
  | false =>
    rw[if_neg cT];exact eC ⟨σ1,H2,I2,q2⟩
end
structure It where
 go:Nat->Hp->Prop
 m5:Nat->Hp->V->Hp->Prop
 stop:Nat->Hp->Prop
def j6(X:Cx)(pins:List (aw×Obj))(H:Hp)(b:aw):Prop:=
 H b=none/\b≠X.env.locals/\b∉X.fs/\(b∈X.ex\/X.s₀.heap.objs.size<=b)/\(∀x c,X.env.cells.lookup x=some c->c≠b)/\∀p∈X.pn++pins,p.1≠b
theorem Inv.BG{X:Cx}{σ:qr}{H H':Hp}(I:Inv X pins σ H s)(hb:s.heap.objs.size<=b)(hn:H' b=none):j6 X pins H' b:=by
 refine⟨hn,Cb (fJ I.lt hb),I.Qp hb, .inr (dZ I.sz hb),λx c e z=>?_,λp hp z=>?_⟩
 .obtain⟨v,q⟩:=I.cell x c e;exact absurd (fJ q.lt (by rw[z];exact hb)) (jJ _)
 .exact absurd (fJ (bz (I.pin p hp).1) (by rw[z];exact hb)) (jJ _)
structure Turn(P:bc)(w:bw)(K:PySem.W.Frag)(tg:dk)(J:It)(fp:List aw)(it:aw)(tn:Nat->dc->Prop):Prop where
 mem:it∈fp
 obj:∀i h,tn i h->∀b∈fp,∃o,h.get? b=some o/\∀v,o.data≠ .cell v
 keep:∀i h h',tn i h->(∀b∈fp,∀o,h.get? b=some o->h'.get? b=some o)->tn i h'
 item:∀(X:Cx),X.prog=P->X.w=w->X.K=K->X.calm=true->∀(i:Nat) (pins:List (aw×Obj)) (s:ax) (σ:qr) (H:Hp) (E:ae->ax->Prop),Inv X pins σ H s->(∀b∈fp,j6 X pins H b)->tn i s.heap->J.go i H->
  wpAny (bg P w) X.A (qc (.ref it)) (λr s1=>∃u,r=some u/\
   wpAny (bg P w) X.A (eD tg (.ref it) u) (λ_ s2=>∃x H',Inv X pins σ H' s2/\RelV x u/\J.m5 i H x H'/\tn (i+1) s2.heap/\∀b∈fp,H' b=none) E s1) E s
 done:∀(X:Cx),X.prog=P->X.w=w->X.K=K->X.calm=true->∀(i:Nat) (pins:List (aw×Obj)) (s:ax) (σ:qr) (H:Hp) (E:ae->ax->Prop),Inv X pins σ H s->(∀b∈fp,j6 X pins H b)->tn i s.heap->J.stop i H->
  wpAny (bg P w) X.A (qc (.ref it)) (λr s1=>r=none/\Inv X pins σ H s1) E s
 self:∀(A:cj) (i:Nat) (s:ax) (Q:ae->ax->Prop) (E:ae->ax->Prop),tn i s.heap->Q (.ref it) s->wpAny (bg P w) A (pyIter (.ref it)) Q E s
abbrev TI:=qr->Hp->(It->Hp->Prop)->Prop
def JD(X:Cx)(pins:List (aw×Obj))(σ:qr)(tg:dk)(R:It->Hp->Prop)(itv:ae)(s2:ax):Prop:=
 ∃(it:aw) (fp:List aw) (tn:Nat->dc->Prop) (J:It) (H':Hp),itv= .ref it/\Inv X pins σ H' s2/\Turn X.prog X.w X.K tg J fp it tn/\tn 0 s2.heap/\(∀b∈fp,j6 X pins H' b)/\R J H'
def PI(X:Cx)(tg l:dk)(F:TI):Prop:=
 ∀(pins:List (aw×Obj)) (s:ax) (σ:qr) (H:Hp) (R:It->Hp->Prop),Inv X pins σ H s->F σ H R->
  wpAny (bg X.prog X.w) X.A (eval l X.env) (λv s1=>wpAny (bg X.prog X.w) X.A (pyIter v) (JD X pins σ tg R) X.xe s1) X.xe s
theorem HY{it:aw}{o:Obj}{n:String}{vs:Array ae}{Q:Unit->ax->Prop}(ho:s.heap.get? it=some o)(hc:o.cls= .type n)(hd:o.data= .fields vs)
    (hn:["enumerate","zip","dict_itemiterator","dict_reverseitemiterator","odict_iterator","itertools.zip_longest","itertools.pairwise"].contains n=false) (g:Q () s):wpAny M A (eD tg (.ref it) u) Q E s:=by
  unfold eD
  cases tg<;>first
    |exact a0 g
    |(cases u<;>first
        |exact a0 g
        | (refine wpAny_bind (wpAny_load ho ?_)
           rw[hc,hd];show wpAny M A (if(["enumerate","zip","dict_itemiterator","dict_reverseitemiterator","odict_iterator","itertools.zip_longest","itertools.pairwise"].contains n && vs[0]?==some (rawInt _))=true then _ else _) Q E s;rw[if_neg (by intro h;rw[hn,Bool.false_and] at h;cases h)];exact a0 g))
noncomputable def nD(K:PySem.W.Frag)(a:aw):It:=
 ⟨λi H=>∃xs x,aS K H a xs/\xs[i]?=some x,λi H x H'=>H'=H/\∀xs,aS K H a xs->xs[i]?=some x,λi H=>∃xs,aS K H a xs/\xs.length<=i⟩
noncomputable def i8(lo:Int)(n:Nat):It:=⟨λi _=>i<n,λi H x H'=>H'=H/\x= .int (lo+i),λi _=>n<=i⟩
theorem S8{P:bc}{K:PySem.W.Frag}(a it:aw):Turn P w K tg (nD K a) [it] it (λi h=>h.IsListIter it a i) where
 mem:=by simp
 obj:=λi h st b hb=>by
  have e:b=it:=by simpa using hb
  subst e;obtain⟨o,e,c,d⟩:=st;exact⟨o,e,λv z=>by rw[d] at z;cases z⟩
 keep:=λi h h' st k=>st.at λo e=>k it (by simp) o e
 item:=by
  intro X hP hw hK hc i pins s σ H E I hf st hg;subst hP hw hK;obtain⟨xs,x,hq,hx⟩:=hg;obtain⟨its,rv,p,hz⟩:=I.list hq;obtain⟨u,F,D⟩:=rv.get hx;obtain⟨g,f,Z,l,r,J⟩:=hf it (by simp);refine wpAny_pyNext_list_item st p.isList (x:=u) (by simpa using F) λh' y G=>?_;have I1:Inv X pins σ H {s with heap:=h'}:=I.turned (t':=s.toks) (λb o hb e=>(G.2 b hb).trans e) g f l r J;obtain⟨o,e,c,d⟩:=id y;exact⟨u,rfl,HY (s:={s with heap:=h'}) e c d ⋯ ⟨x,H,I1,D,⟨rfl,λys hy=>by rw[I.Kq hy hq];exact hx⟩,y,λb hb=>(hf b hb).1⟩⟩
 done:=by
  intro X hP hw hK hc i pins s σ H E I hf st hg;subst hP hw hK;obtain⟨xs,hq,hx⟩:=hg;obtain⟨its,rv,p,hz⟩:=I.list hq;obtain⟨g,f,Z,l,r,J⟩:=hf it (by simp);have hl:=rv.length;exact wpAny_pyNext_list_end (I.ok.hd hc) st p.isList (by simp;omega) λh' A=>⟨rfl,I.turned (t':=s.toks) (λb o hb e=>A b o hb e) g f l r J⟩
 self:=λ_ _ _ _ _ st h=>wpAny_pyIter_listiter st h
theorem O1{P:bc}{K:PySem.W.Frag}(it:aw)(lo:Int)(n:Nat):Turn P w K tg (i8 lo n) [it] it (λi h=>IsRangeIter h it (lo+(i:Nat)*1) ((n:Int)-(i:Nat)) 1) where
 mem:=by simp
 obj:=λi h st b hb=>by
  have e:b=it:=by simpa using hb
  subst e
  exact⟨_,st,λv z=>by
   have z':Data.fields _=Data.cell v:=z;cases z'⟩
 keep:=λi h h' st k=>k it (by simp) _ st
 item:=by
  intro X hP hw hK hc i pins s σ H E I hf st hg;subst hP hw hK;obtain⟨g,f,Z,l,r,J⟩:=hf it (by simp);have W:=Walks.range (prog:=X.prog) (w:=X.w) (I.ok.hd hc) it lo 1 n;refine W.item i s _ _ hg st λv h' L hv y kk=>?_;obtain⟨t,rfl⟩:=hv;have I1:Inv X pins σ H {s with heap:=h',toks:=L}:=I.turned (λb o hb e=>kk b o (by simpa using hb) e) g f l r J;refine⟨_,rfl,HY (s:={s with heap:=h',toks:=L}) (n:="range_iterator") y rfl rfl ⋯ ⟨.int (lo+i),H,I1,⟨t,?_⟩,⟨rfl,rfl⟩,y,λb hb=>(hf b hb).1⟩⟩;rw[xA]
 done:=by
  intro X hP hw hK hc i pins s σ H E I hf st hg;subst hP hw hK;obtain⟨g,f,Z,l,r,J⟩:=hf it (by simp);exact wpAny_pyNext_range_end (I.ok.hd hc) st (by have:n<=i:=hg;omega) λh' A=>⟨rfl,I.turned (t':=s.toks) (λb o hb e=>A b o hb e) g f l r J⟩
 self:=λ_ _ _ _ _ st h=>wpAny_pyIter_rangeiter st h
section
variable{X:Cx}{tg:dk}
def qV(K:PySem.W.Frag)(tl:TE):TI:=λσ H R=>tl σ H λx H1=>∃a,x= .ref a/\(∃xs,aS K H1 a xs)/\R (nD K a) H1
theorem Sq{l:dk}{tl:TE}(hl:PE X l tl):PI X tg l (qV X.K tl):=by
 intro pins s σ H R I h;refine aI (hl pins s σ H _ I h) λv s1 ⟨x,H1,I1,C,J⟩=>?_;obtain⟨a,e,⟨xs,hq⟩,q⟩:=J;subst e;cases C;obtain⟨its,rv,p,hz⟩:=I1.list hq;refine il p.isList ?_;refine⟨s1.heap.objs.size,[s1.heap.objs.size],_,_,H1,rfl,I1.kept (t':=s1.toks) λb o e=>dB _ e,S8 a _,⟨_,gH _ rfl,rfl,rfl⟩,λb hb=>?_,q⟩;have e:b=s1.heap.objs.size:=by simpa using hb
 subst e;exact I1.BG (bh _) (I1.hok.fresh (bh _))
theorem Ey{σ:qr}{H:Hp}{R:It->Hp->Prop}{lo hi:Int}{t u v:Tok}{L:Nat}(I:Inv X pins σ H s)(h1: -(2^62)<=lo)(h2:lo<2^62)(h3: -(2^62)<=hi)(h4:hi<2^62)
  (q:R (i8 lo (hi-lo).toNat) H):wpAny (bg X.prog X.w) X.A (pyIter (.ref s.heap.objs.size)) (JD X pins σ tg R) E {s with heap:=s.heap.push {cls:= .type "range",data:= .fields #[.int lo t, .int hi u, .int 1 v]},toks:=L}:=by
 refine wpAny_pyIter_range (IsRange.new ..) (small_one h1 h2 h3 h4) ?_;have I1:Inv X pins σ H {s with heap:=s.heap.push {cls:= .type "range",data:= .fields #[.int lo t, .int hi u, .int 1 v]},toks:=L}:=I.kept λb o e=>dB _ e
 refine⟨(s.heap.push {cls:= .type "range",data:= .fields #[.int lo t, .int hi u, .int 1 v]}).objs.size,[(s.heap.push {cls:= .type "range",data:= .fields #[.int lo t, .int hi u, .int 1 v]}).objs.size],_,_,H,rfl,
  I1.kept (t':=L) λb o e=>dB _ e,O1 _ lo (hi-lo).toNat,?_,λb hb=>?_,q⟩
 .have e1:lo+((0:Nat):Int)*1=lo:=by simp
  have e2:(((hi-lo).toNat:Nat):Int)-((0:Nat):Int)=nz lo hi 1:=by rw[rangeSize_one];split<;>omega
  show IsRangeIter _ _ (lo+((0:Nat):Int)*1) ((((hi-lo).toNat:Nat):Int)-((0:Nat):Int)) 1;rw[e1,e2];exact gH _ rfl
 .have e:b=(s.heap.push {cls:= .type "range",data:= .fields #[.int lo t, .int hi u, .int 1 v]}).objs.size:=by simpa using hb
  subst e;exact I1.BG (bh _) (I1.hok.fresh (bh _))
def wR(ta:TA):TI:=λσ H R=>ta σ H λvs H1=>∃j:Int,vs=[.int j]/\ -(2^62)<=j/\j<2^62/\R (i8 0 j.toNat) H1
def yZ(ta:TA):TI:=λσ H R=>ta σ H λvs H1=>∃i j:Int,vs=[.int i, .int j]/\(-(2^62)<=i/\i<2^62/\ -(2^62)<=j/\j<2^62)/\R (i8 i (j-i).toNat) H1
theorem pU{a:dk}{ta:TA}{p:Pos}(hg:Gl X "range")(hm:X.mg "range"=none)(ha:PA X [a] ta)(O:ba [a] X.env=[(false,eval a X.env)]:=by rfl):PI X tg (.Call (.Name "range" p) [a] [] pos) (wR ta):=by
  intro pins s σ H R I h;refine Call_ (mR I hg hm HK (qw (aI (ha pos pins s σ H _ I h) λus s1 ⟨vs,H1,I1,C,J⟩=>?_) O rfl));obtain⟨j,e,J,q2,q⟩:=J;subst e;cases C with
  | cons r m =>
    cases m;obtain⟨t,rfl⟩:=r;exact call_range_1 (Ey I1 ∅ ∅ J q2 (by simpa using q))
theorem tw{a b:dk}{ta:TA}{p:Pos}(hg:Gl X "range")(hm:X.mg "range"=none)(ha:PA X [a,b] ta)(O:ba [a,b] X.env=[(false,eval a X.env),(false,eval b X.env)]:=by rfl)(Y:ba [b] X.env=[(false,eval b X.env)]:=by rfl):
    PI X tg (.Call (.Name "range" p) [a,b] [] pos) (yZ ta):=by
  intro pins s σ H R I h;refine Call_ (mR I hg hm HK (qw (aI (ha pos pins s σ H _ I h) λus s1 ⟨vs,H1,I1,C,J⟩=>?_) (by rw[O,Y]) (by rw[Y];rfl)));obtain⟨i,j,e,⟨J,q2,L,c⟩,q⟩:=J;subst e;cases C with
  | cons r m =>
    cases m with
    | cons r' m =>
      cases m;obtain⟨t,rfl⟩:=r;obtain⟨t',rfl⟩:=r';exact call_range_2 (Ey I1 J q2 L c q)
def qf(F:TI)(g:TG)(tb:TS):TS:=λD σ H=>F σ H λJ H1=>∃W:Nat->Nat->qr->Hp->Prop,(∃m,W 0 m σ H1)/\∀i m σ H,W i m σ H->
 (J.stop i H/\D.nx σ H)\/(J.go i H/\∃N:qr->Hp->Prop,(∀C H',N C H'->∃M,M<m/\W (i+1) M C H')/\∀x H',J.m5 i H x H'->g x σ H' λc H2=>tb {D with nx:=N,ct:=N,bk:=D.nx} c H2)
noncomputable def rE(fp:List aw)(h:dc):List (aw×Obj):=fp.filterMap λb=>(h.get? b).map λo=>(b,o)
theorem vU{o:Obj}(hb:b∈fp)(e:h.get? b=some o):(b,o)∈rE fp h:=z7.mpr ⟨b,hb,by rw[e];rfl⟩
theorem Ug{p:aw×Obj}(hp:p∈rE fp h):p.1∈fp/\h.get? p.1=some p.2:=by
  obtain⟨b,hb,e⟩:=z7.mp hp;cases q:h.get? b with
  |none=>rw[q] at e;cases e
  | some o =>
    rw[q] at e;have e':(b,o)=p:=fF e;subst e';exact⟨hb,q⟩
theorem Inv.pinned{σ:qr}{H:Hp}(I:Inv X pins σ H s)(hf:∀b∈fp,j6 X pins H b)(ho:∀b∈fp,∃o,s.heap.get? b=some o/\∀v,o.data≠ .cell v):Inv X (pins++rE fp s.heap) σ H s:=
 I.Er λp hp=>(ia.mp hp).elim (λz=>I.pin p (iG _ z)) λz=>by
  obtain⟨hb,e⟩:=Ug z;obtain⟨g,f,Z,_⟩:=hf p.1 hb;obtain⟨o,e',d⟩:=ho p.1 hb;rw[e] at e';cases e'
  exact⟨e,g,f,Z,d⟩
theorem Inv.wD{pl:List (aw×Obj)}{σ:qr}{H:Hp}(I:Inv X (pins++pl) σ H s):Inv X pins σ H s:=I.Er λp hp=>I.pin p (iG _ (mU _ hp))
theorem jP{l:dk}{a:List eo}{F:TI}{g:TG}{tb:TS}(hp:PassesOwn (bg X.prog X.w) X.A X.env X.xe)(hc:X.calm=true)(hi:PI X tg l F)(hg:PG X tg g)(hb:iS X a tb)
  (O:∀x,ek l X.env x=pure x:=by intro _;rfl):PS X (.For tg l a [] pos) (qf F g tb):=by
 intro pins s σ H D I h;refine wpAny_For (aI (hi pins s σ H _ I h) λv s1 h1=>aI h1 λitv s2 h2=>?_) O;obtain⟨it,fp,tn,J,H2,e,I2,T,st2,Z,W,⟨m0,w0⟩,E⟩:=h2;subst e;have mz:∀{H':Hp},(∀b∈fp,H' b=none)->∀b∈fp,j6 X pins H' b:=λhn b hb=>⟨hn b hb,(Z b hb).2⟩;refine codeAny_forLoop_any (λn s'=>∃i σ' H',Inv X pins σ' H' s'/\tn i s'.heap/\(∀b∈fp,H' b=none)/\W i n σ' H') ?_ m0 ⟨0,σ,H2,I2,st2,λb hb=>(Z b hb).1,w0⟩;rintro n s3 ⟨i,σ3,H3,I3,st3,fr3,w3⟩;rcases E i n σ3 H3 w3 with ⟨stop,qn⟩|⟨go,N,hN,step⟩
 .refine c4 hp (aI (T.done X rfl rfl rfl hc i pins s3 σ3 H3 X.xe I3 (mz fr3) st3 stop) λr s4 ⟨hr,t⟩=>?_);subst hr;exact eC ⟨σ3,H3,t,qn⟩
 .refine c4 hp (aI (T.item X rfl rfl rfl hc i pins s3 σ3 H3 X.xe I3 (mz fr3) st3 go) λr s4 ⟨u,hr,h4⟩=>?_);subst hr;refine c4 hp (aI h4 λ_ s5 ⟨x,H5,S,r5,y5,nP,zf⟩=>?_);have CH:=S.pinned (mz zf) (T.obj _ _ nP);refine c4 hp (aI (hg _ s5 σ3 H5 x u _ CH r5 (step x H5 y5)) λ_ s6 ⟨qG,H6,I6,q6⟩=>?_);refine c4 hp (aI (hb _ s6 qG H6 _ I6 q6) λf s7 U=>?_);have again:∀{c:qr} {V:Hp},Inv X (pins++rE fp s5.heap) c V s7->N c V->∃m,m<n/\∃i σ' H',Inv X pins σ' H' s7/\tn i s7.heap/\(∀b∈fp,H' b=none)/\W i m σ' H':=λ{c V} P j=>by
   obtain⟨M,hm,p⟩:=hN c V j;refine⟨M,hm,i+1,c,V,P.wD,T.keep _ _ _ nP λb hb o e=>(P.pin (b,o) (iG _ (iG _ (vU hb e)))).1,λb hb=>?_,p⟩;obtain⟨o,e,d⟩:=T.obj _ _ nP b hb;exact(P.pin (b,o) (iG _ (iG _ (vU hb e)))).2.1
  cases f with
  |next=>obtain⟨c,V,P,j⟩:=U;exact again P j
  |cont=>obtain⟨c,V,P,j⟩:=U;exact again P j
  |brk=>obtain⟨c,V,P,U⟩:=U;exact⟨c,V,P.wD,U⟩
  |ret v=>obtain⟨R,c,V,P,k,U⟩:=U;exact⟨R,c,V,P.wD,k,U⟩
end
theorem JM{K:PySem.W.Frag}{xs:List V}{g:TG}{tb:TS}{D:Ends}{σ:qr}{H:Hp}(Pv:Nat->qr->Hp->Prop)(h0:Pv 0 σ H)(hl:∀i σ H,i<=xs.length->Pv i σ H->aS K H a xs)
  (O:∀i x σ H,xs[i]?=some x->Pv i σ H->g x σ H λc H2=>tb {D with nx:=Pv (i+1),ct:=Pv (i+1),bk:=D.nx} c H2) (hd:∀σ H,Pv xs.length σ H->D.nx σ H):
  ∃W:Nat->Nat->qr->Hp->Prop,(∃m,W 0 m σ H)/\∀i m σ H,W i m σ H->
   ((nD K a).stop i H/\D.nx σ H)\/((nD K a).go i H/\∃N:qr->Hp->Prop,(∀C H',N C H'->∃M,M<m/\W (i+1) M C H')/\∀x H',(nD K a).m5 i H x H'->g x σ H' λc H2=>tb {D with nx:=N,ct:=N,bk:=D.nx} c H2):=by
 refine⟨λi m σ H=>m=xs.length-i/\i<=xs.length/\Pv i σ H,⟨xs.length,by simp,iE _,h0⟩,?_⟩;rintro i m σ H ⟨rfl,hi,p⟩;have q:=hl i σ H hi p;by_cases B:i<xs.length
 .refine .inr ⟨⟨xs,xs[i],q,by simp[B]⟩,Pv (i+1),λC H' k=>⟨xs.length-(i+1),∅,rfl,B,k⟩,λx H' y=>?_⟩;obtain⟨e,y⟩:=y;subst e;exact O i x σ _ (y xs q) p
 .have e:i=xs.length:=∅
  subst e;exact .inl ⟨⟨xs,q,bh _⟩,hd σ H p⟩
theorem C9{lo:Int}{g:TG}{tb:TS}{D:Ends}{σ:qr}{H:Hp}(Pv:Nat->qr->Hp->Prop)(h0:Pv 0 σ H)
  (O:∀i σ H,i<n->Pv i σ H->g (.int (lo+i)) σ H λc H2=>tb {D with nx:=Pv (i+1),ct:=Pv (i+1),bk:=D.nx} c H2) (hd:∀σ H,Pv n σ H->D.nx σ H):
  ∃W:Nat->Nat->qr->Hp->Prop,(∃m,W 0 m σ H)/\∀i m σ H,W i m σ H->
   ((i8 lo n).stop i H/\D.nx σ H)\/((i8 lo n).go i H/\∃N:qr->Hp->Prop,(∀C H',N C H'->∃M,M<m/\W (i+1) M C H')/\∀x H',(i8 lo n).m5 i H x H'->g x σ H' λc H2=>tb {D with nx:=N,ct:=N,bk:=D.nx} c H2):=by
 refine⟨λi m σ H=>m=n-i/\i<=n/\Pv i σ H,⟨n,by simp,iE _,h0⟩,?_⟩;rintro i m σ H ⟨rfl,hi,p⟩;by_cases B:i<n
 .refine .inr ⟨B,Pv (i+1),λC H' k=>⟨n-(i+1),∅,rfl,B,k⟩,λx H' y=>?_⟩;obtain⟨e,y⟩:=y;subst e y;exact O i σ _ B p
 .have e:i=n:=∅
  subst e;exact .inl ⟨bh _,hd σ H p⟩
theorem Lw{c:TT}{tb:TS}{D:Ends}{σ:qr}{H:Hp}(Pv:qr->Hp->Prop)(a:qr->Hp->Nat)(h0:Pv σ H)
  (O:∀σ H,Pv σ H->c σ H λb H1=>if b=true then tb {D with nx:=λC H'=>Pv C H'/\a C H'<a σ H,ct:=λC H'=>Pv C H'/\a C H'<a σ H,bk:=D.nx} σ H1 else D.nx σ H1)
  (mono:∀σ H Q i,(∀b H1,Q b H1->i b H1)->c σ H Q->c σ H i):A0 c tb D σ H:=by
 refine⟨λm σ H=>m=a σ H/\Pv σ H,⟨_,rfl,h0⟩,?_⟩;rintro m σ H ⟨rfl,p⟩;refine mono σ H _ _ (λb H1 q=>?_) (O σ H p);cases b with
 |true=>exact⟨_,λC H' ⟨k,l⟩=>⟨_,l,rfl,k⟩,q⟩
 |false=>exact q
abbrev R2:=V->V->Hp->VK->Prop
def dj(X:Cx)(f:ae->ae->Sem ae)(r:R2):Prop:=
 ∀(pins:List (aw×Obj)) (s:ax) (σ:qr) (H:Hp) (x y:V) (v u:ae) (Q:VK),Inv X pins σ H s->RelV x v->RelV y u->r x y H Q->
  wpAny (bg X.prog X.w) X.A (f v u) (EP X pins σ Q) X.xe s
def gQ(X:Cx)(f:ae)(r:List V->Hp->VK->Prop):Prop:=
 ∀(pins:List (aw×Obj)) (s:ax) (σ:qr) (H:Hp) (xs:List V) (us:List ae) (Q:VK),Inv X pins σ H s->Vals xs us->r xs H Q->
  wpAny (bg X.prog X.w) X.A (call f us) (EP X pins σ Q) X.xe s
def O5(X:Cx)(r:V->Hp->(Bool->Hp->Prop)->Prop):Prop:=
 ∀(pins:List (aw×Obj)) (s:ax) (σ:qr) (H:Hp) (x:V) (v:ae) (Q:Bool->Hp->Prop),Inv X pins σ H s->RelV x v->r x H Q->
  wpAny (bg X.prog X.w) X.A (truthy v) (TP X pins σ Q) X.xe s
def c8(r:R2)(ta tb:TE):TE:=λσ H Q=>ta σ H λx H1=>tb σ H1 λy H2=>r x y H2 Q
def DP(r:V->Hp->VK->Prop)(ta:TE):TE:=λσ H Q=>ta σ H λx H1=>r x H1 Q
def rI(C:Int->Int->Prop)(g:Int->Int->V):R2:=λx y H Q=>∃i j,x= .int i/\y= .int j/\C i j/\Q (g i j) H
def g7(g:Int->Int->V):R2:=λx y H Q=>∃i j,x= .int i/\y= .int j/\Q (g i j) H
section
variable{X:Cx}{a b c:dk}{ta tb tc:TE}{pos:Pos}
theorem yJ(ha:PE X a ta)(hb:PE X b tb){pins:List (aw×Obj)}{s:ax}{σ:qr}{H:Hp}{R:V->V->Hp->Prop}(I:Inv X pins σ H s)
  (h:ta σ H λx H1=>tb σ H1 λy H2=>R x y H2) {Q:ae->ax->Prop} {f:ae->ae->Sem ae}
  (hf:∀v u s2 x y H2,Inv X pins σ H2 s2->RelV x v->RelV y u->R x y H2->wpAny (bg X.prog X.w) X.A (f v u) Q X.xe s2):
  wpAny (bg X.prog X.w) X.A (eval a X.env) (λv s₁=>wpAny (bg X.prog X.w) X.A (eval b X.env) (λu d=>wpAny (bg X.prog X.w) X.A (f v u) Q X.xe d) X.xe s₁) X.xe s:=by
 refine aI (ha pins s σ H _ I h) λv s1 ⟨x,H1,I1,C,J⟩=>?_;refine aI (hb pins s1 σ H1 _ I1 J) λu s2 ⟨y,H2,I2,N,q2⟩=>?_;exact hf v u s2 x y H2 I2 C N q2
theorem aH{op:Operator}{r:R2}(ho:dj X (fg op) r)(ha:PE X a ta)(hb:PE X b tb):PE X (.BinOp a op b pos) (c8 r ta tb):=by
 intro pins s σ H Q I h;exact wpAny_BinOp (yJ ha hb I h λv u s2 x y H2 I2 j d q=>ho pins s2 σ H2 x y v u Q I2 j d q)
theorem tS{f:ae->ae->Sem ae}{C:Int->Int->Prop}{g:Int->Int->Int}
  (rule:∀(i j:Int) (t u:Tok) (s:ax) (Q:ae->ax->Prop) (E:ae->ax->Prop),C i j->Q (.int (g i j) s.toks) {s with toks:=s.toks+1}->wpAny (bg X.prog X.w) X.A (f (.int i t) (.int j u)) Q E s):
  dj X f (rI C λi j=> .int (g i j)):=by
 intro pins s σ H x y v u Q I rx ry h;obtain⟨i,j,rfl,rfl,hc,q⟩:=h;obtain⟨t,rfl⟩:=rx;obtain⟨t',rfl⟩:=ry;exact rule i j t t' s _ _ hc ⟨.int (g i j),H,I.tok _,⟨_,rfl⟩,q⟩
theorem EV{f:ae->ae->Sem ae}{g:Int->Int->Int}
  (rule:∀(i j:Int) (t u:Tok) (s:ax) (Q:ae->ax->Prop) (E:ae->ax->Prop),Q (.int (g i j) s.toks) {s with toks:=s.toks+1}->wpAny (bg X.prog X.w) X.A (f (.int i t) (.int j u)) Q E s):
  dj X f (g7 λi j=> .int (g i j)):=by
 intro pins s σ H x y v u Q I rx ry h;obtain⟨i,j,rfl,rfl,q⟩:=h;obtain⟨t,rfl⟩:=rx;obtain⟨t',rfl⟩:=ry;exact rule i j t t' s _ _ ⟨.int (g i j),H,I.tok _,⟨_,rfl⟩,q⟩
theorem sQ{f:ae->ae->Sem ae}{g:Int->Int->Bool}
  (rule:∀(i j:Int) (t u:Tok) (s:ax) (Q:ae->ax->Prop) (E:ae->ax->Prop),Q (.bool (g i j)) s->wpAny (bg X.prog X.w) X.A (f (.int i t) (.int j u)) Q E s):
  dj X f (g7 λi j=> .bl (g i j)):=by
 intro pins s σ H x y v u Q I rx ry h;obtain⟨i,j,rfl,rfl,q⟩:=h;obtain⟨t,rfl⟩:=rx;obtain⟨t',rfl⟩:=ry;exact rule i j t t' s _ _ ⟨.bl (g i j),H,I,rfl,q⟩
def yu(i j:Int):Prop:=0<=j/\j<=1000000/\i.natAbs<2^64
def uY(i j:Int):Prop:=(-(2^64)<i/\i<2^64)\/(-(2^64)<j/\j<2^64)
theorem uY.ok{i j:Int}(h:uY i j):IntMulOk i j:=by
 rcases h with ⟨h1,h2⟩|⟨h1,h2⟩
 .exact .of_left (nE h1 h2)
 .exact .of_right (nE h1 h2)
theorem eB:dj X (fg .Add) (g7 λi j=> .int (i+j)):=EV λ_ _ _ _ _ _ _ q=>add_int q
theorem iJ:dj X (fg .Sub) (g7 λi j=> .int (i-j)):=EV λ_ _ _ _ _ _ _ q=>sub_int q
theorem gY:dj X (fg .Mod) (rI (λ_ j=>0<j) λi j=> .int (i%j)):=tS λi j _ _ _ _ _ hc q=>by
 have h1:(0:Int)<j:=hc;exact mod_int' ∅ (by rw[Int.fmod_eq_emod_of_nonneg i ∅];exact q)
theorem uS:dj X (fg .Pow) (rI yu λi j=> .int (i^j.toNat)):=tS λ_ _ _ _ _ _ _ hc q=>pow_int_small hc.1 hc.2.1 hc.2.2 q
end
noncomputable def CC:V->V->Bool
 | .aD, .aD=>true| .aD, .int _=>true| .int _, .aD=>true| .aD, .bl _=>true| .bl _, .aD=>true| .aD, .str _=>true| .str _, .aD=>true
 | .int _, .int _=>true| .bl _, .bl _=>true| .str _, .str _=>true| .iI _, .iI _=>true
 | .int _, .str _=>true| .str _, .int _=>true| .bl _, .str _=>true| .str _, .bl _=>true
 |_,_=>false
def AG:R2:=λx y H Q=>CC x y=true/\Q (.bl (decide (x=y))) H
def yM:R2:=λx y H Q=>CC x y=true/\Q (.bl (!decide (x=y))) H
theorem IL{i j:Int}:decide (V.int i=V.int j)=(i==j):=by
 rw[mH];simp
theorem FG{i j:Bool}:decide (V.bl i=V.bl j)=(i==j):=by
 rw[mH];simp
theorem Dj{i j:Str}:decide (V.str i=V.str j)=(i==j):=by
 rw[mH];simp
theorem Ed{i j:Array UInt8}:decide (V.iI i=V.iI j)=(i.toList==j.toList):=by
 rw[mH];cases i;cases j;simp
section
variable{X:Cx}{a b c:dk}{ta tb tc:TE}{pos:Pos}
theorem cG{σ:qr}{H:Hp}{Q:VK}{k k':Bool}(I:Inv X pins σ H s)(q:Q (.bl k) H)(e:k=k'):EP X pins σ Q (.bool k') s:=by
 subst e;exact⟨.bl k,H,I,rfl,q⟩
theorem jZ:dj X (cc .Eq) AG:=by
  intro pins s σ H x y v u Q I rx d h;obtain⟨O,q⟩:=h;cases x with
  | aD =>
    cases rx;cases y with
    |aD=>cases d;exact PySem.EqNone.eq_none_none (cG I q (by simp))
    |bl j=>cases d;exact PySem.EqNone.eq_none_bool (cG I q (by simp))
    |int j=>obtain⟨t',rfl⟩:=d;exact PySem.EqNone.eq_none_int (cG I q (by simp))
    |str j=>obtain⟨t',rfl⟩:=d;exact PySem.EqNone.eq_none_str (cG I q (by simp))
    |_=>exact absurd (show false=true from O) cT
  | bl i =>
    cases rx;cases y with
    |aD=>cases d;exact PySem.EqNone.eq_bool_none (cG I q (by simp))
    |bl j=>cases d;exact eq_bool (cG I q FG)
    |str j=>obtain⟨t',rfl⟩:=d;exact PySem.EqMixed.eq_bool_str (cG I q (by simp))
    |_=>exact absurd (show false=true from O) cT
  | int i =>
    obtain⟨t,rfl⟩:=rx;cases y with
    |aD=>cases d;exact PySem.EqNone.eq_int_none (cG I q (by simp))
    |int j=>obtain⟨t',rfl⟩:=d;exact eq_int (cG I q IL)
    |str j=>obtain⟨t',rfl⟩:=d;exact PySem.EqMixed.eq_int_str (cG I q (by simp))
    |_=>exact absurd (show false=true from O) cT
  | str i =>
    obtain⟨t,rfl⟩:=rx;cases y with
    |aD=>cases d;exact PySem.EqNone.eq_str_none (cG I q (by simp))
    |bl j=>cases d;exact PySem.EqMixed.eq_str_bool (cG I q (by simp))
    |int j=>obtain⟨t',rfl⟩:=d;exact PySem.EqMixed.eq_str_int (cG I q (by simp))
    |str j=>obtain⟨t',rfl⟩:=d;exact eq_str (cG I q Dj)
    |_=>exact absurd (show false=true from O) cT
  | iI i =>
    obtain⟨t,rfl⟩:=rx;cases y with
    |iI j=>obtain⟨t',rfl⟩:=d;exact PySem.W.eq_bytes (cG I q Ed)
    |_=>exact absurd (show false=true from O) cT
  |_=>cases y<;>exact absurd (show false=true from O) cT
theorem lX:dj X (cc .NotEq) yM:=by
  intro pins s σ H x y v u Q I rx d h;obtain⟨O,q⟩:=h;cases x with
  | aD =>
    cases rx;cases y with
    |aD=>cases d;exact PySem.EqNone.ne_none_none (cG I q (by simp))
    |bl j=>cases d;exact PySem.EqNone.ne_none_bool (cG I q (by simp))
    |int j=>obtain⟨t',rfl⟩:=d;exact PySem.EqNone.ne_none_int (cG I q (by simp))
    |str j=>obtain⟨t',rfl⟩:=d;exact PySem.EqNone.ne_none_str (cG I q (by simp))
    |_=>exact absurd (show false=true from O) cT
  | bl i =>
    cases rx;cases y with
    |aD=>cases d;exact PySem.EqNone.ne_bool_none (cG I q (by simp))
    |bl j=>cases d;exact ne_bool (cG I q (congrArg not FG))
    |str j=>obtain⟨t',rfl⟩:=d;exact PySem.EqMixed.ne_bool_str (cG I q (by simp))
    |_=>exact absurd (show false=true from O) cT
  | int i =>
    obtain⟨t,rfl⟩:=rx;cases y with
    |aD=>cases d;exact PySem.EqNone.ne_int_none (cG I q (by simp))
    |int j=>obtain⟨t',rfl⟩:=d;exact ne_int (cG I q (congrArg not IL))
    |str j=>obtain⟨t',rfl⟩:=d;exact PySem.EqMixed.ne_int_str (cG I q (by simp))
    |_=>exact absurd (show false=true from O) cT
  | str i =>
    obtain⟨t,rfl⟩:=rx;cases y with
    |aD=>cases d;exact PySem.EqNone.ne_str_none (cG I q (by simp))
    |bl j=>cases d;exact PySem.EqMixed.ne_str_bool (cG I q (by simp))
    |int j=>obtain⟨t',rfl⟩:=d;exact PySem.EqMixed.ne_str_int (cG I q (by simp))
    |str j=>obtain⟨t',rfl⟩:=d;exact ne_str (cG I q (congrArg not Dj))
    |_=>exact absurd (show false=true from O) cT
  | iI i =>
    obtain⟨t,rfl⟩:=rx;cases y with
    |iI j=>obtain⟨t',rfl⟩:=d;exact PySem.W.ne_bytes (cG I q (congrArg not Ed))
    |_=>exact absurd (show false=true from O) cT
  |_=>cases y<;>exact absurd (show false=true from O) cT
theorem wN:dj X (cc .Lt) (g7 λi j=> .bl (decide (i<j))):=sQ λ_ _ _ _ _ _ _ q=>lt_int q
theorem Ur:dj X (cc .LtE) (g7 λi j=> .bl (decide (i<=j))):=sQ λ_ _ _ _ _ _ _ q=>le_int q
theorem HU:dj X (cc .Gt) (g7 λi j=> .bl (decide (j<i))):=sQ λ_ _ _ _ _ _ _ q=>gt_int q
theorem HX:dj X (cc .GtE) (g7 λi j=> .bl (decide (j<=i))):=sQ λ_ _ _ _ _ _ _ q=>ge_int q
theorem MW:dj X (cc .Is) (λx y H Q=>y= .aD/\Q (.bl (decide (x= .aD))) H):=by
 intro pins s σ H x y v u Q I j ry h;obtain⟨rfl,q⟩:=h;cases ry;refine is_none_gen (cG I q ?_)
 cases x<;>first
  |(cases j;rfl)
  |(obtain⟨t,rfl⟩:=j;rfl)
theorem K7:dj X (cc .IsNot) (λx y H Q=>y= .aD/\Q (.bl (!decide (x= .aD))) H):=by
 intro pins s σ H x y v u Q I j ry h;obtain⟨rfl,q⟩:=h;cases ry;refine isnot_none_gen (cG I q ?_)
 cases x<;>first
  |(cases j;rfl)
  |(obtain⟨t,rfl⟩:=j;rfl)
theorem cA(b:dk){op:CmpOp}(h:op≠ .In:=by decide)(h2:op≠ .NotIn:=by decide):behindInMarks op b=false:=by
 have e1:(op==CmpOp.In)=false:=by cases op<;>first|rfl|exact absurd rfl h
 have e2:(op==CmpOp.NotIn)=false:=by cases op<;>first|rfl|exact absurd rfl h2
 cases b<;>simp[behindInMarks,e1,e2]
theorem vK{op:CmpOp}{r:R2}(ho:dj X (cc op) r)(ha:PE X a ta)(hb:PE X b tb)(hm:behindInMarks op b=false):PE X (.Compare a [op] [b] pos) (c8 r ta tb):=by
 intro pins s σ H Q I h;exact wpAny_Compare1 (yJ ha hb I h λv u s2 x y H2 I2 j d q=>ho pins s2 σ H2 x y v u Q I2 j d q) hm
def CA(t:TE):TT:=λσ H Q=>t σ H λx H'=>∃k,x= .bl k/\Q k H'
theorem cU{op:CmpOp}{r:R2}(ho:dj X (cc op) r)(ha:PE X a ta)(hb:PE X b tb)(hm:behindInMarks op b=false):PT X (.Compare a [op] [b] pos) (CA (c8 r ta tb)):=by
 intro pins s σ H Q I h
 refine wpAny_isTrue_Compare1 (aI (ha pins s σ H _ I h) λv s1 ⟨x,H1,I1,C,J⟩=>aI (hb pins s1 σ H1 _ I1 J) λu s2 ⟨y,H2,I2,N,q2⟩=>
  aI (ho pins s2 σ H2 x y v u _ I2 C N q2) λc U ⟨z,H3,I3,l,k,e,L⟩=>?_) hm
 subst e;cases l;exact c3 ⟨H3,I3,L⟩
def AW(K:PySem.W.Frag)(x:V)(H:Hp)(k:Bool):Prop:=
 match x with
 | .aD=>k=false
 | .bl b=>k=b
 | .int i=>k=(i !=0)
 | .str y=>y.length<=sizeLine/\k=((y.length:Int) !=0)
 | .iI y=>y.size<=sizeLine/\k=((y.size:Int) !=0)
 | .ref p=>(∃xs,aS K H p xs/\k=!xs.isEmpty)\/(∃xs,fN K H p xs/\k=!xs.isEmpty)\/∃kvs,H p=some (.dK kvs)/\k=!kvs.isEmpty
 |_=>False
theorem Qn{κ:Type}{kvs:List (κ×V)}{vs:List (κ×ae)}(r:KV kvs vs):(!vs.isEmpty)=!kvs.isEmpty:=by
 cases r<;>rfl
theorem Jt{xs:List V}(r:Vals xs its):(!its.toArray.isEmpty)=!xs.isEmpty:=by
 cases r<;>simp
theorem pC:(sizeLine:Nat)<2^63:=by rw[ea];decide
theorem Pj:O5 X (λx H Q=>∃k,AW X.K x H k/\Q k H):=by
  intro pins s σ H x v Q I rx h;obtain⟨k,e,q⟩:=h;have hl:=pC;have O:sizeLine=16777216:=ea;cases x with
  | aD =>
    cases rx;have e':k=false:=e;subst e';exact truthy_none ⟨H,I,q⟩
  | bl b =>
    cases rx;have e':k=b:=e;subst e';exact c3 ⟨H,I,q⟩
  | int i =>
    obtain⟨t,rfl⟩:=rx;have e':k=(i !=0):=e;subst e';exact PySem.P.truthy_int ⟨H,I,q⟩
  | str y =>
    obtain⟨t,rfl⟩:=rx;obtain⟨hy,e'⟩:y.length<=sizeLine/\k=((y.length:Int) !=0):=e;subst e';exact PySem.P.truthy_str ∅ ⟨H,I.tok _,q⟩
  | iI y =>
    obtain⟨t,rfl⟩:=rx;obtain⟨hy,e'⟩:y.size<=sizeLine/\k=((y.size:Int) !=0):=e;subst e';exact PySem.W.truthy_bytes ∅ ⟨H,I.tok _,q⟩
  | ref p =>
    cases rx;have e':(∃xs,aS X.K H p xs/\k=!xs.isEmpty)\/(∃xs,fN X.K H p xs/\k=!xs.isEmpty)\/∃kvs,H p=some (.dK kvs)/\k=!kvs.isEmpty:=e;rcases e' with ⟨xs,hx,e'⟩|⟨xs,hx,e'⟩|⟨kvs,hx,e'⟩
    · subst e'
      obtain⟨its,r,pl,hz⟩:=I.list hx;have hlen:=r.length;exact wpAny_truthy_list pl.isList (by simp only[cV];omega) ⟨H,I.tok _,by rw[Jt r];exact q⟩
    · subst e'
      obtain⟨its,r,pl,hz⟩:=I.tuple hx;have hlen:=r.length;exact truthy_tuple pl (by simp only[cV];omega) ⟨H,I.tok _,by rw[Jt r];exact q⟩
    · subst e'
      obtain⟨hz,N,vs,r,m⟩:kvs.length<=sizeLine/\(p==dC)=false/\∃vs,KV kvs vs/\s.heap.DictOf (gR X.prog X.w) p vs:=I.hok p _ hx;have hlen:kvs.length=vs.length:=Paired.length r;exact wpAny_truthy_dict N m ∅ ⟨H,I.tok _,by rw[Qn r];exact q⟩
  |_=>exact(show False from e).elim
theorem J9(ha:PE X a ta)(he:∀whole,isTrue a X.env whole=(do let v<-whole;standAt a.pos;holding [v] (truthy v))):
  PT X a (λσ H Q=>ta σ H λx H'=>∃k,AW X.K x H' k/\Q k H'):=by
 intro pins s σ H Q I h;exact isTrue_plain (aI (ha pins s σ H _ I h) λv s1 ⟨x,H1,I1,C,J⟩=>Pj pins s1 σ H1 x v Q I1 C J) (he _)
theorem vals1{x:V}(r:Vals [x] us):∃u,us=[u]/\RelV x u:=by
 cases r with
 |cons C N=>cases N;exact⟨_,rfl,C⟩
theorem O3:gQ X (.builtin "abs") (λxs H Q=>∃i,xs=[.int i]/\Q (.int (if i<0 then-i else i)) H):=by
 intro pins s σ H xs us Q I r h;obtain⟨i,rfl,q⟩:=h;obtain⟨u,rfl,t,rfl⟩:=vals1 r;exact call_abs_int λu L=>⟨.int (if i<0 then-i else i),H,I.tok _,⟨_,rfl⟩,q⟩
end
structure m6(h:dc)(x dx C:aw)(mA:Str->Option ae):Prop where
 obj:h.get? x=some (PySem.W.instObj C dx)
 ns:h.Ns1 dx mA
 ne:dx≠x
theorem Qk(n:h.Ns1 dx mA):∃od,h.get? dx=some od/\∀name,PySem.W.lookIn name od=some (mA name):=by
 obtain⟨o,es,ep,ho,hd,hk,_,hm⟩:=n;refine⟨o,ho,λname=>?_⟩;have e:=hm name;unfold nsFind findBy at e;rw[<-Array.find?_toList] at e;unfold PySem.W.lookIn;rw[hd];dsimp only;split
 .rename_i y q
  rw[q] at e;exact congrArg some e
 .rename_i q
  rw[q] at e;have a:es.toList.any (·.refKey)=false:=by
   rw[List.any_eq_false];intro y hy;obtain⟨z,t,b⟩:=hk y (Array.mem_toList_iff.mp hy);simp[qQ,b]
  have k:¬es.toList.any (·.refKey)=true:=by rw[a];exact cT
  rw[if_neg k];exact congrArg some e
theorem m6.look{x:aw}(I:m6 h x dx C mA):∃od,PySem.W.InstAt h x (PySem.W.instObj C dx) C (some od)/\∀name,PySem.W.lookIn name od=some (mA name):=
 let ⟨od,ho,hl⟩:=Qk I.ns
 ⟨od,⟨I.obj,rfl,rfl,ho⟩,hl⟩
section
variable{prog:bc}{w:bw}{A:cj}{E:ae->ax->Prop}{s:ax}{K:PySem.W.Frag}{x dx C f:aw}{mA:Str->Option ae}{name:Str}{v:ae}
theorem get_map{a:Bool}(X:K.In s.heap)(I:m6 s.heap x dx C mA)(hg:PySem.W.plainGet K C name=true)(D:PySem.W.hasDictIn K C=true)
  (ha:PySem.W.findIn K (.ref C) name=some none) (hv:mA name=some v) (c:PySem.W.handedIn v=true) (h:Q v {s with toks:=s.toks+1}):
  wpAny (bg prog w) A (getAttr (.ref x) name a) Q E s:=by
 obtain⟨od,J,hl⟩:=I.look;exact PySem.W.get_value X J (B6 hg).1 (PySem.W.findObj_own D ha rfl (by rw[hl,hv])) c h
theorem Qx{Q:ae×List ae->ax->Prop}(X:K.In s.heap)(I:m6 s.heap x dx C mA)(hg:PySem.W.plainGet K C name=true)
  (hf:PySem.W.findIn K (.ref C) name=some (some (.ref f))) (ht:PySem.W.isFn K (.ref f)=true) (hv:mA name=none) (h:Q (.ref f,[.ref x]) s):
  wpAny (bg prog w) A (gd (.ref x) name pl) Q E s:=by
 obtain⟨od,J,hl⟩:=I.look;exact PySem.W.method_fn X J (B6 hg).1 (B6 hg).2 hf (beq_iff_eq.mp ht) (by show(PySem.W.lookIn name od).map (·.isSome)=some false;rw[hl,hv];rfl) h
theorem LL{ns:List Str}{Q:Unit->ax->Prop}(X:K.In s.heap)(I:m6 s.heap x dx C mA)
  (O:PySem.W.findIn K (.ref C) "__setattr__"=some (some (.builtin "object.__setattr__"))) (hp:PySem.W.plainOver K C=true) (ht:PySem.W.takerIn K C name=some none) (D:PySem.W.hasDictIn K C=true)
  (hw:PySem.Within mA ns) (hsz:ns.length<=sizeLine)
  (h:∀h',m6 h' x dx C (λy=>if y=name then some v else mA y)->eL dx s.heap h'->Q () {s with heap:=h',toks:=s.toks+2}):
  wpAny (bg prog w) A (setAttr (.ref x) name v) Q E s:=by
 obtain⟨od,J,hl⟩:=I.look;refine PySem.W.set_plain X J O (PySem.W.osa_open (s:={s with toks:=s.toks+1}) (r:=none) X J hp ht λb=>?_);obtain⟨m,hc,p⟩:=PySem.W.any_some D;have hx:s.heap.get? x=some ⟨.ref C,some dx, .plain,#[]⟩:=I.obj;refine ar (a0 (ar (ar (wpAny_loadPart hx (ar (PySem.W.Looks.here (s:={s with toks:=s.toks+1}) (PySem.W.looks_clsIn X hc) ?_))))));rw[p];refine a0 (a:=some dx) (ar (a0 (ar ?_)));refine wpAny_nsSet1 (s:={s with toks:=s.toks+1}) I.ns λh' M Y=>?_;obtain⟨oD,e,Vj,c,d,f⟩:=M.count (PySem.Within.cons name v hw);refine ar (wpAny_lookBehind c (by rw[d];exact pastItsLine_dict (dZ f (by rw[cH];omega))) ?_);exact a0 (h _ ⟨(Y.2 _ (bX I.ne)).trans I.obj,M,I.ne⟩ Y)
theorem Kr{R:qk->ax->Prop}{a:List (Str×ae)}(X:K.In s.heap)(hm:PySem.W.makesIn K C=true)
  (hi:PySem.W.findIn K (.ref C) "__init__"=some (some (.ref f))) (hf:PySem.W.typeIn K (.ref f)=some (.type "function"))
  (h : codeAny (model prog w) (A.under (.builtin "type.__call__" ⟨.ref C :: vs, a⟩)) (.call (.ref f) ⟨.ref (s.heap.objs.size + 1) :: vs, a⟩) (PySem.W.InitBack (s.heap.objs.size + 1) R)
   {s with heap:=(s.heap.push PySem.W.emptyDict).push (PySem.W.instObj C s.heap.objs.size)}):
  codeAny (bg prog w) A (.call (.ref C) ⟨vs,a⟩) R s:=by
 obtain⟨D,g,d,t,os⟩:=s;exact PySem.W.make_core (PySem.W.makes_of X hm) (PySem.W.looks_findIn X hi) (λself=>PySem.W.bind_fn X self hf) (.inl rfl) h
end
noncomputable def eU(f:Str)(v:V):List (Str×V)->List (Str×V)
 |[]=>[(f,v)]
 |(g,x)::r=>if g=f then(g,v)::r else(g,x)::eU f v r
theorem Fw(f g:Str)(v:V):∀fs:List (Str×V),(eU f v fs).lookup g=if g=f then some v else fs.lookup g
  | [] => by
    show el g [(f,v)]=_;by_cases h:g=f
    · have hb:(g==f)=true:=beq_iff_eq.mpr h
      simp only[el,hb,if_pos h]
    · have hb:(g==f)=false:=beq_eq_false_iff_ne.mpr h
      simp only[el,hb,if_neg h]
  | (k, x) :: r => by
    have ih:=Fw f g v r;rw[show eU f v ((k,x)::r)=(if k=f then(k,v)::r else(k,x)::eU f v r) from rfl];by_cases hk:k=f
    · rw[if_pos hk]
      by_cases h:g=k
      · have hb:(g==k)=true:=beq_iff_eq.mpr h
        simp only[el,hb,if_pos (h.trans hk)]
      · have hb:(g==k)=false:=beq_eq_false_iff_ne.mpr h
        simp only[el,hb,if_neg (λe:g=f=>h (e.trans hk.symm))]
    · rw[if_neg hk]
      by_cases h:g=k
      · have hb:(g==k)=true:=beq_iff_eq.mpr h
        simp only[el,hb,if_neg (λe:g=f=>hk (h.symm.trans e))]
      · have hb:(g==k)=false:=beq_eq_false_iff_ne.mpr h
        simp only[el,hb];exact ih
theorem zS(f:Str)(v:V):∀fs:List (Str×V),f∈(eU f v fs).map (·.1)/\∀g,g∈fs.map (·.1)->g∈(eU f v fs).map (·.1)
  |[]=>⟨by simp[eU],λg h=>by simp at h⟩
  | (k, x) :: r => by
    obtain⟨o,u⟩:=zS f v r;rw[show eU f v ((k,x)::r)=(if k=f then(k,v)::r else(k,x)::eU f v r) from rfl];by_cases hk:k=f
    · rw[if_pos hk]
      subst hk;exact⟨by simp,λg h=>by simpa using h⟩
    · rw[if_neg hk]
      refine⟨?_,λg h=>?_⟩
      · rw[bu]
        exact cB _ o
      · rw[bu] at h⊢
        rcases aO.mp h with e|e
        · exact aO.mpr (.inl e)
        · exact cB _ (u g e)
theorem Gk(f:Str)(v:V):∀fs:List (Str×V),(eU f v fs).length<=fs.length+1
  |[]=>by simp[eU]
  | (k, x) :: r => by
    have ih:=Gk f v r;rw[show eU f v ((k,x)::r)=(if k=f then(k,v)::r else(k,x)::eU f v r) from rfl];by_cases hk:k=f;· rw[if_pos hk,cH,cH];omega
    · rw[if_neg hk,cH,cH];omega
theorem gz.some_of{v:V}{o:Option ae}(r:gz (some v) o):∃u,o=some u/\RelV v u:=by
 cases o with
 |none=>exact(show False from r).elim
 |some u=>exact⟨u,rfl,r⟩
theorem gz.none_of{o:Option ae}(r:gz none o):o=none:=by
 cases o with
 |none=>rfl
 |some u=>exact(show False from r).elim
theorem MT{v:V}(r:RelV v u):PySem.W.handedIn u=true:=by
 cases v with
 |aD=>cases (show u=eQ from r);rfl
 |bl b=>cases (show u=hh b from r);rfl
 |int i=>obtain⟨t,e⟩:=(show∃t,u=eP i t from r);cases e;rfl
 |str x=>obtain⟨t,e⟩:=(show∃t,u=fH x t from r);cases e;rfl
 |iI b=>obtain⟨t,e⟩:=(show∃t,u=pf b t from r);cases e;rfl
 |jW b=>obtain⟨t,e⟩:=(show∃t,u=kS b t from r);cases e;rfl
 |ref a=>cases (show u=bj a from r);rfl
 |ty n=>cases (show u=dA n from r);rfl
section
variable{P:bc}{w:bw}{H H':Hp}{h h':dc}{a C dx:aw}{fs fs':List (Str×V)}
theorem u5(hok:cY P w H h)(e:H a=some (.ins C dx fs)):∃mA,m6 h a dx C mA/\(∀f,gz (fs.lookup f) (mA f))/\PySem.Within mA (fs.map (·.1))/\fs.length<=1000/\H dx=some (.own a):=by
 obtain⟨d,z,ne,g,mA,n,r,q⟩:=(show bS P w H h a (.ins C dx fs) from hok a _ e);exact⟨mA,⟨g,n,ne⟩,r,q,z,d⟩
end
structure dO(K:PySem.W.Frag)(C:aw):Prop where
 pg:PySem.W.plainGet K C q7=true
 hd:PySem.W.hasDictIn K C=true
 po:PySem.W.plainOver K C=true
 sa:PySem.W.findIn K (.ref C) "__setattr__"=some (some (.builtin "object.__setattr__"))
theorem dO.get{K:PySem.W.Frag}(c:dO K C)(f:Str):PySem.W.plainGet K C f=true:=c.pg
def fB(K:PySem.W.Frag)(C:aw)(f:Str):Prop:=PySem.W.findIn K (.ref C) f=some none
theorem fB.Tu{K:PySem.W.Frag}{f:Str}(n:fB K C f):PySem.W.takerIn K C f=some none:=by
 unfold PySem.W.takerIn;rw[show PySem.W.findIn K (.ref C) f=some none from n]
 rfl
structure Meth(K:PySem.W.Frag)(C:aw)(m:Str)(f:aw):Prop where
 at_:PySem.W.findIn K (.ref C) m=some (some (.ref f))
 fn:PySem.W.isFn K (.ref f)=true
 kp:PySem.W.keepIn K (.ref f)=true
section
variable{X:Cx}{pins:List (aw×Obj)}{σ:qr}{H:Hp}{s:ax}{a C dx:aw}{fs:List (Str×V)}{f:Str}{v:V}{A:cj}{E:ae->ax->Prop}
theorem T4{b:Bool}(I:Inv X pins σ H s)(e:H a=some (.ins C dx fs))(c:dO X.K C)(n:fB X.K C f)(l:fs.lookup f=some v)
  (h:∀u s',Inv X pins σ H s'->RelV v u->Q u s'):wpAny (bg X.prog X.w) A (getAttr (.ref a) f b) Q E s:=by
 obtain⟨mA,O,r,_,_,_⟩:=u5 I.hok e;obtain⟨u,F,D⟩:=gz.some_of (v:=v) (o:=mA f) (by rw[<-l];exact r f);exact get_map I.cC O (c.get f) c.hd n F (MT D) (h u _ (I.tok _) D)
theorem AA{m:Str}{g:aw}{Q:ae×List ae->ax->Prop}(I:Inv X pins σ H s)(e:H a=some (.ins C dx fs))(c:dO X.K C)(k:Meth X.K C m g)(l:fs.lookup m=none)
  (h:Q (.ref g,[.ref a]) s):wpAny (bg X.prog X.w) A (gd (.ref a) m pl) Q E s:=by
 obtain⟨mA,O,r,_,_,_⟩:=u5 I.hok e;have hn:mA m=none:=gz.none_of (by rw[<-l];exact r m);exact Qx I.cC O (c.get m) k.at_ k.fn hn h
theorem SE{y:V}{Q:Unit->ax->Prop}(I:Inv X pins σ H s)(e:H a=some (.ins C dx fs))(c:dO X.K C)(n:fB X.K C f)(hl:fs.length<1000)(d:RelV y u)
  (h:∀s',Inv X pins σ (upd H a (.ins C dx (eU f y fs))) s'->Q () s'):wpAny (bg X.prog X.w) A (setAttr (.ref a) f u) Q E s:=by
 obtain⟨mA,O,r,F,_,ho⟩:=u5 I.hok e;have hz:(fs.map (·.1)).length<=sizeLine:=by rw[ao,ea];omega
 refine LL I.cC O c.sa c.po n.Tu c.hd F hz λh' i G=>h _ ?_;have hd:∃o,h'.get? dx=some o:=let ⟨o,_,_,e',_⟩:=i.ns;⟨o,e'⟩;refine I.write (x:=a) (e:=dx) (by rw[e];exact cn) (.inr ho) (λb q hb z=>(G.2 b hb).trans z) hd ?_;refine⟨by rw[bA O.ne];exact ho,?_,O.ne,i.obj,_,i.ns,λg=>?_,λg hg=>?_⟩;·have:=Gk f y fs;omega
 .show gz ((eU f y fs).lookup g) (if g=f then some u else mA g);rw[Fw];by_cases q:g=f;·rw[if_pos q,if_pos q];exact d
  .rw[if_neg q,if_neg q];exact r g
 .by_cases q:g=f;·rw[q];exact(zS f y fs).1
  .refine(zS f y fs).2 g (F g λz=>hg ?_);show(if g=f then some u else mA g)=none;rw[if_neg q];exact z
theorem Inv.made(I:Inv X pins σ H s):Inv X pins σ (upd (upd H s.heap.objs.size (.own (s.heap.objs.size+1))) (s.heap.objs.size+1) (.ins C s.heap.objs.size []))
  {s with heap:=(s.heap.push PySem.W.emptyDict).push (PySem.W.instObj C s.heap.objs.size)}:=by
 have e1:(s.heap.push PySem.W.emptyDict).get? s.heap.objs.size=some PySem.W.emptyDict:=gH s.heap rfl;have e2:((s.heap.push PySem.W.emptyDict).push (PySem.W.instObj C s.heap.objs.size)).get? (s.heap.objs.size+1)=some (PySem.W.instObj C s.heap.objs.size):=by
  have:=gH (s.heap.push PySem.W.emptyDict) (o:=PySem.W.instObj C s.heap.objs.size) rfl;rwa[sf] at this
 have e3:(s.heap.push PySem.W.emptyDict).Ns s.heap.objs.size (λ_=>none):=⟨PySem.W.emptyDict,#[],_,e1,rfl,(λe he=>absurd he (by simp)),λ_=>rfl⟩;have I1:=I.laid (a:=s.heap.objs.size) (o:= .own (s.heap.objs.size+1)) (h':=s.heap.push PySem.W.emptyDict) (t':=s.toks) (λb u q=>dB _ q) (bh _) ⟨_,e1⟩;refine I1.laid (a:=s.heap.objs.size+1) (o:= .ins C s.heap.objs.size []) (t':=s.toks) (λb u q=>dB _ q) (oy (sf _ _)) ?_;have ne:s.heap.objs.size≠s.heap.objs.size+1:=cJ (kb _);refine⟨by rw[bA ne,aY],iE _,ne,e2,λ_=>none,(Heap.Ns1.of_empty e3).at λo q=>dB _ q,λ_=>cn,λy hy=>absurd rfl hy⟩
theorem Lv{prog:bc}{f:Str}{s:ax}(hb:hJ e f env (eval e env)=eval e env)
  (h:wpAny (bg prog w) A (eval e env) (λo s₁=>wpAny (bg prog w) A (getAttr o f true) Q E s₁) E s):wpAny (bg prog w) A (eval (.Attribute e f pos) env) Q E s:=
 Attribute_any_ h (by rw[arm_eval_Attribute,hb])
end
def lR(K:PySem.W.Frag)(ta:TE)(f:Str):TE:=λσ H Q=>ta σ H λx H1=>∃a C dx fs v,x= .ref a/\H1 a=some (.ins C dx fs)/\dO K C/\fB K C f/\fs.lookup f=some v/\Q v H1
def AM(K:PySem.W.Frag)(ta tv:TE)(f:Str):TS:=λD σ H=>tv σ H λy H1=>ta σ H1 λx H2=>∃a C dx fs,x= .ref a/\H2 a=some (.ins C dx fs)/\dO K C/\fB K C f/\fs.length<1000/\
 D.nx σ (upd H2 a (.ins C dx (eU f y fs)))
section
variable{X:Cx}{o e value:dk}{f:Str}{pos pos' tpos:Pos}{ta tv:TE}
theorem o8(he:PE X e ta)(hb:hJ e f X.env (eval e X.env)=eval e X.env):PE X (.Attribute e f pos) (lR X.K ta f):=by
 intro pins s σ H Q I h;refine Lv hb (aI (he pins s σ H _ I h) λu s1 ⟨x,H1,I1,j,a,C,dx,fs,v,ex,G,c,n,l,q⟩=>?_);subst ex;obtain rfl:u=bj a:=j;exact T4 I1 G c n l λJ s2 I2 D=>⟨v,H1,I2,D,q⟩
theorem G0(ha:PE X o ta)(hv:PE X value tv)(O:k6 value (some (.Attribute o f pos')) pos.line X.env=pure false):PS X (.Assign [.Attribute o f pos'] value pos) (AM X.K ta tv f):=by
 intro pins s σ H D I h;refine plainObj_wpAny_Assign_Attribute (aI (hv pins s σ H _ I h) λu s1 ⟨y,H1,I1,d,q⟩=>aI (ha pins s1 σ H1 _ I1 q) λb s2 ⟨x,H2,I2,j,a,C,dx,fs,ex,G,c,n,l,q2⟩=>?_) O;subst ex;obtain rfl:b=bj a:=j;exact SE I2 G c n l d λU I3=>⟨σ,_,I3,q2⟩
end
section
variable{X:Cx}{pins:List (aw×Obj)}{σ:qr}{H:Hp}{s:ax}{A:cj}{E:ae->ax->Prop}{Q:ae->ax->Prop}{c:ae}{b:Bool}
inductive iw(K:PySem.W.Frag)(H:Hp):V->ae->Prop where
 |aD:iw K H .aD (.type "NoneType")
 |bl (x:Bool):iw K H (.bl x) (.type "bool")
 |int (i:Int):iw K H (.int i) (.type "int")
 |str (x:Str):iw K H (.str x) (.type "str")
 |jW (x:UInt64):iw K H (.jW x) (.type "float")
 |lst {a:aw} {xs:List V} (e:H a=some (.lst xs)):iw K H (.ref a) (.type "list")
 |gp {a:aw} {o:Obj} {xs:List V} (e:H a=some (.gp o (.lst xs))):iw K H (.ref a) (.type "list")
 |tup {a:aw} {xs:List V} (e:H a=some (.tup xs)):iw K H (.ref a) (.type "tuple")
 |dK {a:aw} {kvs:List (Key×V)} (e:H a=some (.dK kvs)):iw K H (.ref a) (.type "dict")
 |dT {a:aw} {kvs:List (List Key×V)} (e:H a=some (.dT kvs)):iw K H (.ref a) (.type "dict")
 |Eg {a:aw} {o:Obj} {kvs:List (Key×V)} (e:H a=some (.gp o (.dK kvs))):iw K H (.ref a) (.type "dict")
 | ins {a C dx : Addr} {fs : List (Str × V)} (e : H a = some (.ins C dx fs)) (cl : dO K C) (ha : PySem.W.findIn K (.ref C) "__class__" = some (some (.builtin "object.__class__")))
   (hn:PySem.W.specialIn K (.builtin "object.__class__") "__get__"=some (some (.builtin "getset_descriptor.__get__"))) (htk:PySem.W.takesIn K (.builtin "object.__class__")=some true)
   (hm:PySem.W.mroIn K C (.type "object")=some true):iw K H (.ref a) (.ref C)
theorem QJ{x:V}{t:ae}(I:Inv X pins σ H s)(j:RelV x u)(ty:iw X.K H x t)(e:PySem.W.kitOne X.K t c=some b)(h:∀L,Q (.bool b) {s with toks:=L}):
    wpAny (bg X.prog X.w) A (call (.builtin "isinstance") [u,c]) Q E s:=by
  cases ty with
  |aD=>cases (show u=eQ from j);exact jq PySem.W.kitx_none I.cC cn e (λz=>nomatch z) h
  |bl y=>cases (show u=hh y from j);exact jq PySem.W.kitx_bool I.cC cn e (λz=>nomatch z) h
  |int i=>obtain⟨t,q⟩:=(show∃t,u=eP i t from j);cases q;exact jq PySem.W.kitx_int I.cC cn e (λz=>nomatch z) h
  |str y=>obtain⟨t,q⟩:=(show∃t,u=fH y t from j);cases q;exact jq PySem.W.kitx_str I.cC cn e (λz=>nomatch z) h
  |jW y=>obtain⟨t,q⟩:=(show∃t,u=kS y t from j);cases q;exact jq PySem.W.kitx_float I.cC cn e (λz=>nomatch z) h
  | @lst a xs G =>
    cases (show u=bj a from j);obtain⟨_,_,n,_,h1⟩:=(show bS X.prog X.w H s.heap a (.lst xs) from I.hok a _ G);exact jq Aa I.cC ⟨_,h1,rfl⟩ e (λz=>nomatch z) h
  | @gp a g xs G =>
    cases (show u=bj a from j);obtain⟨_,_,_,n,_,h1⟩:=(show bS X.prog X.w H s.heap a (.gp g (.lst xs)) from I.hok a _ G);exact jq Aa I.cC ⟨_,h1,rfl⟩ e (λz=>nomatch z) h
  | @tup a xs G =>
    cases (show u=bj a from j);obtain⟨_,_,_,p⟩:=(show bS X.prog X.w H s.heap a (.tup xs) from I.hok a _ G);obtain⟨o,h1,h2,_⟩:=p;exact jq PySem.W.kitx_tuple I.cC ⟨o,h1,h2⟩ e (λz=>nomatch z) h
  | @dK a kvs G =>
    cases (show u=bj a from j);obtain⟨_,_,vs,_,p⟩:=(show bS X.prog X.w H s.heap a (.dK kvs) from I.hok a _ G);obtain⟨o,es,ep,h1,h2,_⟩:=p;exact jq vo I.cC ⟨o,h1,h2.1⟩ e (λz=>nomatch z) h
  | @dT a kvs G =>
    cases (show u=bj a from j);obtain⟨_,_,xs,_,o,es,ep,h1,h2,_⟩:=(show bS X.prog X.w H s.heap a (.dT kvs) from I.hok a _ G);exact jq vo I.cC ⟨o,h1,h2.1⟩ e (λz=>nomatch z) h
  | @Eg a g kvs G =>
    cases (show u=bj a from j);obtain⟨_,_,_,vs,_,o,es,ep,h1,h2,_⟩:=I.hok a _ G;exact jq vo I.cC ⟨o,h1,h2.1⟩ e (λz=>nomatch z) h
  | @ins a C dx fs G cl ha hn htk hm =>
    cases (show u=bj a from j);obtain⟨mA,O,_⟩:=u5 I.hok G;obtain⟨od,J,_⟩:=O.look;exact jq (PySem.W.kitx_own (cl.get _) cl.hd ha hn htk hm) I.cC J e (λz=>nomatch z) h
end
structure c5(k:Nat)(A:cj):Prop where
 hd:A.handled=none
 dp:A.depth+3*k+5<mr
 un:A.units+16*k+200<ph
theorem c5.mono{k:Nat}(r:c5 k A)(h:j<=k):c5 j A:=⟨r.hd,by have:=r.dp;omega,by have:=r.un;omega⟩
theorem c5.deeper{k:Nat}{A:cj}(r:c5 (k+1) A)(env:Env):c5 k (A.deeper env):=
 ⟨r.hd,by have:=r.dp;show A.depth+1+3*k+5<_;omega,by have:=r.un;show A.units+3+16*k+200<_;omega⟩
theorem UD{a:List (Str×ae)}:(A.under (.builtin "type.__call__" ⟨.ref C::us,a⟩)).depth=A.depth+1:=by
 first|rfl|simp[je,Code.weight,Code.isCreation,Code.isGuard,Code.isCaller,pk,js,guardIds]
theorem N9{a:List (Str×ae)}:(A.under (.builtin "type.__call__" ⟨.ref C::us,a⟩)).units=A.units+1:=by
 first|rfl|simp[je,Code.cUnits,pk,js]
theorem c5.make{k:Nat}(r:c5 (k+1) A)(C:aw)(us:List ae)(a:List (Str×ae)):c5 k (A.under (.builtin "type.__call__" ⟨.ref C::us,a⟩)):=
 ⟨r.hd,by have:=r.dp;rw[UD];omega,by have:=r.un;rw[N9];omega⟩
theorem c5.depth{k:Nat}{A:cj}(r:c5 k A):A.depth<mr:=by have:=r.dp;omega
theorem c5.units{k:Nat}{A:cj}(r:c5 k A):A.units+64<ph:=by have:=r.un;omega
def bI:TA:=λ_ H Q=>Q [] H
def aV(ta:TE)(tr:TA):TA:=λσ H Q=>ta σ H λx H1=>tr σ H1 λxs H2=>Q (x::xs) H2
section
variable{X:Cx}{e:dk}{es:List dk}{te:TE}{t:TA}{pos:Pos}
theorem ai:PA X [] bI:=λ_ _ _ _ H Q I h=>ip ⟨[],H,I, .nil,h⟩
theorem aa(ha:PE X e te)(hr:PA X es t)(O:ba (e::es) X.env=(false,eval e X.env)::ba es X.env:=by rfl):PA X (e::es) (aV te t):=by
 intro pos pins s σ H Q I h;rw[O];show wpAny _ _ (spliced ((false,eval e X.env)::er pos (ba es X.env))) _ _ s;refine hM (aI (ha pins s σ H _ I h) λu s1 ⟨x,H1,I1,C,J⟩=>?_);exact aI (hr pos pins s1 σ H1 _ I1 J) λus s2 ⟨xs,H2,I2,N,q2⟩=>⟨x::xs,H2,I2, .cons C N,q2⟩
def pe(t:TA):TE:=λσ H Q=>t σ H λxs H1=>xs.length<=sizeLine/\∀p,H1 p=none->Q (.ref p) (upd H1 p (.tup xs))
def oU(t:TA):TE:=λσ H Q=>t σ H λxs H1=>xs.length<=sizeLine/\∀p,H1 p=none->Q (.ref p) (upd H1 p (.lst xs))
theorem fS{x1}(h:PA X es t):PE X (.Tuple es x1 pos) (pe t):=by
 intro pins s σ H Q I hq;refine wpAny_Tuple_spliced (aI (h pos pins s σ H _ I hq) λus s1 ⟨xs,H1,I1,r,z,q⟩=>⟨by rw[<-r.length];exact z,?_⟩);have hf:H1 s1.heap.objs.size=none:=I1.hok.fresh (bh _);refine⟨.ref s1.heap.objs.size,upd H1 s1.heap.objs.size (.tup xs),I1.laid (t':=s1.toks) (λb u e=>dB _ e) (bh _) ?_,rfl,q _ hf⟩;exact⟨z,us,r,⟨_,gH _ rfl,rfl,_,rfl⟩⟩
theorem fO(h:PA X es t):PE X (.List es pos) (oU t):=by
 intro pins s σ H Q I hq;refine wpAny_List_spliced (aI (h pos pins s σ H _ I hq) λus s1 ⟨xs,H1,I1,r,z,q⟩=>⟨by rw[<-r.length];exact z,?_⟩);have hf:H1 s1.heap.objs.size=none:=I1.hok.fresh (bh _);refine⟨.ref s1.heap.objs.size,upd H1 s1.heap.objs.size (.lst xs),I1.laid (t':=s1.toks) (λb u e=>dB _ e) (bh _) ?_,rfl,q _ hf⟩;exact⟨z,us,0,r,gH _ rfl⟩
end
abbrev Sp:=List V->Hp->VK->XK->Prop
abbrev ki:=List Env->Hp->ax->XK->ae->ax->Prop
structure mQ(P:bc)(w:bw)(K:PySem.W.Frag)(mg:Str->Option ae)(base:dc)(A:cj)(outer:List Env)(s:ax)(H:Hp):Prop where
 frames:A.frames=some outer
 mod:Mod K mg base
 bs:∀b o,base.get? b=some o->s.heap.get? b=some o/\H b=none
 l6:base.objs.size<=s.heap.objs.size
 jm:s.heap.FunFrames base outer
 nS:∀b∈frs outer,H b=none
 hok:cY P w H s.heap
 bare:fI s.gens
def CE(outer:List Env)(P:bc)(w:bw)(H:Hp)(s:ax)(Q:VK)(u:ae)(s':ax):Prop:=
 ∃v H',s'.os=s.os/\fI s'.gens/\Un (frs outer) [] H H' s.heap s'.heap/\cY P w H' s'.heap/\RelV v u/\Q v H'
def CR(CX:ki)(outer:List Env)(P:bc)(w:bw)(H:Hp)(s:ax)(Q:VK)(E:XK)(r:qk)(s':ax):Prop:=
 match r with
 | .ok (.ret u)=>CE outer P w H s Q u s'
 | .ok _=>False
 | .error e=>CX outer H s E e s'
structure bx(P:bc)(w:bw)(K:PySem.W.Frag)(mg:Str->Option ae)(base:dc)(CX:ki)(k:Nat)(f:aw)(fd:dE)(ps:List Str)(sp:Sp):Prop where
 len:∀vs H Q E,sp vs H Q E->vs.length=ps.length
 run:∀(A:cj) (outer:List Env) (s:ax) (H:Hp) (args:Args) (us:List ae) (vs:List V) (Q:VK) (E:XK),c5 k A->mQ P w K mg base A outer s H->la s fd args (ps.zip us)->Vals vs us->sp vs H Q E->
  codeAny (bg P w) A (.call (.ref f) args) (CR CX outer P w H s Q E) s
theorem mQ.make{P:bc}{K:PySem.W.Frag}{H:Hp}(e:mQ P w K mg base A outer s H)(C:aw)(us:List ae)(a:List (Str×ae)):
  mQ P w K mg base (A.under (.builtin "type.__call__" ⟨.ref C::us,a⟩)) outer s H:=⟨by first|exact e.frames|(simpa[je,Code.envs,js,pushEnvs] using e.frames),e.mod,e.bs,e.l6,e.jm,e.nS,e.hok,e.bare⟩
section
variable{X:Cx}{pins:List (aw×Obj)}{σ:qr}{H:Hp}{s s':ax}
theorem Inv.GP(I:Inv X pins σ H s):mQ X.prog X.w X.K X.mg X.base X.A X.stack s H:=
 ⟨I.ok.frames,I.ok.mod,I.bs,dZ I.ok.l6 I.sz,I.stack,I.EW,I.hok,I.bare⟩
theorem Inv.after{Q:VK}(I:Inv X pins σ H s)(h:CE X.stack X.prog X.w H s Q u s'):EP X pins σ Q u s':=by
 obtain⟨v,H',os,bare,un,hok,r,q⟩:=h;obtain⟨D,g,d,t,a⟩:=s';obtain rfl:a=s.os:=os;exact⟨v,H',I.call (h':=D) (g':=g) (d':=d) (t':=t) (ch:=[]) un hok bare (λb z=>absurd z (by simp)),r,q⟩
end
def gh(sp:Sp)(fh:List V)(E:XK)(t:TA):TE:=λσ H Q=>t σ H λvs H1=>sp (vs++fh) H1 Q E
def qR(C:aw)(m:Str)(sp:Sp)(fh:List V)(E:XK)(ta:TE)(t:TA):TE:=λσ H Q=>ta σ H λx H1=>∃a dx fs,x= .ref a/\H1 a=some (.ins C dx fs)/\fs.lookup m=none/\
 t σ H1 λvs H2=>sp (x::(vs++fh)) H2 Q E
def Bv(C:aw)(sp:Sp)(fh:List V)(E:XK)(t:TA):TE:=λσ H Q=>t σ H λvs H1=>∀x dx,H1 x=none->H1 dx=none->dx≠x->
 sp (.ref x::(vs++fh)) (upd (upd H1 dx (.own x)) x (.ins C dx [])) (λv H2=>v= .aD/\Q (.ref x) H2) E
def Binds(K:PySem.W.Frag)(fd:dE)(ps:List Str)(ds:List ae):Prop:=
 ∀(s:ax) (us:List ae),K.In s.heap->(us++ds).length=ps.length->la s fd ⟨us,[]⟩ (ps.zip (us++ds))
theorem Binds.all{K:PySem.W.Frag}(h:∀us:List ae,us.length=ps.length->bindArgs fd ⟨us,[]⟩=pure (ps.zip us)):Binds K fd ps []:=λs us _ hl=>by
 rw[fT] at hl⊢;exact .of_eq (h us hl)
def Passes(CX:ki)(X:Cx)(E:XK):Prop:=∀(pins:List (aw×Obj)) (σ:qr) (H:Hp) (s:ax) (e:ae) (s':ax),Inv X pins σ H s->CX X.stack H s E e s'->X.xe e s'
section
variable{X:Cx}{CX:ki}{k:Nat}{f C:aw}{fd:dE}{ps:List Str}{sp:Sp}{fh:List V}{ds:List ae}{E:XK}{x m:Str}{p pos apos:Pos}{e o:dk}{es:List dk}{ta:TE}{t:TA}
theorem BN{σ:qr}{H:Hp}{Q:VK}{vs:List V}(F:bx X.prog X.w X.K X.mg X.base CX k f fd ps sp)(hr:c5 k X.A)(hb:Binds X.K fd ps ds)(hd:Vals fh ds)(hx:Passes CX X E)
    (I:Inv X pins σ H s) (r:Vals vs us) (h:sp (vs++fh) H Q E):wpAny (bg X.prog X.w) X.A (call (.ref f) us) (EP X pins σ Q) X.xe s:=by
  have N:Vals (vs++fh) (us++ds):=r.append hd;have hl:(us++ds).length=ps.length:=by rw[<-N.length];exact F.len _ _ _ _ h
  refine wpAny_call (gq (F.run X.A X.stack s H ⟨us,[]⟩ (us++ds) (vs++fh) Q E hr I.GP (hb s us I.cC hl) N h) λr s' hq=>?_);cases r with
  |error e=>exact hx pins σ H s e s' I hq
  | ok fl =>
    cases fl with
    |ret u=>exact I.after hq
    |next=>exact cw hq
    |brk=>exact cw hq
    |cont=>exact cw hq
theorem KR(F:bx X.prog X.w X.K X.mg X.base CX k f fd ps sp)(hr:c5 k X.A)(hg:Gl X x)(hm:X.mg x=some (.ref f))(hk:PySem.W.keepIn X.K (.ref f)=true)(hb:Binds X.K fd ps ds)(hd:Vals fh ds)(hx:Passes CX X E)
  (ha:PA X (e::es) t) (a:(x==("__debug__":Str))=false:=by decide) (he:ba (e::es) X.env=(false,eval e X.env)::ba es X.env:=by rfl) (B:(er pos (ba es X.env)).any (·.1)=false:=by rfl):
  PE X (.Call (.Name x p) (e::es) [] pos) (gh sp fh E t):=by
 intro pins s σ H Q I h;refine eh (Fq I hg hm ?_ a);refine Cd (h₀:=X.base) I.ok.mod.rq hk (aI (ha pos pins s σ H _ I h) λus s1 ⟨vs,H1,I1,r,q⟩=>⟨I1.cC,?_⟩) he B;exact BN F hr hb hd hx I1 r q
theorem RK(he:PE X o ta)(c:dO X.K C)(hm:Meth X.K C m f)(F:bx X.prog X.w X.K X.mg X.base CX k f fd ps sp)(hr:c5 k X.A)(hb:Binds X.K fd ps ds)(hd:Vals fh ds)(hx:Passes CX X E)(ha:PA X (e::es) t)
  (d:ba (e::es) X.env=(false,eval e X.env)::ba es X.env:=by rfl) (B:(er pos (ba es X.env)).any (·.1)=false:=by rfl)
  (ht : eval (.Call (.Attribute o m apos) (e :: es) [] pos) X.env = (do
   let ov<-eval o X.env
   standAt apos.atName
   let (f,first)<-holding [ov] (gd ov m pl)
   nZ pos f first (er pos (ba (e::es) X.env)) (kJ pos (fo [] X.env))):=by rfl):
  PE X (.Call (.Attribute o m apos) (e::es) [] pos) (qR C m sp fh E ta t):=by
 intro pins s σ H Q I h;refine Bh (pl:=pl) (aI (he pins s σ H _ I h) λu s1 ⟨x,H1,I1,j,a,dx,fs,ex,G,l,q⟩=>?_) ht;subst ex;obtain rfl:u=bj a:=j;refine AA I1 G c hm l ?_;refine Cd (first:=[.ref a]) (h₀:=X.base) I.ok.mod.rq hm.kp (aI (ha pos pins s1 σ H1 _ I1 q) λus s2 ⟨vs,H2,I2,r,q2⟩=>⟨I2.cC,?_⟩) d B;exact BN (us:= .ref a::us) (vs:= .ref a::vs) F hr hb hd hx I2 (.cons rfl r) q2
theorem Pb(he:PE X o ta)(c:dO X.K C)(hm:Meth X.K C m f)(F:bx X.prog X.w X.K X.mg X.base CX k f fd ps sp)(hr:c5 k X.A)(hb:Binds X.K fd ps ds)(hd:Vals fh ds)(hx:Passes CX X E)
  (ht : eval (.Call (.Attribute o m apos) [] [] pos) X.env = (do
   let ov<-eval o X.env
   standAt apos.atName
   let (f,first)<-holding [ov] (gd ov m pl)
   nZ pos f first (er pos (ba [] X.env)) (kJ pos (fo [] X.env))):=by rfl):
  PE X (.Call (.Attribute o m apos) [] [] pos) (qR C m sp fh E ta bI):=by
 intro pins s σ H Q I h;refine Bh (pl:=pl) (aI (he pins s σ H _ I h) λu s1 ⟨x,H1,I1,j,a,dx,fs,ex,G,l,q⟩=>?_) ht;subst ex;obtain rfl:u=bj a:=j;refine AA I1 G c hm l ?_;exact PySem.W.callWith_K0 (first:=[.ref a]) I1.cC hm.kp (BN (us:=[.ref a]) (vs:=[.ref a]) F hr hb hd hx I1 (.cons rfl .nil) q)
structure Mk(K:PySem.W.Frag)(C f:aw):Prop where
 makes:PySem.W.makesIn K C=true
 init:PySem.W.findIn K (.ref C) "__init__"=some (some (.ref f))
 fn:PySem.W.isFn K (.ref f)=true
 kp:PySem.W.keepIn K (.ref C)=true
theorem NR{σ:qr}{H:Hp}{Q:VK}{vs:List V}(M:Mk X.K C f)(F:bx X.prog X.w X.K X.mg X.base CX k f fd ps sp)(hr:c5 (k+1) X.A)(hb:Binds X.K fd ps ds)(hd:Vals fh ds)
    (hx:Passes CX X E) (I:Inv X pins σ H s) (r:Vals vs us)
    (h:∀x dx,H x=none->H dx=none->dx≠x->sp (.ref x::(vs++fh)) (upd (upd H dx (.own x)) x (.ins C dx [])) (λv H2=>v= .aD/\Q (.ref x) H2) E):
    wpAny (bg X.prog X.w) X.A (call (.ref C) us) (EP X pins σ Q) X.xe s:=by
  have hq:=h (s.heap.objs.size+1) s.heap.objs.size (I.hok.fresh (kT _)) (I.hok.fresh (bh _)) (cJ (kb _));have I2:=Inv.made (C:=C) I;have N:Vals (V.ref (s.heap.objs.size+1)::(vs++fh)) (bj (s.heap.objs.size+1)::(us++ds)):= .cons rfl (r.append hd);have hl:(bj (s.heap.objs.size+1)::us++ds).length=ps.length:=by
    have e:=N.length;rw[F.len _ _ _ _ hq] at e;exact e.symm
  refine wpAny_call (Kr (f:=f) I.cC M.makes M.init (beq_iff_eq.mp M.fn) (gq (F.run _ X.stack _ _ ⟨bj (s.heap.objs.size+1)::us,[]⟩ (bj (s.heap.objs.size+1)::(us++ds)) _ _ E (hr.make C us [])
    (I2.GP.make C us []) (hb _ (bj (s.heap.objs.size+1)::us) I2.cC hl) N hq) λr s' b=>?_))
  cases r with
  |error e=>exact hx pins σ _ _ e s' I2 b
  | ok fl =>
    cases fl with
    | ret u =>
      obtain⟨v,H',I3,rv,ev,L⟩:=I2.after b;subst ev;exact⟨rv,⟨V.ref (s.heap.objs.size+1),H',I3,rfl,L⟩⟩
    |next=>exact cw b
    |brk=>exact cw b
    |cont=>exact cw b
theorem LI(M:Mk X.K C f)(F:bx X.prog X.w X.K X.mg X.base CX k f fd ps sp)(hr:c5 (k+1) X.A)(hg:Gl X x)(hm:X.mg x=some (.ref C))(hb:Binds X.K fd ps ds)(hd:Vals fh ds)(hx:Passes CX X E)
  (ha:PA X (e::es) t) (a:(x==("__debug__":Str))=false:=by decide) (he:ba (e::es) X.env=(false,eval e X.env)::ba es X.env:=by rfl) (B:(er pos (ba es X.env)).any (·.1)=false:=by rfl):
  PE X (.Call (.Name x p) (e::es) [] pos) (Bv C sp fh E t):=by
 intro pins s σ H Q I h;refine eh (Fq I hg hm ?_ a);refine Cd (h₀:=X.base) I.ok.mod.rq M.kp (aI (ha pos pins s σ H _ I h) λus s1 ⟨vs,H1,I1,r,q⟩=>⟨I1.cC,?_⟩) he B;exact NR M F hr hb hd hx I1 r q
end
structure cD(N P:List Str)(sc:fb):Prop where
 kind:sc.kind= .function
 co:sc.isCoroutine=false
 gen:sc.isGenerator=false
 nd:N.Nodup
 pre:N.take P.length=P
 par:∀x∈P,sc.names.lookup x=some .local\/sc.names.lookup x=some .cell
 QC:∀y∈sc.names,y.2≠ .free
theorem Jr{kindOf:Str->Option dG}{x:Str}:∀{binds:List (Str×ae)} {m:Str->Option ae},(∀v,(x,v)∉binds)->pq kindOf binds m x=m x
  |[],_,_=>rfl
  | (n, v) :: r, m, h => by
    unfold pq;rw[Jr λw hw=>h w (cB _ hw)];split
    · have:x≠n:=by rintro rfl;exact h v cQ
      simp[this]
    · rfl
theorem EC{kindOf:Str->Option dG}{x:Str}:∀{binds:List (Str×ae)} {m:Str->Option ae},(∀v,(x,v)∉binds)->px kindOf binds m x=m x
  |[],_,_=>rfl
  | (n, v) :: r, m, h => by
    unfold px;rw[EC λw hw=>h w (cB _ hw)];split;· rfl
    · have:x≠n:=by rintro rfl;exact h v cQ
      simp[this]
theorem JR{kindOf:Str->Option dG}{x:Str}{v:ae}:∀{P:List Str} {vs:List ae} {i:Nat} {m:Str->Option ae},P.Nodup->P[i]?=some x->vs[i]?=some v->kindOf x=some .local->
    pq kindOf (P.zip vs) m x=some v
  |[],_,_,_,_,h,_,_=>by simp at h
  |_::_,[],_,_,_,_,h,_=>by simp at h
  | p :: P, w :: vs, 0, m, nd, h1, h2, hk => by
    simp at h1 h2;subst h1;subst h2;show pq kindOf ((p,w)::P.zip vs) m p=_;unfold pq;rw[Jr λv hv=>(eW.mp nd).1 (Aq hv).1,if_pos hk];simp
  | p :: P, w :: vs, i + 1, m, nd, h1, h2, hk => by
    show pq kindOf ((p,w)::P.zip vs) m x=_;unfold pq;exact JR (i:=i) (eW.mp nd).2 (by simpa using h1) (by simpa using h2) hk
theorem GJ{kindOf:Str->Option dG}{x:Str}{v:ae}:∀{P:List Str} {vs:List ae} {i:Nat} {m:Str->Option ae},P.Nodup->P[i]?=some x->vs[i]?=some v->kindOf x≠some .local->
    px kindOf (P.zip vs) m x=some v
  |[],_,_,_,_,h,_,_=>by simp at h
  |_::_,[],_,_,_,_,h,_=>by simp at h
  | p :: P, w :: vs, 0, m, nd, h1, h2, hk => by
    simp at h1 h2;subst h1;subst h2;show px kindOf ((p,w)::P.zip vs) m p=_;unfold px;rw[EC λv hv=>(eW.mp nd).1 (Aq hv).1,if_neg hk];simp
  | p :: P, w :: vs, i + 1, m, nd, h1, h2, hk => by
    show px kindOf ((p,w)::P.zip vs) m x=_;unfold px;exact GJ (i:=i) (eW.mp nd).2 (by simpa using h1) (by simpa using h2) hk
noncomputable def start(N:List Str)(vs:List V):qr:=vs.map some++be (N.length-vs.length) none
noncomputable def pS(CX:ki)(P:bc)(w:bw)(K:PySem.W.Frag)(mg:Str->Option ae)(base:dc)(N:List Str)(qual:Str)(scope:fb)(f:aw)(m:ae)(A:cj)(outer:List Env)(s:ax)(H:Hp)(E:XK):Cx where
 prog:=P
 w:=w
 K:=K
 mg:=mg
 base:=base
 A:=A.deeper (jt qual scope s.heap.objs.size f m)
 N:=N
 s₀:=s
 H₀:=H
 env:=jt qual scope s.heap.objs.size f m
 outer:=outer
 stack:=jt qual scope s.heap.objs.size f m::outer
 ex:=[]
 calm:=true
 fn:=λ_=>true
 pn:=[]
 xe:=λe s'=>wpAny (bg P w) (A.deeper (jt qual scope s.heap.objs.size f m)) (leaving (jt qual scope s.heap.objs.size f m) e) (λ_ a=>CX outer H s E e a) (λe' a=>CX outer H s E e' a) s'
theorem HZ{sc:fb}(h:sc.names.lookup x=some .cell):∃c,(oA n sc.names []).lookup x=some c:=by
 have q:=GV sc.names n [] (.inl h);exact xM.mp q
theorem Px{CX:ki}{P:bc}{K:PySem.W.Frag}{f:aw}{m:ae}{s1:ax}{H:Hp}{E:XK}{vs:List V}
  (S:cD N ps scope) (hd:A.handled=none) (X:mQ P w K mg base A outer s H) (hl:vs.length=ps.length) (r:Vals vs us)
  (x:InCallC s s.heap.objs.size (pq (jt qual scope s.heap.objs.size f m).kindOf (ps.zip us) λ_=>none) (oA (s.heap.objs.size+1) scope.names []) (px (jt qual scope s.heap.objs.size f m).kindOf (ps.zip us) λ_=>none) s1):
  Inv (pS CX P w K mg base N qual scope f m A outer s H E) [] (start N vs) H s1:=by
 have B:ps.length<=N.length:=by have:=congrArg hF S.pre;rw[oO] at this;omega
 obtain⟨h1,L,rfl,hk⟩:=x.done;have g:∀b:aw,b∉(pS CX P w K mg base N qual scope f m A outer s H E).ex:=λb z=>absurd (show b∈([]:List aw) from z) (by simp)
 refine⟨⟨X.mod,S.kind,rfl,rfl,bh _,λy z c h1 h2=>?_,λy hy=>?_,λy c _ h=>?_,λ_=>hd,Around.frames_deeper X.frames, .inr ⟨rfl,rfl⟩,λb z=>absurd z (g b),X.bs,X.l6,λb _ _=>g b,λb z=>absurd z (g b),X.jm,X.nS⟩,
  rfl,X.bare,Un.kept hk,⟨_,x.toInCall.ns,λi y v h1 h2 h3=>?_⟩,λy c h=>⟨_,x.cell y c h⟩,X.hok.fresh (bh _),λy c h=>?_,λp hp=>absurd (show p∈([]:List (aw×Obj)) from hp) (by simp),X.hok.kept hk,?_⟩
 .exact name_of_addr x.apart (nh h1) (nh h2)
 .have hy:scope.names.lookup y=some .cell\/scope.names.lookup y=some .free:=hy;rcases hy with hy|hy
  .exact HZ hy
  .exact absurd rfl (S.QC _ (nh hy))
 .exact lH (x.above y c (nh h))
 .have hi:i<vs.length:=by
   unfold start at h2;by_cases hi:i<vs.length;·exact hi
   .rw[eE (by simpa using hi)] at h2;rw[dR] at h2;split at h2<;>cases h2
  have ha:vs[i]?=some v:=by
   unfold start at h2;rw[eO (by simpa using hi),bC] at h2;cases e:vs[i]? with
   |none=>rw[e] at h2;cases h2
   |some a=>rw[e] at h2;cases h2;rfl
  obtain⟨u,F,rv⟩:=r.get ha;have hp:ps[i]?=some y:=by
   rw[<-S.pre,List.getElem?_take_of_lt ∅];exact h1
  have d:ps.Nodup:=by rw[<-S.pre];exact S.nd.sublist (List.take_sublist _ _)
  refine⟨u,rv,?_⟩;rcases S.par y (dz hp) with k|k
  .exact .inl ⟨k,JR d hp F k⟩
  .obtain⟨c,e⟩:=HZ (n:=s.heap.objs.size+1) k;refine .inr ⟨.inl k,c,e,?_⟩;have q:=x.cell y c e;rw[GJ d hp F (by show scope.names.lookup y≠_;rw[k];decide)] at q;exact q
 .exact X.hok.fresh (lH (x.above y c (nh h)))
 .unfold start;show _=N.length;rw[fq,ao,List.length_replicate];omega
theorem M7{CX:ki}{P:bc}{K:PySem.W.Frag}{k:Nat}{f:aw}{name:Str}{d:Arguments}{a:List eo}{i kV doc pm cdv ct:ae}{an od:Option aw} {sp:Sp} (lk:K.lookup f=some ⟨oc,od, .func (PySem.W.fnOf name qual d a scope i kV doc pm an cdv ct),osl⟩) (j:PySem.W.codeIn K cdv qual=true) (S:cD N ps scope)
    (len:∀vs H Q E,sp vs H Q E->vs.length=ps.length)
    (c:∀(A:cj) (outer:List Env) (s:ax) (H:Hp) (vs:List V) (Q:VK) (E:XK),c5 k (A.deeper (jt qual scope s.heap.objs.size f cdv))->sp vs H Q E->
      ∃t,iS (pS CX P w K mg base N qual scope f cdv A outer s H E) a t/\t {nx:=λ_ H'=>Q .aD H',rt:=Q} (start N vs) H):
    bx P w K mg base CX (k+1) f (PySem.W.fnOf name qual d a scope i kV doc pm an cdv ct) ps sp:=by
  refine⟨len,λA outer s H args us vs Q E hr X hb r p=>?_⟩;have hl:=len _ _ _ _ p;have KX:K.In s.heap:=X.mod.rq.keeps λb o e=>(X.bs b o e).1;have h:s.heap.NoLimit:=X.mod.nolimit.keeps λb o e=>(X.bs b o e).1;have g:∀y∈ps.zip us,scope.names.lookup y.1=some .local\/(scope.names.lookup y.1=some .cell/\((oA (s.heap.objs.size+1) scope.names []).lookup y.1).isSome=true):=λ⟨n,v⟩ hy=>by
    rcases S.par n (Aq hy).1 with q|q
    · exact .inl q
    · exact .inr ⟨q,GV _ _ _ (.inl q)⟩
  refine codeAny_call_function hr.depth (KX _ _ lk) rfl S.co S.gen rfl (PySem.W.codeRec_of KX j) (hb _ _ _ _ ?_);refine wpAny_newFunctionEnv_cells S.kind g λenv he s1 x=>?_;subst he;refine⟨h.keeps x.toInCall.keep,codeAny_func ?_⟩;obtain⟨t,ht,hq⟩:=c A outer s H vs Q E (hr.deeper _) p;have I:Inv (pS CX P w K mg base N qual scope f cdv A outer s H E) [] (start N vs) H s1:=Px S hr.hd X hl r x;refine cX (ht [] s1 (start N vs) H _ I hq) (λfl s' O=>?_) λe s' O=>O
  have fin:∀{C:qr} {H':Hp} {v:V} {u:ae},Inv (pS CX P w K mg base N qual scope f cdv A outer s H E) [] C H' s'->RelV v u->Q v H'->CE outer P w H s Q u s':=
    λ{C H' v u} J rv q=>⟨v,H',J.os,J.bare,J.base,J.hok,rv,q⟩
  cases fl with
  | ret u =>
    obtain⟨v,C,H',J,rv,q⟩:=O;exact fin J rv q
  | next =>
    obtain⟨C,H',J,q⟩:=O;exact fin (v:=V.aD) (u:=eQ) J rfl q
  | brk =>
    obtain⟨_,_,_,q⟩:=O;exact cw q
  | cont =>
    obtain⟨_,_,_,q⟩:=O;exact cw q
section
variable{X:Cx}{x:Str}{p pos:Pos}{e:dk}{es:List dk}{t:TA}{id T:String}{r:List V->Hp->VK->Prop}
def eH(r:List V->Hp->VK->Prop)(t:TA):TE:=λσ H Q=>t σ H λvs H1=>r vs H1 Q
theorem cM(hc:gQ X (.builtin id) r)(hg:Gl X x)(hm:X.mg x=none)(hv:ed x=some (.builtin id))(ha:PA X (e::es) t)(hn:x≠"__name__":=by decide)(a:(x==("__debug__":Str))=false:=by decide)
  (he:ba (e::es) X.env=(false,eval e X.env)::ba es X.env:=by rfl) (B:(er pos (ba es X.env)).any (·.1)=false:=by rfl):PE X (.Call (.Name x p) (e::es) [] pos) (eH r t):=by
 intro pins s σ H Q I h;refine eh (mR I hg hm hv ?_ hn a);exact ju (aI (ha pos pins s σ H _ I h) λus s1 ⟨vs,H1,I1,C,J⟩=>hc pins s1 σ H1 vs us Q I1 C J) he B
theorem iX(hc:gQ X (.type T) r)(hg:Gl X x)(hm:X.mg x=none)(hv:ed x=some (.type T))(ha:PA X (e::es) t)(hn:x≠"__name__":=by decide)(a:(x==("__debug__":Str))=false:=by decide)
  (he:ba (e::es) X.env=(false,eval e X.env)::ba es X.env:=by rfl) (B:(er pos (ba es X.env)).any (·.1)=false:=by rfl):PE X (.Call (.Name x p) (e::es) [] pos) (eH r t):=by
 intro pins s σ H Q I h;refine eh (mR I hg hm hv ?_ hn a);exact qw (aI (ha pos pins s σ H _ I h) λus s1 ⟨vs,H1,I1,C,J⟩=>hc pins s1 σ H1 vs us Q I1 C J) he B
end
end L2
variable{H H1 H':L2.Hp}{xs:List L2.V}{σ:L2.qr}{X:L2.Cx}{q:L2.qr->L2.Hp->Prop}{r:L2.V->List L2.V->L2.Hp->L2.VK->Prop}{kvs:List (L2.Key×L2.V)}{g:L2.TG}{te:L2.TE}{tc:L2.TT}{t:L2.TA}{o:L2.HO}{sp:L2.Sp}{D:L2.Ends}{ks:List L2.Key}
namespace HT
open PySem PyProof.Rows
section
open PySem.SeqAt
open PySem.AutoSeq1 (wpAny_loadPart')
open PySem.MeetsSeq PySem.MeetsSeq2 PySem.MeetsSeq3
end
section
variable{prog:bc}{w:bw}{A:cj}{E:ae->ax->Prop}{s:ax}
noncomputable def dS(n d:Nat):Option Int->Nat
 |none=>d
 |some v=>if v<0 then(v+(n:Int)).toNat else min v.toNat n
theorem Pn(n d:Nat):dS n d none=d:=rfl
theorem Nk(n d k:Nat):dS n d (some (k:Int))=min k n:=by
 show(if(k:Int)<0 then((k:Int)+(n:Int)).toNat else min (k:Int).toNat n)=min k n;rw[if_neg ∅,ic]
end
end HT
namespace L2
abbrev TO:=qr->Hp->(Option Int->Hp->Prop)->Prop
def PO(X:Cx)(e:Option dk)(t:TO):Prop:=
 ∀(pins:List (aw×Obj)) (s:ax) (σ:qr) (H:Hp) (Q:Option Int->Hp->Prop),Inv X pins σ H s->t σ H Q->
  wpAny (bg X.prog X.w) X.A (evalPart e X.env) (λu s'=>∃o H',Inv X pins σ H' s'/\IsPart u o/\Q o H') X.xe s
def Cs:TO:=λ_ H Q=>Q none H
def yL(t:TE):TO:=λσ H Q=>t σ H λx H1=>∃i,x= .int i/\Q (some i) H1
section
variable{X:Cx}{e:dk}{te:TE}{lo hi:Option dk}{tl th:TO}{pos p2:Pos}
theorem zY:PO X none Cs:=by
 intro pins s σ H Q I h;rw[n3];exact a0 ⟨none,H,I, .none,h⟩
theorem xN(h:PE X e te):PO X (some e) (yL te):=by
 intro pins s σ H Q I hw;rw[evalPart_some];refine aI (h pins s σ H _ I hw) λu s1 ⟨x,H1,I1,C,J⟩=>?_;obtain⟨i,rfl,q⟩:=J;obtain⟨t,rfl⟩:=C;exact⟨some i,H1,I1, .int i t,q⟩
def CN(X:Cx)(r:V->Option Int->Option Int->Hp->VK->Prop):Prop:=
 ∀(pins:List (aw×Obj)) (s:ax) (σ:qr) (H:Hp) (x:V) (v a c:ae) (lo hi:Option Int) (sl:aw) (Q:VK),Inv X pins σ H s->RelV x v->s.heap.IsSliceOf sl a c .none->IsPart a lo->IsPart c hi->r x lo hi H Q->
  ∃T id,mM (.type T) "__getitem__"=pure (some (.builtin id))/\s.TypeIs v T/\wpAny (bg X.prog X.w) X.A (getItem v (.ref sl)) (EP X pins σ Q) X.xe s
def oY(r:V->Option Int->Option Int->Hp->VK->Prop)(te:TE)(tl th:TO):TE:=λσ H Q=>te σ H λx H1=>tl σ H1 λl H2=>th σ H2 λu H3=>r x l u H3 Q
theorem Cf{r:V->Option Int->Option Int->Hp->VK->Prop}(hr:CN X r)(he:PE X e te)(hl:PO X lo tl)(F:PO X hi th):PE X (.Subscript e (.Slice lo hi none p2) pos) (oY r te tl th):=by
 intro pins s σ H Q I h;refine Subscript_ (aI (he pins s σ H _ I h) λv s1 ⟨x,H1,I1,C,J⟩=>?_);refine wpAny_Slice (aI (hl pins s1 σ H1 _ I1 J) λa s2 ⟨l,H2,I2,pl,q2⟩=>aI (F pins s2 σ H2 _ I2 q2) λc U ⟨u,H3,I3,d,L⟩=>?_);rw[n3];refine a0 ?_;have t:Inv X pins σ H3 {U with heap:=U.heap.push {cls:= .type "slice",data:= .fields #[a,c, .none]}}:=I3.kept (t':=U.toks) λb g q=>dB _ q;obtain⟨T,id,hT,ht,hg⟩:=hr pins {U with heap:=U.heap.push {cls:= .type "slice",data:= .fields #[a,c, .none]}} σ H3 x v a c l u U.heap.objs.size Q t C (ql ..) pl d L;show wpAny (bg X.prog X.w) X.A (hU e (.Slice lo hi none p2) v (.ref U.heap.objs.size)) (EP X pins σ Q) X.xe {U with heap:=U.heap.push {cls:= .type "slice",data:= .fields #[a,c, .none]}};exact tail_any (ops:=[.ref U.heap.objs.size,v]) ht hT hg (by with_unfolding_all rfl)
noncomputable def jQ(xs:List V)(lo hi:Option Int):List V:=(xs.drop (HT.dS xs.length 0 lo)).take (HT.dS xs.length xs.length hi-HT.dS xs.length 0 lo)
theorem SW(xs:List V)(lo hi:Option Int):(jQ xs lo hi).length<=xs.length:=by
 unfold jQ;rw[oO,pF];omega
end
noncomputable def gF(n:Nat)(i:Int):Option Nat:=if 0<=i then(if i<n then some i.toNat else none) else if-(n:Int)<=i then some (i+n).toNat else none
noncomputable def bB(xs:List α)(i:Int):Option α:=(gF xs.length i).bind λj=>xs[j]?
theorem yN{i:Int}(h:gF n i=some j):lh i n=some j/\j<n/\ -(n:Int)<=i/\i<n:=by
 unfold gF at h;by_cases h0:0<=i
 .rw[if_pos h0] at h;by_cases h1:i<n
  .rw[if_pos h1] at h;have e:i.toNat=j:=fF h;exact⟨by rw[lj h0 h1,e],∅,∅,h1⟩
  .rw[if_neg h1] at h;cases h
 .rw[if_neg h0] at h;by_cases h1: -(n:Int)<=i
  .rw[if_pos h1] at h;have e:(i+n).toNat=j:=fF h;exact⟨by rw[seqIndex_neg ∅ h1,e],∅,h1,∅⟩
  .rw[if_neg h1] at h;cases h
theorem Au{α:Type}{xs:List α}{i:Int}{v:α}(h:bB xs i=some v):∃j,lh i xs.length=some j/\xs[j]?=some v/\j<xs.length/\ -(xs.length:Int)<=i/\i<xs.length:=by
  unfold bB at h;cases e:gF xs.length i with
  |none=>rw[e] at h;cases h
  | some j =>
    rw[e] at h;obtain⟨h1,h2,h3,h4⟩:=yN e;exact⟨j,h1,h,h2,h3,h4⟩
theorem Pk{α:Type}{xs:List α}{v:α}(h:xs[j]?=some v):bB xs (j:Int)=some v:=by
 have hj:j<xs.length:=(bG.mp h).1;have e:gF xs.length (j:Int)=some j:=by
  unfold gF;rw[if_pos ∅,if_pos ∅];simp
 unfold bB;rw[e];exact h
def T6(b:dk):Prop:=∀o i,lr b false o i=operate [o,i] (getItem o i)
def kh(X:Cx)(r:R2):Prop:=
 ∀(value a:dk) (pins:List (aw×Obj)) (s:ax) (σ:qr) (H:Hp) (x y:V) (v u:ae) (Q:VK),Inv X pins σ H s->RelV x v->RelV y u->r x y H Q->
  lr a false v u=operate [v,u] (getItem v u)->wpAny (bg X.prog X.w) X.A (hU value a v u) (EP X pins σ Q) X.xe s
def xK(X:Cx)(id:String)(r:V->List V->Hp->VK->Prop):Prop:=
 ∀(pins:List (aw×Obj)) (s:ax) (σ:qr) (H:Hp) (x:V) (xs:List V) (v:ae) (us:List ae) (Q:VK),Inv X pins σ H s->RelV x v->Vals xs us->r x xs H Q->
  wpAny (bg X.prog X.w) X.A (call (.builtin id) (v::us)) (EP X pins σ Q) X.xe s
section
variable{X:Cx}{a b:dk}{ta tb:TE}{pos:Pos}
theorem kh.or{r r':R2}(h:kh X r)(h':kh X r'):kh X (λx y H Q=>r x y H Q\/r' x y H Q):=by
 intro value slice pins s σ H x y v u Q I rx ry q hs;rcases q with q|q
 .exact h value slice pins s σ H x y v u Q I rx ry q hs
 .exact h' value slice pins s σ H x y v u Q I rx ry q hs
theorem aK{r:R2}(hr:kh X r)(ha:PE X a ta)(hb:PE X b tb)(O:T6 b):PE X (.Subscript a b pos) (c8 r ta tb):=by
 intro pins s σ H Q I h;exact Subscript_ (yJ ha hb I h λv u s2 x y H2 I2 j d q=>hr a b pins s2 σ H2 x y v u Q I2 j d q (O _ _))
def cO(K:PySem.W.Frag):R2:=λx y H Q=>∃p xs i v,x= .ref p/\y= .int i/\aS K H p xs/\bB xs i=some v/\Q v H
def e7(K:PySem.W.Frag):R2:=λx y H Q=>∃p xs i v,x= .ref p/\y= .int i/\fN K H p xs/\bB xs i=some v/\Q v H
def Dk:R2:=λx y H Q=>∃z i c,x= .str z/\y= .int i/\z.length<=sizeLine/\bB z.cps.toList i=some c/\Q (.str ⟨#[c]⟩) H
theorem bD:kh X (cO X.K):=by
 intro value slice pins s σ H x y v u Q I rx ry h hs;obtain⟨p,xs,i,z,rfl,rfl,hq,he,q⟩:=h;cases rx;obtain⟨t,rfl⟩:=ry;obtain⟨its,r,pl,hz⟩:=I.list hq;obtain⟨j,h1,h2,h3,h4,h5⟩:=Au he;obtain⟨w,ew,d⟩:=r.get h2;have hl:=r.length;have hn:=pC;have fin:EP X pins σ Q w s:=⟨z,H,I,d,q⟩;by_cases h0:0<=i
 .have hj:i.toNat=j:=by
   rw[lj h0 h5] at h1;exact fF h1
  exact item_listR pl.isList h0 ∅ (by rw[hj];simpa using ew) fin hs
 .have hj:(i+(its.toArray.size:Int)).toNat=j:=by
   rw[seqIndex_neg ∅ h4] at h1;rw[cV,<-hl];exact fF h1
  exact fA (x:=w) pl.isList.typeIs iq.lookup
   (wpAny_getItem_list_neg (Q:=λr s'=>r=w/\EP X pins σ Q r s') pl.isList ∅ (by rw[cV]<;>omega) ∅ (by rw[hj];simpa using ew) ⟨rfl,fin⟩) hs
theorem fU:kh X (e7 X.K):=by
 intro value slice pins s σ H x y v u Q I rx ry h hs;obtain⟨p,xs,i,z,rfl,rfl,hq,he,q⟩:=h;cases rx;obtain⟨t,rfl⟩:=ry;obtain⟨its,r,pl,hz⟩:=I.tuple hq;obtain⟨j,h1,h2,h3,h4,h5⟩:=Au he;obtain⟨w,ew,d⟩:=r.get h2;have hl:=r.length;have hn:=pC;have fin:EP X pins σ Q w s:=⟨z,H,I,d,q⟩
 exact fA (x:=w) pl.typeIs slot_tuple_getitem.lookup
  (getItem_tuple (j:=j) (Q:=λr s'=>r=w/\EP X pins σ Q r s') pl ∅ ∅ (by rw[cV,<-hl];exact h1) (by simpa using ew) ⟨rfl,fin⟩) hs
theorem UK:kh X Dk:=by
 intro value slice pins s σ H x y v u Q I rx ry h hs;obtain⟨z,i,c,rfl,rfl,hz,he,q⟩:=h;obtain⟨t,rfl⟩:=rx;obtain⟨t',rfl⟩:=ry;obtain⟨j,h1,h2,h3,h4,h5⟩:=Au he;have hl:z.cps.toList.length=z.length:=by simp[Str.length]
 rw[hl] at h1 h4 h5;have hn:=pC
 exact tail_any (typeIs_str s z t) slot_str_getitem.lookup (getItem_str (c:=c) (by
  have e1:decide (i< -(2^63:Int))=false:=decide_eq_false ∅;have e2:decide (i≥2^63)=false:=decide_eq_false ∅;rw[e1,e2,nC]) (by rw[h1];simpa using h2) ⟨.str ⟨#[c]⟩,H,I.tok _,⟨_,rfl⟩,q⟩) hs
def tE(K:PySem.W.Frag):R2:=λx y H Q=>cO K x y H Q\/e7 K x y H Q\/Dk x y H Q
theorem Ji:kh X (tE X.K):=bD.or (fU.or UK)
theorem SD(its:List ae)(n j:Nat)(u:ae):a9 (·.setIfInBounds j u) {cls:= .type "list",data:= .seq its.toArray n}={cls:= .type "list",data:= .seq (its.set j u).toArray n}:=by
 simp[a9]
theorem Inv.lst{pins:List (aw×Obj)}{σ:qr}{H:Hp}{s:ax}{p:aw}{xs:List V}(I:Inv X pins σ H s)(h:H p=some (.lst xs)):
  ∃(its:List ae) (n:Nat),Vals xs its/\s.heap.get? p=some {cls:= .type "list",data:= .seq its.toArray n}/\xs.length<=sizeLine:=by
 obtain⟨z,its,n,r,e⟩:=I.hok p _ h;exact⟨its,n,r,e,z⟩
theorem Inv.Ol{p:aw}{ys:List V}{its':List ae}{c:Nat}{f:Obj->Obj}(I:Inv X pins σ H s)(h:H p=some (.lst xs))
  (ho:s.heap.get? p=some {cls:= .type "list",data:= .seq its.toArray n}) (hf:f {cls:= .type "list",data:= .seq its.toArray n}={cls:= .type "list",data:= .seq its'.toArray c}) (r:Vals ys its') (hz:ys.length<=sizeLine) (t:Nat):
  Inv X pins σ (upd H p (.lst ys)) {s with heap:=s.heap.update p f,toks:=t}:=by
 have e:(s.heap.update p f).get? p=some {cls:= .type "list",data:= .seq its'.toArray c}:=by
  rw[Bt f ho (by rw[hf]<;>rfl),hf]
 refine I.write (x:=p) (e:=p) (by rw[h];trivial) (.inl rfl) (λb u hb q=>(sO _ _ (bX hb)).trans q) ⟨_,e⟩ ?_;exact⟨hz,its',c,r,e⟩
def rJ:V->V->V->Hp->(Hp->Prop)->Prop:=λo i v H Q=>∃p xs k j,o= .ref p/\i= .int k/\H p=some (.lst xs)/\gF xs.length k=some j/\Q (upd H p (.lst (xs.set j v)))
theorem set_list:AL X rJ:=by
 intro pins s σ H o i v ov iv u Q I ro ri rv h;obtain⟨p,xs,k,j,rfl,rfl,hp,hj,q⟩:=h;cases ro;obtain⟨t,rfl⟩:=ri;obtain⟨its,n,r,ho,hz⟩:=I.lst hp;obtain⟨h1,h2,h3,h4⟩:=yN hj;have hl:=r.length;have hn:=pC
 have b:Inv X pins σ (upd H p (.lst (xs.set j v))) {s with heap:=s.heap.update p (a9 (·.setIfInBounds j u))}:=
  I.Ol hp ho (SD its n j u) (r.set rv j) (by rw[eG];exact hz) s.toks
 by_cases h0:0<=k
 .have hk:k.toNat=j:=by
   rw[lj h0 h4] at h1;exact fF h1
  exact PySem.W.ki_setAt ho h0 ∅ (by rw[cV,<-hl];exact h4) (by rw[hk];exact⟨_,b,q⟩)
 .have hk:(k+(its.toArray.size:Int)).toNat=j:=by
   rw[seqIndex_neg ∅ h3] at h1;rw[cV,<-hl];exact fF h1
  exact PySem.W.ki_setBack ho ∅ (by rw[cV,<-hl];exact h3) ∅ (by rw[hk];exact⟨_,b,q⟩)
theorem PZ(lo hi:Option Int)(n:Nat):(en lo hi none n).1=((HT.dS n 0 lo:Nat):Int)/\(en lo hi none n).2.1=((HT.dS n n hi:Nat):Int)/\(en lo hi none n).2.2=1:=by
  refine⟨?_,?_,rfl⟩
  · cases lo with
    |none=>simp[en,HT.dS]
    | some i =>
      simp only[en,HT.dS,kd,show(1:Int)>0 by decide,if_true];by_cases h:i<0;· simp only[h,if_true]<;>omega
      · simp only[h,if_false]<;>omega
  · cases hi with
    |none=>simp[en,HT.dS]
    | some i =>
      simp only[en,HT.dS,kd,show(1:Int)>0 by decide,if_true];by_cases h:i<0;· simp only[h,if_true]<;>omega
      · simp only[h,if_false]<;>omega
theorem Pu(its:List ae)(lo hi:Option Int):slicePick its.toArray lo hi none=((its.drop (HT.dS its.length 0 lo)).take (HT.dS its.length its.length hi-HT.dS its.length 0 lo)).toArray:=by
 obtain⟨h1,h2,h3⟩:=PZ lo hi its.toArray.size;unfold slicePick;rw[h1,h2,h3];simp only[sliceRange_one,pick_run,cV]<;>rfl
def pD(K:PySem.W.Frag):V->Option Int->Option Int->Hp->VK->Prop:=λx lo hi H Q=>∃a xs,x= .ref a/\aS K H a xs/\∀p,H p=none->Q (.ref p) (upd H p (.lst (jQ xs lo hi)))
theorem B9:CN X (pD X.K):=by
 intro pins s σ H x v vl vu lo hi sl Q I rx hs pl pu h;obtain⟨a,xs,rfl,hx,q⟩:=h;cases rx;obtain⟨its,r,ht,hz⟩:=I.list hx;have hlen:=r.length;refine⟨"list",_,iq.lookup,ht.isList.typeIs,?_⟩;refine wpAny_getItem_list_slice ht.isList hs pl pu .none (by simp) ?_ (by rw[cV]<;>omega);rw[Pu,<-hlen];refine⟨.ref s.heap.objs.size,_,I.laid (t':=s.toks) (o:= .lst (jQ xs lo hi)) (λb g q=>dB _ q) (bh _) ?_,rfl,q _ (I.hok.fresh (bh _))⟩;exact⟨dZ (SW xs lo hi) hz,_,0,(r.drop (HT.dS xs.length 0 lo)).take (HT.dS xs.length xs.length hi-HT.dS xs.length 0 lo),gH _ rfl⟩
theorem Gf:gQ X (.builtin "len") (λxs H Q=>∃p ys,xs=[.ref p]/\(aS X.K H p ys\/fN X.K H p ys)/\Q (.int ys.length) H):=by
 intro pins s σ H xs us Q I r h;obtain⟨p,ys,rfl,hq,q⟩:=h;obtain⟨u,rfl,j⟩:=vals1 r;cases j;have hn:=pC;rcases hq with hq|hq
 .obtain⟨its,r',pl,hz⟩:=I.list hq;have hlen:=r'.length;exact Calls.call_len_list pl.isList (by simp only[cV]<;>omega) ⟨.int ys.length,H,I.tok _,⟨s.toks+1,by rw[cV,hlen]⟩,q⟩
 .obtain⟨its,r',pl,hz⟩:=I.tuple hq;have hlen:=r'.length;exact len_tuple pl (by simp only[cV]<;>omega) ⟨.int ys.length,H,I.tok _,⟨s.toks+1,by rw[cV,hlen]⟩,q⟩
theorem R9:gQ X (.type "list") (λxs H Q=>∃p ys,xs=[.ref p]/\(aS X.K H p ys\/fN X.K H p ys)/\∀l,H l=none->Q (.ref l) (upd H l (.lst ys))):=by
 intro pins s σ H xs us Q I r h;obtain⟨p,ys,rfl,hq,q⟩:=h;obtain⟨u,rfl,j⟩:=vals1 r;cases j
 have fin:∀(its:List ae),Vals ys its->ys.length<=sizeLine->∀(h':dc) (c':Nat),(∀b o',s.heap.get? b=some o'->h'.get? b=some o')->
   h'.get? s.heap.objs.size=some {cls:= .type "list",dict:=none,data:= .seq its.toArray c',slots:= #[]}->EP X pins σ Q (.ref s.heap.objs.size) {s with heap:=h'}:=λits r' hz h' c' kp e=>
  ⟨.ref s.heap.objs.size,_,I.laid (t':=s.toks) kp (bh _) (show bS X.prog X.w _ h' _ (.lst ys) from⟨hz,its,c',r',e⟩),rfl,q _ (I.hok.fresh (bh _))⟩
 rcases hq with hq|hq
 .obtain⟨its,r',pl,hz⟩:=I.list hq;have hlen:=r'.length;obtain⟨o,ho,hc,n,hd⟩:=pl.isList;exact n4 p (.inl rfl) ho hc hd (λh' c' kp e=>fin its r' hz h' c' kp e) (by simp only[cV]<;>omega)
 .obtain⟨its,r',pl,hz⟩:=I.tuple hq;have hlen:=r'.length;obtain⟨o,ho,hc,n,hd⟩:=pl;exact n4 p (.inr rfl) ho hc hd (λh' c' kp e=>fin its r' hz h' c' kp e) (by simp only[cV]<;>omega)
def rD(K:PySem.W.Frag)(T:String)(x:V)(H:Hp):Prop:=match x with
 | .str _=>T="str"
 | .int _=>T="int"
 | .ref p => (T = "list" /\ ∃ xs, aS K H p xs) \/ (T = "tuple" /\ ∃ o, K.lookup p = some o /\ o.cls = .type "tuple" /\ o.dict = none) \/
   (T="dict" /\((∃kvs,H p=some (.dK kvs))\/(∃kvs,H p=some (.dT kvs))\/∃o kvs,H p=some (.gp o (.dK kvs))))\/(T="set" /\∃S n,H p=some (.set S n))
 |_=>False
theorem N4{x:V}{v:ae}(I:Inv X pins σ H s)(r:RelV x v)(ty:rD X.K T x H):
    s.TypeIs v T/\∀a,v= .ref a->∃ob,s.heap.get? a=some ob/\ob.dict=none:=by
  cases x with
  | str z =>
    obtain⟨t,rfl⟩:=r;cases (show T="str" from ty);exact⟨typeIs_str s z t,λ_ e=>nomatch e⟩
  | int i =>
    obtain⟨t,rfl⟩:=r;cases (show T="int" from ty);exact⟨typeIs_int s i t,λ_ e=>nomatch e⟩
  | ref p =>
    cases r;rcases ty with ⟨rfl,xs,hq⟩|⟨rfl,o,hk,hc,hd⟩|⟨rfl,hk⟩|⟨rfl,S,n,hk⟩
    · obtain⟨its,_,pl,_⟩:=I.list hq
      refine⟨pl.isList.typeIs,λa e=>?_⟩;cases e;obtain⟨o,n,e,c,hd,_⟩:=pl;exact⟨o,e,hd⟩
    · refine⟨⟨o,I.cC p o hk,hc⟩,λa e=>?_⟩
      cases e;exact⟨o,I.cC _ o hk,hd⟩
    · have z:∃o,s.heap.get? p=some o/\o.ExactDict:=by
        rcases hk with ⟨kvs,hk⟩|⟨kvs,hk⟩|⟨ob,kvs,hk⟩
        · obtain⟨_,_,_,_,o,_,_,e,ex,_⟩:=I.hok p _ hk
          exact⟨o,e,ex⟩
        · obtain⟨_,_,_,_,o,_,_,e,ex,_⟩:=I.hok p _ hk
          exact⟨o,e,ex⟩
        · obtain⟨_,_,_,_,_,o,_,_,e,ex,_⟩:=I.hok p _ hk
          exact⟨o,e,ex⟩
      obtain⟨o,e,ex⟩:=z;refine⟨⟨o,e,ex.1⟩,λa e2=>?_⟩;cases e2;exact⟨o,e,ex.2.1⟩
    · obtain⟨o,_,_,_,e,ex,_⟩:=I.hok p _ hk
      refine⟨⟨o,e,ex.1⟩,λa e2=>?_⟩;cases e2;exact⟨o,e,ex.2.1⟩
  |_=>exact cw ty
def mj(K:PySem.W.Frag)(T:String)(r:V->List V->Hp->VK->Prop)(to:TE)(t:TA):TE:=λσ H Q=>to σ H λx H1=>rD K T x H1/\t σ H1 λxs H2=>r x xs H2 Q
variable{o e:dk}{es:List dk}{to:TE}{t:TA}{name:Str}{apos cpos:Pos}{T id:String}{r:V->List V->Hp->VK->Prop}
theorem lz(g:PlainAttrs T)(slot:Slot T name id)(f:typeOf (.builtin id)=pure (.type "method_descriptor"))(hm:xK X id r)(ho:PE X o to)(ha:PA X (e::es) t)
  (c:hJ o name X.env (eval o X.env)=eval o X.env:=by rfl)
  (d : ((backTo cpos (starEach (e :: es) X.env)).all (λx => !x.1) && (backToKw cpos (keywordEach [] X.env)).all (λx => x.1.isSome)
   && decide ((e::es).length+([]:List Keyword).length+(if([]:List Keyword).isEmpty then 0 else 1)<30))=true:=by rfl)
  (b:(apos.endLine==cpos.line)=true:=by rfl) (O:ba (e::es) X.env=(false,eval e X.env)::ba es X.env:=by rfl) (a:(er cpos (ba es X.env)).any (·.1)=false:=by rfl):
  PE X (.Call (.Attribute o name apos) (e::es) [] cpos) (mj X.K T r to t):=by
 intro pins s σ H Q I h;refine wpAny_Call_method_late c d b rfl (aI (ho pins s σ H _ I h) λv s1 ⟨x,H1,I1,C,ty,J⟩=>?_);obtain⟨h1,h2⟩:=N4 I1 C ty;refine⟨T,id,g,slot,f,h1,h2,?_⟩;have hA:=ha cpos pins s1 σ H1 _ I1 J;rw[O] at hA⊢;refine Calls.callWith_builtin (by show(false||(er cpos (ba es X.env)).any (·.1))=false;rw[a]<;>rfl) (Calls.evalArgs_plain ?_);exact aI hA λus s2 ⟨vs,H2,I2,N,q2⟩=>hm pins s2 σ H2 x vs v us Q I2 C N q2
/-xs.append(e),list.index on a module's tuple .. are xK facts of 06m-/
end
def ue(X:Cx)(id:String)(r:V->List V->Hp->VK->Prop):Prop:=
 ∀(pins:List (aw×Obj)) (s:ax) (σ:qr) (H:Hp) (x:V) (xs:List V) (v:ae) (us:List ae) (Q:VK),Inv X pins σ H s->RelV x v->Vals xs us->r x xs H Q->
  wpAny (bg X.prog X.w) X.A (call (.builtin id) (v::us)) (EP X pins σ Q) X.xe s
theorem Vals.one{x:V}(h:Vals [x] us):∃u,us=[u]/\RelV x u:=by
 cases h with
 |cons r t=>cases t;exact⟨_,rfl,r⟩
theorem Vals.two{x y:V}(h:Vals [x,y] us):∃u v,us=[u,v]/\RelV x u/\RelV y v:=by
  cases h with
  | cons r t =>
    obtain⟨v,e,q⟩:=Vals.one t;exact⟨_,v,by rw[e],r,q⟩
theorem Vals.eraseIdx:∀{xs:List V} {us:List ae} (i:Nat),Vals xs us->Vals (xs.eraseIdx i) (us.eraseIdx i)
 |_,_,_, .nil=> .nil
 |_,_,0, .cons _ t=>t
 |_,_,i+1, .cons r t=> .cons r (Vals.eraseIdx i t)
theorem Vals.reverse{xs:List V}{us:List ae}(h:Vals xs us):Vals xs.reverse us.reverse:=by
 induction h with
 |nil=>exact .nil
 |cons r t ih=>rw[uK,uK];exact Vals.append ih (.cons r .nil)
theorem JF{α:Type}:∀(l:List α) (i:Nat),(l.eraseIdx i).length<=l.length
 |[],_=>bh _
 |_::_,0=>kT _
 |_::r,i+1=>ke (JF r i)
section
variable{X:Cx}{pins:List (aw×Obj)}{σ:qr}{H:Hp}{s:ax}{l b:aw}{xs ys zs:List V}
theorem Inv.vG{its':List ae}{f:Array ae->Array ae}(I:Inv X pins σ H s)(p:H l=some (.lst xs))
  (e:s.heap.get? l=some {cls:= .type "list",data:= .seq its.toArray n}) (hf:f its.toArray=its'.toArray) (hv:Vals ys its') (hz:ys.length<=sizeLine):
  Inv X pins σ (upd H l (.lst ys)) {s with heap:=s.heap.update l (a9 f),toks:=t'}:=by
 have q:=PySem.IsL.update e f;rw[hf] at q;refine I.write (x:=l) (e:=l) (by rw[p];exact trivial) (.inl rfl) (λw u hb F=>(sO s.heap (a9 f) (bX hb)).trans F) ⟨_,q⟩ ?_;exact⟨hz,its',_,hv,q⟩
theorem Inv.Jc(I:Inv X pins σ H s)(hv:Vals ys its)(hz:ys.length<=sizeLine):
  Inv X pins σ (upd H s.heap.objs.size (.lst ys)) {s with heap:=s.heap.push {cls:= .type "list",data:= .seq its.toArray},toks:=t'}:=
 I.laid (λ_ _ q=>dB _ q) (bh _) ⟨hz,its,0,hv,gH _ rfl⟩
theorem Inv.fresh(I:Inv X pins σ H s):H s.heap.objs.size=none:=I.hok.fresh (bh _)
theorem Inv.mX(I:Inv X pins σ H s)(p:H l=some (.lst xs)):xs.length<=sizeLine/\∃(its:List ae) (n:Nat),Vals xs its/\xs.length=its.length/\s.heap.get? l=some {cls:= .type "list",data:= .seq its.toArray n}:=by
 obtain⟨z,its,n,r,e⟩:=I.hok l _ p;exact⟨z,its,n,r,r.length,e⟩
end
section
variable{X:Cx}
def ES:V->List V->Hp->VK->Prop:=λx vs H Q=>∃l xs y,x= .ref l/\vs=[y]/\H l=some (.lst xs)/\xs.length<sizeLine/\Q .aD (upd H l (.lst (xs++[y])))
theorem oZ:ue X "list.append" ES:=by
 intro pins s σ H x vs v us Q I rx rv h;obtain⟨l,xs,y,rfl,rfl,p,hz,q⟩:=h;cases rx;obtain⟨u,rfl,D⟩:=rv.one;obtain⟨z,its,n,r,hl,e⟩:=I.mX p;refine mN qB ⟨_,e,rfl⟩ F.entry_list_append (F.args_list_append_2 _ _) (PySem.list_append l its.toArray n u (by rw[cV];omega)) ⟨e,?_⟩;refine⟨.aD,_,I.vG (its':=its++[u]) p e (by simp) (r.append (.cons D .nil)) ?_,rfl,q⟩;rw[fq,o6];omega
def JC:V->List V->Hp->VK->Prop:=λx vs H Q=>∃l xs i k y,x= .ref l/\vs=[.int i]/\H l=some (.lst xs)/\ -(2^63)<=i/\i<2^63/\lh i xs.length=some k/\xs[k]?=some y/\Q y (upd H l (.lst (xs.eraseIdx k)))
theorem Ko:ue X "list.pop" JC:=by
 intro pins s σ H x vs v us Q I rx rv h;obtain⟨l,xs,i,k,y,rfl,rfl,p,h1,h2,hk,hy,q⟩:=h;cases rx;obtain⟨u,rfl,D⟩:=rv.one;obtain⟨t,rfl⟩:=D;obtain⟨z,its,n,r,hl,e⟩:=I.mX p;obtain⟨w,hw,d⟩:=r.get hy
 refine mN F.slot_list_pop ⟨_,e,rfl⟩ F.entry_list_pop (F.args_list_pop_2 _ _)
  (MeetsSeq.list_pop_at l its.toArray n i t k w (mu h1 h2) (by rw[cV,<-hl];exact hk) (by rw[<-wK];exact hw) (by rw[cV];omega)) ⟨e,?_⟩
 refine⟨y,_,I.vG (its':=its.eraseIdx k) p e ?_ (r.eraseIdx k) ?_,d,q⟩
 .show its.toArray.eraseIdxIfInBounds k=(its.eraseIdx k).toArray;rw[List.eraseIdxIfInBounds_toArray]
 .have:=JF xs k;omega
def yU:R2:=λx y H Q=>∃l b xs zs,x= .ref l/\y= .ref b/\H l=some (.lst xs)/\H b=some (.lst zs)/\xs.length+zs.length<=sizeLine/\∀p,H p=none->Q (.ref p) (upd H p (.lst (xs++zs)))
theorem C8:dj X (fg .Add) yU:=by
 intro pins s σ H x y v u Q I rx ry h;obtain⟨l,b,xs,zs,rfl,rfl,p,M,hz,q⟩:=h;cases rx;cases ry;obtain⟨z,its,n,r,hl,e⟩:=I.mX p;obtain⟨z2,d,w,N,g,e2⟩:=I.mX M;refine PySem.P.add_list e e2 ?_ (by rw[cV,cV];omega);have G:its.toArray++d.toArray=(its++d).toArray:=by simp
 rw[G];exact⟨.ref _,_,I.Jc (t':=s.toks) (r.append N) (by rw[fq];omega),rfl,q _ I.fresh⟩
end
end L2
namespace Att
open PySem PySem.W PySem.Calls PyProof.Rows
theorem Kg{P:Params}:∀(ns:List Int) (vs:List ae),WellAll P h vs (ns.map q9)->ft vs ns:=by
  intro ns;induction ns with
  | nil =>
    intro vs w;rw[lC] at w;cases w;exact .nil
  | cons n ns ih =>
    intro vs w;rw[bu] at w;cases w with
    | cons a b =>
      cases a;exact .cons _ _ (ih _ b)
theorem NF{l:OpenLaw}(hn:l.most=some n){P:Params}{h:dc}{args:List WData}{b:List ae}
    (c:l.row.toRowW.claim.pre args=true) (U:WellAll P h b args):
    ∃a vs ns,b=[bj a]/\args=[WData.list (ns.map q9)]/\h.get? a=some {cls:= .type "list",data:= .seq vs.toArray}/\ft vs ns/\ns.length<=n:=by
  have f:WShape.hasAll [] args [.list .int]=true:=(pre_splitW c).1;have hc:l.pre.holds [] {args:=args}=true:=(pre_splitW c).2;obtain⟨d,r,rfl,h1,h2⟩:=hasAllW_cons f;obtain rfl:=hasAllW_nil h2;obtain⟨xs,rfl,h3⟩:=hasW_list h1;obtain⟨ns,rfl⟩:=items_int h3;have hlen:ns.length<=n:=by
    unfold OpenLaw.pre at hc;have h4:(WTm.not (.lt (.lit (.int (n:Int))) (.len (.arg 0)))).holds [] {args:=[.list (ns.map .int)]}=true:=by
      have h4:=(holds_andW hc).1;rw[hn] at h4;exact h4
    have h5:=condW_of h4 (w_not (w_lt w_lit (w_len_list (w_arg rfl))));rw[ao] at h5;refine Nat.le_of_not_lt λq=>?_;have B:(n:Int)<((ns.length:Nat):Int):=∅
    first
      |(rw[decide_eq_true B] at h5;exact absurd h5 ⋯)
      |(simp at h5;omega)
  cases U with
  | cons g T =>
    cases T;cases g with
    |list ho e=>exact⟨_,_,ns,rfl,rfl,ho,Kg ns _ e,hlen⟩
theorem QD(l:OpenLaw)(args:List WData):l.row.toRowW.claim.post args (.bool true) args=true:=
 postW_of (r:=l.row.toRowW) (X:=(true==true))
  (show qx [] (.bool true) .bool=true by first|rfl|decide|simp[qx,WShape.arms,WShape.armsAll])
  (show(WTm.eq .res (.lit (.bool true))).value [] {args:=args,res:=some (.bool true),after:=args}=some (.bool (true==true)) from w_eq_bool (w_res rfl) w_lit) rfl
theorem OV{l:OpenLaw}{q:bc}{c:List Str}{A:bw->dc->Prop}{d:DefRec}
  (hn:l.most=some n) (y:d.params.defaults=[])
  (call : ∀ (w : World) (s₀ s₁ : Shared) (mg mb : Str -> Option Value) (t : Addr) (o : Obj) (pm m doc : Value) (a : Addr) (vs : List Value) (ns : List Int),
   Ground q c [] B w s₀ mg mb s₁.heap->A w s₁.heap->
   s₁.heap.get? t=some o->o.data= .func (docDef d.name d.params d.body d.scope pm m doc)->s₁.heap.CodeRec m d.name->mg d.name=some (.ref t)->
   s₁.heap.get? a=some {cls:= .type "list",data:= .seq vs.toArray}->ft vs ns->ns.length<=n->s₁.gens= #[]->
   codeAny (bg l.prog w) ix (.call (.ref t) ⟨[.ref a],[]⟩) (λr s'=>r= .ok (.ret (.bool true))/\OldK s₁.heap s'.heap/\s'.os=s₁.os/\fI s'.gens) s₁):
  WalkO q c B A l.row.toRowW d [] (λf vs=>PySem.call f vs):=by
 intro w s₀ s₁ mg mb G Y t o pm m doc dV kV ho hd hcd hD hmg hg args vals as hpre hlay hrd hwl hlo;obtain rfl:dV= .none:=Dflts.none hD y;obtain rfl:kV= .none:=Dflts.noKw hD;obtain⟨a,vs,ns,rfl,rfl,z,i,hlen⟩:=NF hn hpre hwl;refine enter_call (gq (call w s₀ s₁ mg mb t o pm m doc a vs ns G Y ho (fd_plain hd) hcd hmg z i hlen hg) λr s' hq=>?_);obtain⟨rfl,h2,h3,h4⟩:=hq;exact⟨.inl ⟨.bool true, .bool true,[],rfl,λ_=>rfl, .bool true,QD l _,λ_=>⟨qA,λ_ hm=>(nomatch hm)⟩⟩,h2,h3,h4⟩
section
variable{prog:bc}{w:bw}{A:cj}{E:ae->ax->Prop}{s:ax}{K:Frag}
end
end Att
namespace L2
theorem D7:∀{vs:List ae} {ns:List Int},ft vs ns->Vals (ns.map V.int) vs
 |_,_, .nil=> .nil
 |_,_, .cons n t h=> .cons ⟨t,rfl⟩ (D7 h)
def zQ(H:Hp):Prop:=∀b,H b=none\/∃o xs,H b=some (.gp o (.lst xs))
theorem UY{P:bc}{K:PySem.W.Frag}{mb:Str->Option ae}{CX:ki}{k:Nat}{t:aw}{s₁:ax}
    (KX:K.In s₁.heap) (c:s₁.heap.Ns a4 mg) (hb:s₁.heap.Ns mB mb) (D:∀x:Str,x≠"__name__" ->mb x=ed x) (i:s₁.heap.NoLimit) (hg:s₁.gens= #[])
    (ha:s₁.heap.get? a=some {cls:= .type "list",data:= .seq vs.toArray}) (hi:ft vs ns) (hl:ns.length<=sizeLine) (hr:c5 k ix)
    (F:∀base:dc,K.In base->base.Ns a4 mg->bx P w K mg base CX k t fd [x] sp) (f:∀(s:ax) (u:ae),la s fd ⟨[u],[]⟩ [(x,u)])
    (p:∀H:Hp,zQ H->aS K H a (ns.map V.int)->sp [.ref a] H (λv _=>v= .bl true) λ_ _ _=>False)
    (C:∀H e s',CX [] H s₁ (λ_ _ _=>False) e s'->False):
    codeAny (bg P w) ix (.call (.ref t) ⟨[.ref a],[]⟩) (λr s'=>r= .ok (.ret (.bool true))/\OldK s₁.heap s'.heap/\s'.os=s₁.os/\fI s'.gens) s₁:=by
  have rv:=D7 hi;have L4:=hi.length
  have core:∀H:Hp,zQ H->aS K H a (ns.map V.int)->cY P w H s₁.heap->(∀b,H b≠none->b=a)->(H a≠none->K.lookup a=none)->
      codeAny (bg P w) ix (.call (.ref t) ⟨[.ref a],[]⟩) (λr s'=>r= .ok (.ret (.bool true))/\OldK s₁.heap s'.heap/\s'.os=s₁.os/\fI s'.gens) s₁:=by
    intro H hO hS hok hA hK;have l:∀{b:aw} {o:Obj},s₁.heap.get? b=some o->H b=none->(kY s₁.heap H).get? b=some o:=λe n=>KI e n;have g:∀{b:aw} {o:Obj} {es:Array DictEntry} {ep:Nat},s₁.heap.get? b=some o->o.data= .dict es ep->H b=none:=λ{b o es ep} e d=>by
      cases q:H b with
      |none=>rfl
      | some u =>
        have e':b=a:=hA b (by rw[q];simp);subst e';rw[ha] at e;cases e
        have d':Data.seq vs.toArray _=Data.dict es ep:=d;cases d'
    have j:∀{b:aw} {m:Str->Option ae},s₁.heap.Ns b m->(kY s₁.heap H).Ns b m:=λ{b m} ⟨o,es,ep,e,d,r⟩=>⟨o,es,ep,l e (g e d),d,r⟩
    have y:K.In (kY s₁.heap H):=λb o e=>l (KX b o e) (by
      cases q:H b with
      |none=>rfl
      | some u =>
        have e':b=a:=hA b (by rw[q];simp);subst e';rw[hK (by rw[q];simp)] at e;cases e)
    have J:Mod K mg (kY s₁.heap H):=⟨y,j c,⟨mb,j hb,D⟩,let ⟨E,h1,h2⟩:=i;⟨E,j h1,h2⟩⟩;have X:mQ P w K mg (kY s₁.heap H) ix [] s₁ H:=⟨rfl,J,λb o e=>Uw e,oy (OU _ _),trivial,λb hb=>absurd (show b∈([]:List aw) from hb) (by simp),hok, .of_eq hg⟩;refine gq ((F _ y (j c)).run ix [] s₁ H ⟨[.ref a],[]⟩ [.ref a] [.ref a] _ _ hr X (f s₁ (.ref a)) (.cons rfl .nil) (p H hO hS)) λr s' h=>?_;cases r with
    |error e=>exact(C H e s' h).elim
    | ok fl =>
      cases fl with
      |next=>exact cw h
      |brk=>exact cw h
      |cont=>exact cw h
      | ret u =>
        obtain⟨v,H',os,bare,un,A,r',q⟩:=h;have B:v= .bl true:=q;subst B;obtain rfl:u=hh true:=r';refine⟨rfl,OldK.of_keep λb o e=>?_,os,bare⟩;cases q:H b with
        |none=>exact un.keep b o e q (by intro z;exact absurd (show b∈([]:List aw) from z) (by simp)) (by simp)
        | some u =>
          rcases hO b with z|⟨ob,xs,z⟩
          · rw[q] at z;cases z
          · have z2:=un.lg b ob _ z
            obtain⟨e1,_⟩:=hok b _ z;obtain⟨e2,_⟩:=A b _ z2;rw[e] at e1;cases e1
            exact e2
  cases hk:K.lookup a with
  | some o =>
    have e:=KX a o hk;rw[ha] at e;cases e;refine core (λ_=>none) (λ_=> .inl rfl) (.inr ⟨_,vs.toArray,_,hk,rfl,rfl,rfl,by rw[cV,L4];exact hl,by simpa using rv⟩) (λb u z=>by have z':(none:Option HO)=some u:=z;cases z') (λb z=>absurd rfl z) λz=>absurd rfl z
  | none =>
    refine core (λb=>if b=a then some (.gp {cls:= .type "list",data:= .seq vs.toArray} (.lst (ns.map V.int))) else none) (λb=>?_) (.inl (.inr ⟨{cls:= .type "list",data:= .seq vs.toArray},if_pos rfl⟩)) (λb u z=>?_) (λb z=>?_) λ_=>hk
    · by_cases hb:b=a
      · exact .inr ⟨_,_,if_pos hb⟩
      · exact .inl (if_neg hb)
    · by_cases hb:b=a
      · have z':=(if_pos hb).symm.trans z
        cases z';subst hb;exact⟨ha,by rw[ao];exact hl,vs,_,rv,ha⟩
      · have z':=(if_neg hb).symm.trans z
        cases z'
    · by_cases hb:b=a
      · exact hb
      · exact absurd (if_neg hb) z
theorem Od{k:Nat}{q:bc}{c:List Str}{A:bw->dc->Prop}{d:DefRec}{K:Params->PySem.W.Frag}{CX:bw->ki}{sp:bw->Sp}
  (hn:l.most=some n) (M:n<=sizeLine) (y:d.params.defaults=[]) (hr:c5 k ix)
  (R:∀(w:bw) (h:dc),A w h->(K w.params).In h)
  (F : ∀ (w : World) (mg : Str -> Option Value) (t : Addr) (h : Heap), (K w.params).In h -> h.Ns mainGlobals mg -> mg d.name = some (.ref t) ->
   ∃fd:dE,(∀(s:ax) (u:ae),la s fd ⟨[u],[]⟩ [(x,u)])/\
    ∀base:dc,(K w.params).In base->base.Ns a4 mg->bx l.prog w (K w.params) mg base (CX w) k t fd [x] (sp w))
  (p:∀(w:bw) (H:Hp) (a:aw) (ns:List Int),ns.length<=n->zQ H->aS (K w.params) H a (ns.map V.int)->sp w [.ref a] H (λv _=>v= .bl true) λ_ _ _=>False)
  (C:∀(w:bw) (H:Hp) (s:ax) (e:ae) (s':ax),CX w [] H s (λ_ _ _=>False) e s'->False):
  PySem.W.WalkO q c B A l.row.toRowW d [] (λf vs=>PySem.call f vs):=by
 refine Att.OV hn y λw s₀ s₁ mg mb t o pm m doc a vs ns G Y ho hd j r z i hlen hg=>?_;have KX:=R w _ Y;obtain⟨fd,hb,I⟩:=F w mg t _ KX G.T.g r;exact UY KX G.T.g G.T.b G.T.builtins G.T.nolimit hg z i (dZ hlen M) hr I hb (λH D N=>p w H a ns hlen D N) λH e s'=>C w H s₁ e s'
end L2
/-THE LAST THEOREM (shape;LID,My.*are yours):
   My.Adr:a structure of the addresses that your layer names (classes,functions);My.Txt K t:a structure (Prop) of the equations over K;
   My.txt_mk:{K} {implicit addresses ..} (e1:nsIn K a4 "law"=some (some (.ref f))) (e2:K.lookup f=some ⟨oc,od, .func (fnOf "law" "law" params body scope dV kV doc pm an cdv ct),sl⟩) (e3:codeIn K cdv "law"=true) .. :∃t,My.Txt K t
(the tactic k_is has no namespace:write k_is)-/
namespace L2
noncomputable def inClass(s:eo)(j:Nat):eo:=match s with
 | .ClassDef _ _ _ a _ _ _ _ _ _ _=>a.getD j (.Pass ⟨0,0,0,0⟩)
 |_=> .Pass ⟨0,0,0,0⟩
noncomputable def jj(s:eo):Arguments:=match s with
 | .FunctionDef _ a _ _ _ _ _ _ _ _=>a
 |_=>{posonlyargs:=[],args:=[],vararg:=none,kwonlyargs:=[],kw_defaults:=[],kwarg:=none,defaults:=[]}
noncomputable def iQ(s:eo):List eo:=match s with
 | .FunctionDef _ _ b _ _ _ _ _ _ _=>b
 |_=>[]
noncomputable def aT(s:eo):fb:=match s with
 | .FunctionDef _ _ _ _ _ _ sc _ _ _=>sc
 |_=>{kind:= .function,names:=[],isGenerator:=false,isCoroutine:=false}
abbrev bO:ki:=λ_ _ _ _ _ _=>False
abbrev E0:XK:=λ_ _ _=>False
theorem tQ:Passes bO X E0:=λ_ _ _ _ _ _ _ h=>h.elim
structure bT(K:PySem.W.Frag)(x qual:Str)(st:eo)(f:aw)(fd:dE):Prop where
 ex:∃(oc:ae) (od:Option aw) (kV doc pm:ae) (an:Option aw) (cdv ct:ae) (osl:Array (Option ae)),
  fd=PySem.W.fnOf x qual (jj st) (iQ st) (aT st) .none kV doc pm an cdv ct/\K.lookup f=some ⟨oc,od, .func fd,osl⟩/\PySem.W.codeIn K cdv qual=true
 kp:PySem.W.keepIn K (.ref f)=true
section
variable{P:bc}{w:bw}{K:PySem.W.Frag}{mg:Str->Option ae}{base:dc}
theorem bT.ok{st:eo}{f:aw}{k:Nat}(F:bT K x qual st f fd)(S:cD N ps (aT st))(len:∀vs H Q E,sp vs H Q E->vs.length=ps.length)
  (c : ∀ (cdv : Value) (A : Around) (outer : List Env) (s : Shared) (H : Hp) (vs : List V) (Q : VK) (E : XK), c5 k (A.deeper (envOfC qual (aT st) s.heap.objs.size f cdv)) -> sp vs H Q E ->
   ∃t,iS (pS bO P w K mg base N qual (aT st) f cdv A outer s H E).uZ (iQ st) t/\t {nx:=λ_ H'=>Q .aD H',rt:=Q} (start N vs) H):bx P w K mg base bO (k+1) f fd ps sp:=by
 obtain⟨oc,od,kV,doc,pm,an,cdv,ct,osl,rfl,lk,j⟩:=F.ex;refine M7 lk j S len λA outer s H vs Q E hr p=>?_;obtain⟨t,h,q⟩:=c cdv A outer s H vs Q E hr p;exact⟨t,h.uZ,q⟩
theorem bT.binds{st:eo}{f:aw}(F:bT K x qual st f fd)
  (h:∀(kV doc pm:ae) (an:Option aw) (cdv ct:ae) (us:List ae),us.length=ps.length->bindArgs (PySem.W.fnOf x qual (jj st) (iQ st) (aT st) .none kV doc pm an cdv ct) ⟨us,[]⟩=pure (ps.zip us)):Binds K fd ps []:=by
 obtain⟨oc,od,kV,doc,pm,an,cdv,ct,osl,rfl,lk,j⟩:=F.ex;exact .all (h kV doc pm an cdv ct)
theorem nO{st:eo}{f:aw}{od an:Option aw}{kV doc pm cdv ct:ae}(l:K.lookup f=some ⟨oc,od, .func (PySem.W.fnOf x qual (jj st) (iQ st) (aT st) .none kV doc pm an cdv ct),osl⟩)
  (c:PySem.W.codeIn K cdv qual=true) (k:PySem.W.keepIn K (.ref f)=true):bT K x qual st f (PySem.W.fnOf x qual (jj st) (iQ st) (aT st) .none kV doc pm an cdv ct):=⟨⟨oc,od,kV,doc,pm,an,cdv,ct,osl,rfl,l,c⟩,k⟩
end
theorem GY(h:n<=1000):n<sizeLine:=hV h ⋯
section
variable{X:Cx}
theorem pv(i:Nat){x:Str}{pos:Pos}(hN:X.N[i]?=some x:=by rfl)(hv:BW X.env.scope x:=by first|exact aR rfl|exact ee (aR rfl)|exact ee (ee rfl))(hd:(x==("__debug__":Str))=false:=by decide)
  (j:(x==("__classdict__":Str))=false:=by decide):PE X (.Name x pos) (bE i):=KY hN hv hd j
end
theorem Fv{A B:Prop}(h:B):if false=true then A else B:=by
 rw[if_neg cT];exact h
theorem IQ{A B:Prop}(h:A):if true=true then A else B:=by
 rw[if_pos rfl];exact h
theorem oV{c A B:Prop}[Decidable c](h1:c->A)(h2:¬c->B):if c then A else B:=by
 by_cases h:c
 .rw[if_pos h];exact h1 h
 .rw[if_neg h];exact h2 h
def cR(H H':Hp):Prop:=∀b o,H b=some o->H' b=some o
theorem cR.refl(H:Hp):cR H H:=λ_ _ h=>h
theorem cR.trans{H2:Hp}(a:cR H H1)(b:cR H1 H2):cR H H2:=λc o h=>b c o (a c o h)
theorem cR.free(e:cR H H'){l:aw}(h:H' l=pz):H l=pz:=by
  cases q:H l with
  |none=>rfl
  | some o =>
    rw[e l o q] at h;cases h
theorem cR.seq{K:PySem.W.Frag}(e:cR H H')(h:aS K H a xs):aS K H' a xs:=by
 rcases h with (h|⟨o,h⟩)|h
 .exact .inl (.inl (e _ _ h))
 .exact .inl (.inr ⟨o,e _ _ h⟩)
 .exact .inr h
noncomputable def i7(cells:List (Str×aw)):List (Str×dG)->List (Str×aw)->List (Str×aw)
 |[],acc=>acc
 |(n,k)::r,acc=>i7 cells r (if k==bo then(match cells.lookup n with|some a=>(n,a)::acc|none=>acc) else acc)
theorem AR{env:Env}{f:Str×dG->List (Str×aw)->Sem (ForInStep (List (Str×aw)))}
    (hf:∀x acc,f x acc=if(x.2==bo)=true then(do let a<-cellOf env x.1;pure (dq ((x.1,a)::acc))) else pure (dq acc)):
    ∀(l:List (Str×dG)) (acc:List (Str×aw)),(∀x∈l,x.2= .free->∃a,env.cells.lookup x.1=some a)->(forIn l acc f:Sem (List (Str×aw)))=pure (i7 env.cells l acc)
  |[],acc,_=>by rw[List.forIn_nil];rfl
  | (n, k) :: r, acc, h => by
    have hr:=λx hx=>h x (cB _ hx);rw[List.forIn_cons,hf];by_cases hk:(k==bo)=true
    · have hk':k=bo:=by simpa using hk
      obtain⟨a,ha⟩:=h (n,k) cQ hk';have hc:cellOf env n=pure a:=by unfold cellOf;rw[ha]
      rw[if_pos hk,hc];show(forIn r ((n,a)::acc) f:Sem (List (Str×aw)))=pure (i7 env.cells r _);rw[AR hf r _ hr,if_pos hk,ha]
    · rw[if_neg hk]
      show(forIn r acc f:Sem (List (Str×aw)))=pure (i7 env.cells r _);rw[AR hf r _ hr,if_neg hk]
theorem SK(h:∀x∈scope.names,x.2= .free->∃a,env.cells.lookup x.1=some a):closureFor scope env=pure (i7 env.cells scope.names []):=by
 simp only[closureFor];rw[AR (env:=env) (λ⟨n,k⟩ acc=>by dsimp only) scope.names [] h]
 rfl
theorem AN{cells:List (Str×aw)}:∀{l:List (Str×dG)} {acc:List (Str×aw)} {x:Str} {c:aw},(∀y d,acc.lookup y=some d->cells.lookup y=some d)->(i7 cells l acc).lookup x=some c->cells.lookup x=some c
  |[],_,_,_,ha,h=>ha _ _ h
  | (n, k) :: r, acc, x, c, ha, h => by
    refine AN (l:=r) ?_ h;intro y d hd;by_cases hk:(k==bo)=true
    · rw[if_pos hk] at hd
      cases q:cells.lookup n with
      |none=>rw[q] at hd;exact ha _ _ hd
      | some a =>
        rw[q] at hd;by_cases hy:(y==n)=true
        · have e:y=n:=by simpa using hy
          subst e;simp[eu] at hd;rw[q,hd]
        · have e:(y==n)=false:=by simpa using hy
          simp only[eu,e] at hd;exact ha _ _ hd
    · rw[if_neg hk] at hd;exact ha _ _ hd
theorem Iv{cells:List (Str×aw)}:∀{l:List (Str×dG)} {acc:List (Str×aw)} {x:Str},(acc.lookup x).isSome=true->((i7 cells l acc).lookup x).isSome=true
  |[],_,_,h=>h
  | (n, k) :: r, acc, x, h => by
    refine Iv (l:=r) ?_;by_cases hk:(k==bo)=true
    · rw[if_pos hk]
      cases q:cells.lookup n with
      |none=>exact h
      | some a =>
        by_cases hy:(x==n)=true;· simp[eu,hy]
        · have e:(x==n)=false:=by simpa using hy
          simp only[eu,e];exact h
    · rw[if_neg hk];exact h
theorem JO{cells:List (Str×aw)}:∀{l:List (Str×dG)} {acc:List (Str×aw)} {x:Str} {a:aw},(x,bo)∈l->cells.lookup x=some a->((i7 cells l acc).lookup x).isSome=true
  |[],_,_,_,h,_=>nomatch h
  | (n, k) :: r, acc, x, a, h, hc => by
    rcases aO.mp h with e|h
    · obtain⟨rfl,rfl⟩:=Prod.mk.inj e
      refine Iv (l:=r) ?_;rw[if_pos ⋯,hc];simp[eu]
    · exact JO (l:=r) h hc
theorem FT{l:List (Str×dG)}(h:(x,bo)∈l)(hc:cells.lookup x=some a):(i7 cells l []).lookup x=some a:=by
 obtain⟨c,e⟩:=xM.mp (JO (acc:=[]) h hc);have:=AN (λy d (q:([]:List (Str×aw)).lookup y=some d)=>by simp at q) e;rw[hc] at this;cases this
 exact e
theorem Ad{env:Env}:∀{l:List (Str×dG)} {x:Str} {k:dG},(∀y∈l,y.2≠ .cell)->
    (l.map λ(n,k)=>if(k==bo && env.scope.kind== .function && env.kindOf n==some .cell) then(n,hX) else(n,k)).lookup x=some k->k= .cell\/k= .free->l.lookup x=some .free
  |[],_,_,_,h,_=>by simp at h
  | (n, q) :: r, x, k, hc, h, hk => by
    have hr:=λy hy=>hc y (cB _ hy);have ih:=Ad (env:=env) (l:=r) (x:=x) (k:=k) hr;rw[bu] at h;dsimp only at h;by_cases hx:(x==n)=true
    · simp only[eu,hx]
      by_cases hq:(q==bo && env.scope.kind== .function && env.kindOf n==some .cell)=true
      · have:q= .free:=by
          simp only[ez] at hq;simpa using hq.1.1
        rw[this]
      · rw[if_neg hq] at h
        simp only[eu,hx] at h;have a:q=k:=fF h;rcases hk with e|e
        · exact absurd (a.trans e) (hc (n,q) cQ)
        · rw[a,e]
    · have L:(x==n)=false:=by simpa using hx
      simp only[eu,L];refine ih ?_ hk;by_cases hq:(q==bo && env.scope.kind== .function && env.kindOf n==some .cell)=true
      · rw[if_pos hq] at h
        simp only[eu,L] at h;exact h
      · rw[if_neg hq] at h
        simp only[eu,L] at h;exact h
theorem Hz{env:Env}:∀{l:List (Str×dG)} {x:Str},l.lookup x=some .free->
    (l.map λ(n,k)=>if(k==bo && env.scope.kind== .function && env.kindOf n==some .cell) then(n,hX) else(n,k)).lookup x=some .cell\/
    (l.map λ(n,k)=>if(k==bo && env.scope.kind== .function && env.kindOf n==some .cell) then(n,hX) else(n,k)).lookup x=some .free
  |[],_,h=>by simp at h
  | (n, q) :: r, x, h => by
    have ih:=Hz (env:=env) (l:=r) (x:=x);rw[bu];dsimp only;by_cases hx:(x==n)=true
    · simp only[eu,hx] at h
      by_cases hq:(q==bo && env.scope.kind== .function && env.kindOf n==some .cell)=true
      · rw[if_pos hq]
        left
        simp only[eu,hx]
      · rw[if_neg hq]
        right
        simp only[eu,hx];exact h
    · have L:(x==n)=false:=by simpa using hx
      simp only[eu,L] at h;have:=ih h;by_cases hq:(q==bo && env.scope.kind== .function && env.kindOf n==some .cell)=true
      · rw[if_pos hq]
        simp only[eu,L];exact this
      · rw[if_neg hq]
        simp only[eu,L];exact this
noncomputable def jb(sx:fb)(NX:List Str)(scope:fb)(N:List Str)(mp:List (Option Nat)):Bool:=
 (scope.kind== .function) && scope.names.all (λy=>y.2 != .cell) && scope.names.all (λy=>y.2 != .local||scope.names.lookup y.1==some .local) &&
 scope.names.all (λy=>y.2 != .free||sx.names.lookup y.1==some .cell||sx.names.lookup y.1==some .free) &&(mp.length==N.length) &&
 ((N.zip mp).all λp=>match p.2 with|none=>true|some j=>NX[j]?==some p.1 && scope.names.lookup p.1==some .free)
structure gD(sx:fb)(NX:List Str)(scope:fb)(N:List Str)(mp:List (Option Nat)):Prop where
 kind:scope.kind= .function
 cell:∀y∈scope.names,y.2≠ .cell
 names:∀y∈scope.names,y.2= .local->scope.names.lookup y.1=some .local
 free:∀y∈scope.names,y.2= .free->sx.names.lookup y.1=some .cell\/sx.names.lookup y.1=some .free
 len:mp.length=N.length
 look:∀(i j:Nat) (x:Str),mp[i]?=some (some j)->N[i]?=some x->NX[j]?=some x/\scope.names.lookup x=some .free
theorem gD.of{sx:fb}(h:jb sx NX scope N mp=true):gD sx NX scope N mp:=by
 unfold jb at h;simp only[ez,qu] at h;obtain⟨⟨⟨⟨⟨h1,h2⟩,h3⟩,h4⟩,h5⟩,d⟩:=h;refine⟨by simpa using h1,λy hy=>by simpa using h2 y hy,λy hy e=>?_,λy hy e=>?_,by simpa using h5,λi j x e1 e2=>?_⟩
 .have:=h3 y hy;simpa[e] using this
 .have:=h4 y hy;simpa[e] using this
 .have hm:(x,some j)∈N.zip mp:=by
   have:(N.zip mp)[i]?=some (x,some j):=by
    rw[List.getElem?_zip_eq_some];exact⟨e2,e1⟩
   exact dz this
  have:=d _ hm;simpa using this
noncomputable def gm(mp:List (Option Nat))(σ:qr):qr:=mp.map λo=>match o with|none=>none|some j=>match σ[j]? with|some v=>v|none=>none
noncomputable def iZ(X:Cx)(scope:fb)(C:aw)(N:List Str)(s₀:ax)(H₀:Hp)(fp:List aw):Cx:=
 {X with N:=N,s₀:=s₀,H₀:=H₀,env:=qm scope (i7 X.env.cells scope.names []) C X.env,outer:=X.stack,ex:=fp,fn:=λ_=>false,pn:=[],xe:=λ_ _=>False}
def rW(X:Cx)(B:List dk)(t:TT):Prop:=
 ∀(pins:List (aw×Obj)) (s:ax) (σ:qr) (H:Hp) (Q:Bool->Hp->Prop),Inv X pins σ H s->t σ H Q->
  wpAny (bg X.prog X.w) X.A (forIn B true λc r=>if r=true then do let ok<-isTrue c X.env (eval c X.env);pure (dq ok) else pure (dq r)) (TP X pins σ Q) X.xe s
def p7:TT:=λ_ H Q=>Q true H
theorem mh:rW X [] p7:=λpins s σ H Q I h=>wpAny_tests_nil ⟨H,I,h⟩
theorem zF{c:dk}{t:TT}(h:PT X c t):rW X [c] t:=λpins s σ H Q I q=>wpAny_tests_one (h pins s σ H Q I q)
def p8(J:It)(g:TG)(tc:TT)(te:TE)(acc:aw)(d:Hp->Prop)(σ:qr)(H:Hp):Prop:=∃W:Nat->Nat->qr->Hp->Prop,(∃m,W 0 m σ H)/\∀i m σ H,W i m σ H->
 (J.stop i H /\ d H) \/ (J.go i H /\ ∃ a : qr -> Hp -> Prop, (∀ C H', a C H' -> ∃ M, M < m /\ W (i + 1) M C H') /\ ∀ x H', J.m5 i H x H' -> g x σ H' λc H2 => tc c H2 λb H3 =>
  if b=true then te c H3 λv H4=>∃ys,H4 acc=some (.lst ys)/\ys.length<sizeLine/\a c (upd H4 acc (.lst (ys++[v]))) else a c H3)
def mP(F:TI)(g:TG)(tc:TT)(te:TE)(mp:List (Option Nat)):TE:=λσ H Q=>F σ H λJ H1=>∀acc,H1 acc=none->p8 J g tc te acc (λH'=>Q (.ref acc) H') (gm mp σ) (upd H1 acc (.lst []))
section
variable{prog:bc}{w:bw}{A:cj}{R:qk->ax->Prop}{s:ax}
theorem RQ{t a l:dk}{B:List dk}{it acc:ae}(I:Nat->ax->Prop)
    (E:∀n s,I n s->wpAny (bg prog w) A (qc it) (λr s₁=>match r with
      |none=>R (.ok .next) s₁
      |some v=>wpAny (bg prog w) A (eD a it v) (λ_ s₀=>wpAny (bg prog w) A (mJ a env v) (λ_ d=>
          wpAny (bg prog w) A (forIn B true λc r=>if r=true then do let ok<-isTrue c env (eval c env);pure (dq ok) else pure (dq r)) (λok b=>
            if ok=true then wpAny (bg prog w) A (eval t env) (λx e=>
              wpAny (bg prog w) A (call (.builtin "list.append") [acc,x]) (λ_ f=>∃m,m<n/\I m f) (λ_ _=>False) e) (λ_ _=>False) b
            else∃m,m<n/\I m b) (λ_ _=>False) d) (λ_ _=>False) s₀) (λ_ _=>False) s₁) (λ_ _=>False) s)
    (n:Nat) (h:I n s):
    codeAny (bg prog w) A (.compLoop (.ListComp t [⟨a,l,B,0⟩] scope pos) 0 it acc env) R s:=by
  refine codeAny_loop rfl I (λn s hI=>?_) n h;show wpAny _ A ((compTurn (.ListComp t [⟨a,l,B,0⟩] scope pos) 0 it acc env).onRaise (λx=>do noteFrame x env;theTreesLotGoes x)) _ _ s;refine wpAny_noted ?_;rw[compTurn_list];refine ar (fe (ar (cX (E n s hI) (λr s₁ h₁=>?_) λ_ _ h'=>h'.elim)));cases r with
  |none=>exact a0 h₁
  | some v =>
    refine ar (cX h₁ (λ_ s₀ h₀=>?_) λ_ _ h'=>h'.elim);refine ar (cX h₀ (λ_ d j=>ar (cX j (λok b g=>?_) λ_ _ h'=>h'.elim)) λ_ _ h'=>h'.elim);cases ok with
    |false=>exact a0 ⟨rfl,g⟩
    | true =>
      exact ar (ar (cX g (λx e k=>ar (cX k (λ_ f i=>a0 (a0 ⟨rfl,i⟩)) λ_ _ h'=>h'.elim)) λ_ _ h'=>h'.elim))
end
section
variable{X:Cx}
theorem G5{t l:dk}{B:List dk}{pos':Pos}{F:TI} {Q:VK}
    (ok:gD X.env.scope X.N scope N mp) (hc:X.calm=true) (hi:PI X tg l F)
    (hb:∀C s₀ H₀ fp,PG (iZ X scope C N s₀ H₀ fp) tg g/\rW (iZ X scope C N s₀ H₀ fp) B tc/\PE (iZ X scope C N s₀ H₀ fp) t te)
    (O:∀x,ek l X.env x=pure x) (I:Inv X pins σ H s) (h:mP F g tc te mp σ H Q)
    (fin:∀acc C H' s' m,Inv X pins σ H' s'->j6 X pins H' C->s'.heap.Ns C m->Q (.ref acc) H'->qs (bg X.prog X.w) X.A X.xe use QQ (.ref acc) C (.ok .next) s'):
    wpAny (bg X.prog X.w) X.A (comprehension (.ListComp t [⟨tg,l,B,0⟩] scope pos) scope X.env pos' (newList []) false (eval l X.env) use) QQ X.xe s:=by
  have f:∀x∈scope.names,x.2= .free->∃a,X.env.cells.lookup x.1=some a:=λx hx e=>I.ok.has x.1 (ok.free x hx e);refine wpAny_comprehension_free (use:=use) rfl O (SK f) ok.kind ok.names (aI (hi pins s σ H _ I h) λv s1 h1=>aI h1 λitv s2 h2=>?_);obtain⟨it,fp,tn,J,H2,e,I2,T,st2,Z,hW⟩:=h2;subst e;refine eR (wpAny_newFunctionEnv ok.cell (by intro y hy;simp at hy) (λh₁ Cq Cz=>?_) ok.kind);dsimp only at Cq Cz⊢;have I3:=I2.Jc (its:=[]) (ys:=[]) (t':=s2.toks) .nil (iE _);have hW:=hW s2.heap.objs.size I2.fresh;obtain⟨W,⟨m0,w0⟩,E⟩:=hW;generalize zo:s2.heap.push {cls:= .type "list",dict:=none,data:= .seq ([]:List ae).toArray}=G at Cq Cz⊢;have I3:Inv X pins σ (upd H2 s2.heap.objs.size (.lst [])) {s2 with heap:=G}:=by rw[<-zo];exact I3
  generalize M1:upd H2 s2.heap.objs.size (.lst [])=H3 at I3 w0;have hC:G.objs.size=s2.heap.objs.size+1:=by rw[<-zo,sf]
  have old:∀b o,G.get? b=some o->h₁.get? b=some o:=λb o e=>Cz.extBut b o (cJ (bz e)) (dB _ e);have jW:∀b∈fp,b<s2.heap.objs.size:=λb hb=>by
    obtain⟨o,e,_⟩:=T.obj 0 _ st2 b hb;exact bz e
  have NQ:∀b∈fp,H3 b=none:=λb hb=>by
    rw[<-M1,bA (cJ (jW b hb))];exact(Z b hb).1
  have p6:∀{x:Str} {c:aw},(i7 X.env.cells scope.names []).lookup x=some c->X.env.cells.lookup x=some c:=λ{x c} e=>AN (λy d q=>by simp at q) e;have t6:(iZ X scope G.objs.size N {s2 with heap:=G} H3 fp).Ok:=by
    refine⟨I2.ok.mod,ok.kind,I2.ok.glob,I2.ok.blt,bh _,λx y c e1 e2=>I2.ok.inj x y c (p6 e1) (p6 e2),λx hx=>?_,(λx c e=>absurd (show false=true from e) ⋯),I2.ok.hd,I2.ok.frames, .inl rfl,λb hb=>?_,I3.bs,dZ I3.ok.l6 I3.sz,λb o e hb=>?_,λb hb hz=>?_,I3.stack,I3.EW⟩
    · have L:scope.names.lookup x=some .free:=by
        rcases hx with hx|hx
        · exact Ad ok.cell hx (.inl rfl)
        · exact Ad ok.cell hx (.inr rfl)
      have hm:=nh L;obtain⟨a,ha⟩:=f _ hm rfl;exact⟨a,FT hm ha⟩
    · refine⟨λz=>?_,λx c e=>(Z b hb).2.2.2.2.1 x c (p6 e)⟩
      have z':b=G.objs.size:=z;have q:=jW b hb;rw[z',hC] at q;exact absurd q (mW.mpr (kT _))
    · rcases(Z b hb).2.2.2.1 with z|z
      · exact I2.ok.qK b o e z
      · exact absurd (fJ (bz (I2.ok.bs b o e).1) z) (jJ _)
    · rcases aO.mp (I2.zK b hz) with z|z
      · exact(Z b hb).2.1 z
      · exact(Z b hb).2.2.1 z
  have IY:Inv (iZ X scope G.objs.size N {s2 with heap:=G} H3 fp) [] (gm mp σ) H3 {s2 with heap:=h₁,toks:=s2.toks+([]:List (Str×ae)).length}:=by
    refine⟨t6,rfl,I2.bare,Un.kept old,⟨_,Cq,λi x v e1 e2 e3=>?_⟩,λx c e=>?_,I3.hok.fresh (bh _),λx c e=>I3.jX x c (p6 e),λp hp=>absurd (show p∈([]:List (aw×Obj)) from hp) (by simp),I3.hok.kept old,?_⟩
    · have hj:∃j,mp[i]?=some (some j)/\σ[j]?=some (some v):=by
        unfold gm at e2;rw[bC] at e2;cases q:mp[i]? with
        |none=>rw[q] at e2;cases e2
        | some o =>
          rw[q] at e2;cases o with
          |none=>cases e2
          | some j =>
            refine⟨j,rfl,?_⟩;have e2:(match σ[j]? with|some v=>v|none=>none)=some v:=fF e2;cases r:σ[j]? with
            |none=>rw[r] at e2;cases e2
            | some u =>
              rw[r] at e2;have e2:u=some v:=e2;rw[e2]
      obtain⟨j,hj1,hj2⟩:=hj;obtain⟨l1,l2⟩:=ok.look i j x hj1 e1;have hm:=nh l2;have kx:=ok.free _ hm rfl;obtain⟨mm,_,hl⟩:=I3.loc;obtain⟨u,D,lk⟩:=hl j x v l1 hj2 (kx.elim (λz=> .inr (.inl z)) λz=> .inr (.inr z));refine⟨u,D, .inr ⟨Hz l2,?_⟩⟩;rcases lk with ⟨k,_⟩|⟨_,c,e,z⟩
      · exfalso
        have k':X.env.scope.names.lookup x=some .local:=k;rcases kx with kx|kx
        · rw[k'] at kx;cases kx
        · rw[k'] at kx;cases kx
      · refine⟨c,FT hm e,?_⟩
        obtain⟨o,ho,hd⟩:=z;exact⟨o,old c o ho,hd⟩
    · obtain⟨v,o,ho,hd⟩:=I3.cell x c (p6 e)
      exact⟨v,o,old c o ho,hd⟩
    · show(gm mp σ).length=N.length
      unfold gm;rw[ao,ok.len]
  have mz:∀{H':Hp},(∀b∈fp,H' b=none)->∀b∈fp,j6 (iZ X scope G.objs.size N {s2 with heap:=G} H3 fp) [] H' b:=λ{H'} hn b hb=>
    ⟨hn b hb,(t6.vj b hb).1,t6.qL b hb, .inl hb,(t6.vj b hb).2,λp hp=>absurd (show p∈([]:List (aw×Obj)) from hp) (by simp)⟩
  have FA:tn 0 h₁:=T.keep 0 _ _ st2 λb hb o e=>old b o (by rw[<-zo];exact dB _ e)
  have loop:codeAny (bg X.prog X.w) X.A (.compLoop (.ListComp t [⟨tg,l,B,0⟩] scope pos) 0 (.ref it) (.ref s2.heap.objs.size) (qm scope (i7 X.env.cells scope.names []) G.objs.size X.env))
      (qs (bg X.prog X.w) X.A X.xe use QQ (.ref s2.heap.objs.size) G.objs.size) {s2 with heap:=h₁,toks:=s2.toks+([]:List (Str×ae)).length}:=by
    obtain⟨hg,ht,he⟩:=hb G.objs.size {s2 with heap:=G} H3 fp;generalize R:iZ X scope G.objs.size N {s2 with heap:=G} H3 fp=Y at hg ht he IY mz;have yp:Y.prog=X.prog:=by rw[<-R];rfl
    have yw:Y.w=X.w:=by rw[<-R];rfl
    have yK:Y.K=X.K:=by rw[<-R];rfl
    have yA:Y.A=X.A:=by rw[<-R];rfl
    have yc:Y.calm=true:=by rw[<-R];exact hc
    have yx:Y.xe=λ_ _=>False:=by rw[<-R];rfl
    have FL:Y.env=qm scope (i7 X.env.cells scope.names []) G.objs.size X.env:=by rw[<-R];rfl
    rw[<-FL];refine RQ (λn s'=>∃i σ' H',Inv Y [] σ' H' s'/\tn i s'.heap/\(∀b∈fp,H' b=none)/\W i n σ' H') ?_ m0 ⟨0,_,H3,IY,FA,NQ,w0⟩;rintro n s3 ⟨i,σ3,H4,I4,st3,fr3,w3⟩;rcases E i n σ3 H4 w3 with ⟨stop,qn⟩|⟨go,Nx,hN,step⟩
    · have q0:=T.done Y yp yw yK yc i [] s3 σ3 H4 (λ_ _=>False) I4 (mz fr3) st3 stop
      rw[yA] at q0;refine aI q0 λr s4 ⟨hr,S⟩=>?_;subst hr;show qs (bg X.prog X.w) X.A X.xe use QQ (.ref s2.heap.objs.size) G.objs.size (.ok .next) s4;obtain⟨m,hm,_⟩:=id S.loc;have yl:Y.env.locals=G.objs.size:=by rw[FL];rfl
      rw[yl] at hm;have fC:H4 G.objs.size=none:=by have:=S.free;rw[yl] at this;exact this
      have ub:=S.base;have ub':Un (frs X.stack) fp H3 H4 G s4.heap:=by rw[<-R] at ub;exact ub
      have hos:s4.os=s2.os:=by have:=S.os;rw[<-R] at this;exact this
      have Ti:cY X.prog X.w H4 s4.heap:=by have:=S.hok;rw[yp,yw] at this;exact this
      have IX:Inv X pins σ H4 s4:=I3.LN (ch:=fp) hos ub' Ti S.bare λb hb=>⟨(Z b hb).2.2.2.1,(Z b hb).2.1,(Z b hb).2.2.2.2.1,(Z b hb).2.2.2.2.2⟩;exact fin _ _ H4 s4 m IX (I3.BG (bh _) fC) hm qn
    · have q0:=T.item Y yp yw yK yc i [] s3 σ3 H4 (λ_ _=>False) I4 (mz fr3) st3 go
      rw[yA] at q0;refine aI q0 λr s4 ⟨u,hr,h4⟩=>?_;subst hr;refine aI h4 λ_ s5 ⟨x,H5,S,r5,y5,nP,zf⟩=>?_;have CH:=S.pinned (mz zf) (T.obj _ _ nP);rw[<-yx,<-yp,<-yw,<-yA];refine aI (hg _ s5 σ3 H5 x u _ CH r5 (step x H5 y5)) λ_ s6 ⟨qG,H6,I6,q6⟩=>?_;refine aI (ht _ s6 qG H6 _ I6 q6) λb s7 ⟨V,P,U⟩=>?_;have again:∀{rC:qr} {H8:Hp} {s8:ax},Inv Y ([]++rE fp s5.heap) rC H8 s8->Nx rC H8->∃m,m<n/\∃i σ' H',Inv Y [] σ' H' s8/\tn i s8.heap/\(∀b∈fp,H' b=none)/\W i m σ' H':=λ{rC H8 s8} I8 n8=>by
        obtain⟨M,hm,w8⟩:=hN rC H8 n8;refine⟨M,hm,i+1,rC,H8,I8.wD,T.keep _ _ _ nP λb hb o e=>(I8.pin (b,o) (iG _ (iG _ (vU hb e)))).1,λb hb=>?_,w8⟩;obtain⟨o,e,d⟩:=T.obj _ _ nP b hb;exact(I8.pin (b,o) (iG _ (iG _ (vU hb e)))).2.1
      cases b with
      | false =>
        rw[if_neg cT];rw[if_neg cT] at U;exact again P U
      | true =>
        rw[if_pos rfl];rw[if_pos rfl] at U;refine aI (he _ s7 qG V _ P U) λv s8 ⟨y,H8,I8,r8,ys,e8,z8,n8⟩=>?_;refine aI (oZ _ s8 qG H8 (.ref s2.heap.objs.size) [y] (.ref s2.heap.objs.size) [v] (λ_ H9=>H9=upd H8 s2.heap.objs.size (.lst (ys++[y]))) I8 rfl (.cons r8 .nil) ⟨_,ys,y,rfl,rfl,e8,z8,rfl⟩) λv9 s9 ⟨y9,H9,I9,r9,e9⟩=>?_;subst e9;exact again I9 n8
  refine codeAny_compStart_list loop (T.self _ _ _ _ _ FA loop)
theorem j6.turned{pins:List (aw×Obj)}{s:ax}{σ:qr}{H:Hp}{C:aw}{h':dc}(I:Inv X pins σ H s)(f:j6 X pins H C)(O:eL C s.heap h'):Inv X pins σ H {s with heap:=h'}:=
 I.turned (t':=s.toks) (λb o hb e=>(O.2 b hb).trans e) f.1 f.2.1 f.2.2.2.1 f.2.2.2.2.1 f.2.2.2.2.2
theorem lJ{t l:dk}{B:List dk}{F:TI}
  (ok:gD X.env.scope X.N scope N mp) (hi:PI X tg l F)
  (hb:∀C s₀ H₀ fp,PG (iZ X scope C N s₀ H₀ fp) tg g/\rW (iZ X scope C N s₀ H₀ fp) B tc/\PE (iZ X scope C N s₀ H₀ fp) t te) (hc:X.calm=true:=by rfl)
  (O:∀x,ek l X.env x=pure x:=by intro _;rfl):PE X (.ListComp t [⟨tg,l,B,0⟩] scope pos) (mP F g tc te mp):=by
 intro pins s σ H Q I h;rw[eval_ListComp];refine G5 (use:=none) ok hc hi hb O I h λacc C H' s' m b f hn q=>?_;exact⟨m,hn,λh' j=>⟨.ref acc,H',f.turned b j,rfl,q⟩⟩
def rS(i:Nat)(t:TE):TS:=λD σ H=>t σ H λv H'=>D.nx (σ.set i (some v)) H'
theorem zU{t l:dk}{B:List dk}{d c:Pos}{F:TI}{y:Str}
  (hN:X.N.Nodup) (hy:X.N[i]?=some y) (hk:X.env.kindOf y=some .local)
  (ok:gD X.env.scope X.N scope N mp) (hi:PI X tg l F)
  (hb:∀C s₀ H₀ fp,PG (iZ X scope C N s₀ H₀ fp) tg g/\rW (iZ X scope C N s₀ H₀ fp) B tc/\PE (iZ X scope C N s₀ H₀ fp) t te) (hc:X.calm=true:=by rfl)
  (k:k6 (.ListComp t [⟨tg,l,B,0⟩] scope pos) (some (.Name y c)) d.line X.env=pure true:=by rfl)
  (O:∀x,ek l X.env x=pure x:=by intro _;rfl):PS X (.Assign [.Name y c] (.ListComp t [⟨tg,l,B,0⟩] scope pos) d) (rS i (mP F g tc te mp)):=by
 intro pins s σ H D I h;rw[exec_Assign_Name_used _ _ _ _ k];refine ar (fe (ar ?_));show wpAny _ X.A (do let _<-comprehension (.ListComp t [⟨tg,l,B,0⟩] scope pos) scope X.env _ (newList []) false (eval l X.env) (some (mJ (.Name y c) X.env))) _ _ s;refine ar (cX (G5 (use:=some (mJ (.Name y c) X.env)) (QQ:=λ_ s'=>SP X pins D .next s') ok hc hi hb O I h λacc C H' s' m b f hn q=>?_) (λ_ s' hq=>a0 (a0 hq)) λ_ _ e=>e);refine ij (Ft (v:= .ref acc) b hN hy (.inl hk) rfl (λs2 I2 ⟨a,G,ha⟩=>?_) (.inr hk));have R:C≠a:=by
  rcases ha with z|z
  .rw[z];exact f.2.1
  .exact λe=>f.2.2.2.2.1 y a z e.symm
 exact⟨m,hn.sameBut G R,λh' j=>⟨_,H',f.turned I2 j,q⟩⟩
end
def Sm(i:Int):Prop:= -(2^300)<i/\i<2^300
theorem EY{i:Int}(h:Sm i):hG i<=2^20:=by
 obtain⟨h1,h2⟩:=h;unfold hG;split;·exact iE _
 .rename_i h0
  have hn:i.natAbs≠0:=by
   intro e;apply h0;simp;omega
  have h3:i.natAbs<2^300:=∅
  have h4:i.natAbs.log2<300:=(pE hn).mpr h3;have:(2:Nat)^20=1048576:=⋯
  omega
theorem RJ{x y:Int}(h:Sm y):Builtin.divisionGoesByPylong x y=false:=by
 refine PyProof.noPylong_of_log2 ?_;obtain⟨h1,h2⟩:=h;by_cases h0:y.natAbs=0;·rw[h0];decide+kernel
 .have h3:y.natAbs<2^300:=∅
  have h4:y.natAbs.log2<300:=(pE h0).mpr h3;omega
section
variable{X:Cx}
theorem oJ:dj X (fg .FloorDiv) (rI (λ_ j=>0<j/\Sm j) λi j=> .int (i/j)):=tS λi j _ _ _ _ _ hc q=>
 floordiv_int ∅ (by rw[Int.fdiv_eq_ediv_of_nonneg _ ∅];exact q) (.inl (RJ hc.2))
def jT(K:PySem.W.Frag):List V->Hp->VK->Prop:=λxs H Q=>∃x T t b,xs=[x, .ty T]/\iw K H x t/\PySem.W.kitOne K t (.type T)=some b/\Q (.bl b) H
theorem lB:gQ X (.builtin "isinstance") (jT X.K):=by
 intro pins s σ H xs us Q I rv h;obtain⟨x,T,t,b,rfl,ty,e,q⟩:=h;obtain⟨u,v,rfl,D,rv⟩:=rv.two;cases (show v=dA T from rv);exact QJ I D ty e λL=>⟨.bl b,H,I.tok L,rfl,q⟩
def rB:PyData->Key->Prop
 | .int i,k=>k= .inl i
 | .str x,k=>k= .inr x
 |_,_=>False
mutual
def ah(nb:aw->Prop)(H:Hp):PyData->V->Prop
 | .none,v=>v= .aD
 | .bool b,v=>v= .bl b
 | .int i,v=>v= .int i
 | .str x,v=>v= .str x
 | .list ds,v=>∃a xs,v= .ref a/\¬nb a/\H a=some (.lst xs)/\af nb H ds xs
 | .tuple ds,v=>∃a xs,v= .ref a/\¬nb a/\H a=some (.tup xs)/\af nb H ds xs
 | .dict kvs,v=>∃a ps,v= .ref a/\¬nb a/\Rd H a (.dK ps)/\aq nb H kvs ps
termination_by structural d=>d
def af(nb:aw->Prop)(H:Hp):List PyData->List V->Prop
 |[],xs=>xs=[]
 |d::ds,xs=>∃y ys,xs=y::ys/\ah nb H d y/\af nb H ds ys
termination_by structural d=>d
def aq(nb:aw->Prop)(H:Hp):List (PyData×PyData)->List (Key×V)->Prop
 |[],xs=>xs=[]
 |d::ds,xs=>∃p ys,xs=p::ys/\bU nb H d p/\aq nb H ds ys
termination_by structural d=>d
def bU(nb:aw->Prop)(H:Hp):PyData×PyData->Key×V->Prop
 |(k,d),p=>rB k p.1/\ah nb H d p.2
termination_by structural d=>d
end
def aP(nb:aw->Prop)(H H':Hp):Prop:=∀a o,¬nb a->H a=some o->H' a=some o
def Nb(b:aw):aw->Prop:=λa=>a=b
section
variable{nb ay:aw->Prop}{H H1 H2 H':Hp}{a b c p:aw}{o:HO}{xs:List V}
theorem aP.refl(nb:aw->Prop)(H:Hp):aP nb H H:=λ_ _ _ h=>h
theorem aP.trans(x:aP nb H H1)(y:aP nb H1 H2):aP nb H H2:=λa o n h=>y a o n (x a o n h)
theorem aP.of(x:cR H H'):aP nb H H':=λa o _ h=>x a o h
theorem aP.set(h:nb p):aP nb H (upd H p o):=λa u n q=>by rw[bA (λe=>n (by rw[e];exact h))];exact q
theorem aP.rd{u:HO}(x:aP nb H H')(n:¬nb a)(h:Rd H a u):Rd H' a u:=by
 rcases h with h|⟨o,h⟩
 .exact .inl (x _ _ n h)
 .exact .inr ⟨o,x _ _ n h⟩
end
mutual
theorem ah.keep{nb:aw->Prop}{H H':Hp}(x:aP nb H H'):∀{d:PyData} {v:V},ah nb H d v->ah nb H' d v
 | .none,_,h=>by unfold ah at h⊢;exact h
 | .bool _,_,h=>by unfold ah at h⊢;exact h
 | .int _,_,h=>by unfold ah at h⊢;exact h
 | .str _,_,h=>by unfold ah at h⊢;exact h
 | .list ds,_,h=>by unfold ah at h⊢;obtain⟨a,xs,e,n,s,r⟩:=h;exact⟨a,xs,e,n,x _ _ n s,af.keep x r⟩
 | .tuple ds,_,h=>by unfold ah at h⊢;obtain⟨a,xs,e,n,s,r⟩:=h;exact⟨a,xs,e,n,x _ _ n s,af.keep x r⟩
 | .dict kvs,_,h=>by unfold ah at h⊢;obtain⟨a,xs,e,n,s,r⟩:=h;exact⟨a,xs,e,n,x.rd n s,aq.keep x r⟩
theorem af.keep{nb:aw->Prop}{H H':Hp}(x:aP nb H H'):∀{ds:List PyData} {vs:List V},af nb H ds vs->af nb H' ds vs
 |[],_,h=>by unfold af at h⊢;exact h
 |d::ds,_,h=>by unfold af at h⊢;obtain⟨y,ys,e,h1,h2⟩:=h;exact⟨y,ys,e,ah.keep x h1,af.keep x h2⟩
theorem aq.keep{nb:aw->Prop}{H H':Hp}(x:aP nb H H'):∀{ds:List (PyData×PyData)} {vs:List (Key×V)},aq nb H ds vs->aq nb H' ds vs
 |[],_,h=>by unfold aq at h⊢;exact h
 |d::ds,_,h=>by unfold aq at h⊢;obtain⟨y,ys,e,h1,h2⟩:=h;exact⟨y,ys,e,bU.keep x h1,aq.keep x h2⟩
theorem bU.keep{nb:aw->Prop}{H H':Hp}(x:aP nb H H'):∀{d:PyData×PyData} {v:Key×V},bU nb H d v->bU nb H' d v
 |(k,d),_,h=>by unfold bU at h⊢;exact⟨h.1,ah.keep x h.2⟩
end
mutual
theorem ah.av{nb ay:aw->Prop}{H:Hp}(x:∀a,ay a->nb a):∀{d:PyData} {v:V},ah nb H d v->ah ay H d v
 | .none,_,h=>by unfold ah at h⊢;exact h
 | .bool _,_,h=>by unfold ah at h⊢;exact h
 | .int _,_,h=>by unfold ah at h⊢;exact h
 | .str _,_,h=>by unfold ah at h⊢;exact h
 | .list ds,_,h=>by unfold ah at h⊢;obtain⟨a,xs,e,n,s,r⟩:=h;exact⟨a,xs,e,λz=>n (x a z),s,af.av x r⟩
 | .tuple ds,_,h=>by unfold ah at h⊢;obtain⟨a,xs,e,n,s,r⟩:=h;exact⟨a,xs,e,λz=>n (x a z),s,af.av x r⟩
 | .dict kvs,_,h=>by unfold ah at h⊢;obtain⟨a,xs,e,n,s,r⟩:=h;exact⟨a,xs,e,λz=>n (x a z),s,aq.av x r⟩
theorem af.av{nb ay:aw->Prop}{H:Hp}(x:∀a,ay a->nb a):∀{ds:List PyData} {vs:List V},af nb H ds vs->af ay H ds vs
 |[],_,h=>by unfold af at h⊢;exact h
 |d::ds,_,h=>by unfold af at h⊢;obtain⟨y,ys,e,h1,h2⟩:=h;exact⟨y,ys,e,ah.av x h1,af.av x h2⟩
theorem aq.av{nb ay:aw->Prop}{H:Hp}(x:∀a,ay a->nb a):∀{ds:List (PyData×PyData)} {vs:List (Key×V)},aq nb H ds vs->aq ay H ds vs
 |[],_,h=>by unfold aq at h⊢;exact h
 |d::ds,_,h=>by unfold aq at h⊢;obtain⟨y,ys,e,h1,h2⟩:=h;exact⟨y,ys,e,bU.av x h1,aq.av x h2⟩
theorem bU.av{nb ay:aw->Prop}{H:Hp}(x:∀a,ay a->nb a):∀{d:PyData×PyData} {v:Key×V},bU nb H d v->bU ay H d v
 |(k,d),_,h=>by unfold bU at h⊢;exact⟨h.1,ah.av x h.2⟩
end
mutual
theorem ah.fresh{nb:aw->Prop}{H:Hp}{p:aw}(hp:H p=none):∀{d:PyData} {v:V},ah nb H d v->ah (λa=>nb a\/a=p) H d v
 | .none,_,h=>by unfold ah at h⊢;exact h
 | .bool _,_,h=>by unfold ah at h⊢;exact h
 | .int _,_,h=>by unfold ah at h⊢;exact h
 | .str _,_,h=>by unfold ah at h⊢;exact h
 | .list ds,_,h=>by unfold ah at h⊢;obtain⟨a,xs,e,n,s,r⟩:=h;exact⟨a,xs,e,λz=>z.elim n (gM s hp),s,af.fresh hp r⟩
 | .tuple ds,_,h=>by unfold ah at h⊢;obtain⟨a,xs,e,n,s,r⟩:=h;exact⟨a,xs,e,λz=>z.elim n (gM s hp),s,af.fresh hp r⟩
 | .dict kvs,_,h=>by unfold ah at h⊢;obtain⟨a,xs,e,n,s,r⟩:=h;exact⟨a,xs,e,λz=>z.elim n (s.elim (λs=>gM s hp) λ⟨_,s⟩=>gM s hp),s,aq.fresh hp r⟩
theorem af.fresh{nb:aw->Prop}{H:Hp}{p:aw}(hp:H p=none):∀{ds:List PyData} {vs:List V},af nb H ds vs->af (λa=>nb a\/a=p) H ds vs
 |[],_,h=>by unfold af at h⊢;exact h
 |d::ds,_,h=>by unfold af at h⊢;obtain⟨y,ys,e,h1,h2⟩:=h;exact⟨y,ys,e,ah.fresh hp h1,af.fresh hp h2⟩
theorem aq.fresh{nb:aw->Prop}{H:Hp}{p:aw}(hp:H p=none):∀{ds:List (PyData×PyData)} {vs:List (Key×V)},aq nb H ds vs->aq (λa=>nb a\/a=p) H ds vs
 |[],_,h=>by unfold aq at h⊢;exact h
 |d::ds,_,h=>by unfold aq at h⊢;obtain⟨y,ys,e,h1,h2⟩:=h;exact⟨y,ys,e,bU.fresh hp h1,aq.fresh hp h2⟩
theorem bU.fresh{nb:aw->Prop}{H:Hp}{p:aw}(hp:H p=none):∀{d:PyData×PyData} {v:Key×V},bU nb H d v->bU (λa=>nb a\/a=p) H d v
 |(k,d),_,h=>by unfold bU at h⊢;exact⟨h.1,ah.fresh hp h.2⟩
end
mutual
theorem ah.reads{pins:List (aw×Obj)}{σ:qr}{H:Hp}{s:ax}{nb:aw->Prop}(I:Inv X pins σ H s):∀{d:PyData} {v:V} {u:ae},ah nb H d v->RelV v u->d.canLay0=true->∃as,Reads s.heap u d as
  | .none,_,_,h,r,_=>by unfold ah at h;subst h;cases r;exact⟨_, .none⟩
  | .bool _,_,_,h,r,_=>by unfold ah at h;subst h;cases r;exact⟨_, .bool _⟩
  | .int _,_,_,h,r,_=>by unfold ah at h;subst h;obtain⟨t,rfl⟩:=r;exact⟨_, .int _ _⟩
  | .str _,_,_,h,r,_=>by unfold ah at h;subst h;obtain⟨t,rfl⟩:=r;exact⟨_, .str _ _⟩
  | .list ds, _, _, h, r, b => by
    unfold ah at h;obtain⟨a,xs,rfl,n,s,q⟩:=h;cases r;obtain⟨its,rv,p,hz⟩:=I.list (aS.of s);obtain⟨as,c⟩:=af.reads I q rv (by simpa only[df] using b);obtain⟨o,ho,hc,m,hd⟩:=p.isList;exact⟨_, .list ho hc hd (by simpa using c)⟩
  | .tuple ds, _, _, h, r, b => by
    unfold ah at h;obtain⟨a,xs,rfl,n,s,q⟩:=h;cases r;obtain⟨its,rv,p,hz⟩:=I.tuple (fN.of s);obtain⟨as,c⟩:=af.reads I q rv (by simpa only[df] using b);obtain⟨o,ho,hc,m,hd⟩:=p;exact⟨_, .tuple ho hc hd (by simpa using c)⟩
  | .dict _,_,_,h,r,b=>by simp[df] at b
theorem af.reads{pins:List (aw×Obj)}{σ:qr}{H:Hp}{s:ax}{nb:aw->Prop}(I:Inv X pins σ H s):∀{ds:List PyData} {vs:List V} {us:List ae},af nb H ds vs->Vals vs us->cf ds=true->∃as,ReadsAll s.heap us ds as
  |[],_,_,h,r,_=>by unfold af at h;subst h;cases r;exact⟨_, .nil⟩
  | d :: ds, _, _, h, r, hc0 => by
    rw[cf,ez] at hc0;unfold af at h;obtain⟨y,ys,rfl,h1,h2⟩:=h;cases r with
    | cons C N =>
      obtain⟨as,J⟩:=ah.reads I h1 C hc0.1;obtain⟨bs,q2⟩:=af.reads I h2 N hc0.2;exact⟨_, .cons J q2⟩
end
def yT(a:Bool):R2:=λx y H Q=>∃nb d e,ah nb H d x/\ah nb H e y/\cK d=true/\cK e=true/\Q (.bl (eA d e !=a)) H
theorem Tq(F:X.A.units+64<ph):dj X (cc .Eq) (yT false):=by
 intro pins s σ H x y v u Q I rx ry h;obtain⟨nb,d,e,h1,h2,h3,h4,q⟩:=h;obtain⟨as,C⟩:=h1.reads I rx (sW h3);obtain⟨bs,N⟩:=h2.reads I ry (sW h4);exact eq_dataH C N h3 h4 F ⟨.bl _,H,I,rfl,by simpa using q⟩
theorem Eo(F:X.A.units+64<ph):dj X (cc .NotEq) (yT true):=by
 intro pins s σ H x y v u Q I rx ry h;obtain⟨nb,d,e,h1,h2,h3,h4,q⟩:=h;obtain⟨as,C⟩:=h1.reads I rx (sW h3);obtain⟨bs,N⟩:=h2.reads I ry (sW h4);exact ne_dataH C N h3 h4 F ⟨.bl _,H,I,rfl,by simpa using q⟩
end
structure Callee(P:bc)(w:bw)(K:PySem.W.Frag)(mg:Str->Option ae)(base:dc)(x:Str)(k:Nat)(ps:List Str)(sp:Sp):Prop where
 ex:∃f fd,bx P w K mg base bO k f fd ps sp/\Binds K fd ps []/\PySem.W.keepIn K (.ref f)=true/\mg x=some (.ref f)
theorem aX{k:Nat}{p:Pos}(c:Callee X.prog X.w X.K X.mg X.base x k ps sp)(hr:c5 k X.A)(ha:PA X (e::es) t)(hg:Gl X x:=by rfl)
  (a:(x==("__debug__":Str))=false:=by decide) (he:ba (e::es) X.env=(false,eval e X.env)::ba es X.env:=by rfl) (B:(er pos (ba es X.env)).any (·.1)=false:=by rfl):
  PE X (.Call (.Name x p) (e::es) [] pos) (gh sp [] E0 t):=by
 obtain⟨f,fd,F,b,kp,m⟩:=c.ex;exact KR F hr hg m kp b .nil tQ ha a he B
theorem Callee.mk'{P:bc}{K:PySem.W.Frag}{st:eo}{k:Nat}{f:aw}(F:bT K x x st f fd)(ok:bx P w K mg base bO k f fd ps sp)(b:Binds K fd ps [])
  (m:mg x=some (.ref f)):Callee P w K mg base x k ps sp:=⟨f,fd,ok,b,F.kp,m⟩
def bf(K:PySem.W.Frag)(x q:Str)(st:eo)(f:aw):Prop:=PySem.W.nsIn K a4 x=some (some (.ref f))/\∃fd,bT K x q st f fd
theorem bf.mk{K:PySem.W.Frag}{q:Str}{st:eo}{f:aw}{od an:Option aw}{kV doc pm cdv ct:ae}(a:PySem.W.nsIn K a4 x=some (some (.ref f)))(l:K.lookup f=some ⟨oc,od, .func (PySem.W.fnOf x q (jj st) (iQ st) (aT st) .none kV doc pm an cdv ct),osl⟩)
  (c:PySem.W.codeIn K cdv q=true) (k:PySem.W.keepIn K (.ref f)=true):bf K x q st f:=⟨a,_,nO l c k⟩
section
variable{X:Cx}
theorem iz:dj X (fg .Mult) (rI (λi j=>uY i j\/(Sm i/\Sm j)) λi j=> .int (i*j)):=tS λ_ _ _ _ _ _ _ hc q=>mul_int q (by
 rcases hc with hc|hc
 .exact hc.ok
 .exact IntMulOk.of_bits (EY hc.1) (EY hc.2))
end
def cZ(H:Hp)(b l:aw):Prop:=∃(ns:List Int) (i c st n:Int),H b=some (.lst [.ref l, .int i, .int c, .int st, .int n])/\H l=some (.lst (ns.map V.int))/\
 (∀x∈ns,0<=x/\x<10^60)/\ns.length<=63/\0<=i/\0<=c/\c<10^60/\0<=st/\st<2147483647
theorem RZ{l:aw}{i c st n:V}(h:H b=some (.lst [.ref l,i,c,st,n]))(h':H l=some (.lst (ns.map V.int))):l≠b:=by
 intro e;subst e;rw[h] at h';have e:=HO.lst.inj (fF h');cases ns with
 |nil=>cases e
 |cons x r=>rw[bu] at e;cases (qE e).1
theorem cZ.put{l:aw}{i c st n:Int}(hl:l≠b)(h':H l=some (.lst (ns.map V.int)))(h1:∀x∈ns,0<=x/\x<10^60)(h2:ns.length<=63)
  (h3:0<=i) (h4:0<=c) (h5:c<10^60) (d:0<=st) (e:st<2147483647):cZ (upd H b (.lst [.ref l, .int i, .int c, .int st, .int n])) b l:=
 ⟨ns,i,c,st,n,aY,by rw[bA hl];exact h',h1,h2,h3,h4,h5,d,e⟩
theorem cZ.put2{l p:aw}(h:cZ H b l)(hp:p≠b/\p≠l):cZ (upd H p o) b l:=by
 obtain⟨ns,i,c,st,n,h1,h2,r⟩:=h;exact⟨ns,i,c,st,n,by rw[bA (bX hp.1)];exact h1,by rw[bA (bX hp.2)];exact h2,r⟩
theorem cZ.same{l:aw}(h:cZ H b l)(s:cR H H'):cZ H' b l:=by
 obtain⟨ns,i,c,st,n,h1,h2,r⟩:=h;exact⟨ns,i,c,st,n,s _ _ h1,s _ _ h2,r⟩
def j5:Sp:=λvs H Q _=>∃(b l:aw) (many:Int),vs=[.ref b, .int many]/\cZ H b l/\0<many/\Sm many/\∀(r:Int) (H':Hp),0<=r->r<many->aP (Nb b) H H'->cZ H' b l->Q (.int r) H'
def Ez(K:PySem.W.Frag):Sp:=λvs H Q _=>∃(a:aw) (ns:List Int),vs=[.ref a]/\aS K H a (ns.map V.int)/\ns.length<=63/\∀(b l:aw) (H':Hp),cR H H'->H b=none->cZ H' b l->Q (.ref b) H'
theorem fL{α:Type}{xs:List α}{i:Int}{v:α}(h0:0<=i)(h:xs[i.toNat]?=some v):bB xs i=some v:=by
 have e:i=((i.toNat:Nat):Int):=∅
 rw[e];exact Pk h
theorem cP{p:aw}(h:H p=none):cR H (upd H p o):=λb u q=>by rw[bA (gM q h)];exact q
section
variable{nb:aw->Prop}{H H':Hp}
theorem af.length:∀{ds:List PyData} {xs:List V},af nb H ds xs->xs.length=ds.length
 |[],_,h=>by unfold af at h;subst h;rfl
 |d::ds,_,h=>by unfold af at h;obtain⟨y,ys,rfl,_,h2⟩:=h;simp[af.length h2]
theorem af.get:∀{ds:List PyData} {xs:List V} {i:Nat} {d:PyData},af nb H ds xs->ds[i]?=some d->∃x,xs[i]?=some x/\ah nb H d x
 |[],_,_,_,_,e=>by simp at e
 |d::ds,_,0,_,h,e=>by unfold af at h;obtain⟨y,ys,rfl,h1,h2⟩:=h;simp at e;subst e;exact⟨y,rfl,h1⟩
 |d::ds,_,i+1,_,h,e=>by unfold af at h;obtain⟨y,ys,rfl,h1,h2⟩:=h;simpa using af.get (i:=i) h2 (by simpa using e)
theorem af.snoc{d:PyData}{x:V}(hd:ah nb H d x):∀{ds:List PyData} {xs:List V},af nb H ds xs->af nb H (ds++[d]) (xs++[x])
 |[],_,h=>by unfold af at h;subst h;unfold af;exact⟨x,[],rfl,hd,by unfold af;rfl⟩
 |e::ds,_,h=>by unfold af at h;obtain⟨y,ys,rfl,h1,h2⟩:=h;show af nb H (e::(ds++[d])) _;unfold af;exact⟨y,ys++[x],rfl,h1,af.snoc hd h2⟩
theorem af.append:∀{ds es:List PyData} {xs ys:List V},af nb H ds xs->af nb H es ys->af nb H (ds++es) (xs++ys)
 |[],_,_,_,h,h'=>by unfold af at h;subst h;exact h'
 |e::ds,es,_,zs,h,h'=>by unfold af at h;obtain⟨y,ys,rfl,h1,h2⟩:=h;show af nb H (e::(ds++es)) _;unfold af;exact⟨y,ys++zs,rfl,h1,af.append h2 h'⟩
theorem af.take:∀{ds:List PyData} {xs:List V} (n:Nat),af nb H ds xs->af nb H (ds.take n) (xs.take n)
 |_,_,0,_=>by simp only[List.take_zero];unfold af;rfl
 |[],_,n+1,h=>by unfold af at h;subst h;simp only[List.take_nil];unfold af;rfl
 |d::ds,_,n+1,h=>by unfold af at h;obtain⟨y,ys,rfl,h1,h2⟩:=h;simp only[List.take_succ_cons];unfold af;exact⟨y,_,rfl,h1,af.take n h2⟩
theorem af.drop:∀{ds:List PyData} {xs:List V} (n:Nat),af nb H ds xs->af nb H (ds.drop n) (xs.drop n)
 |_,_,0,h=>h
 |[],_,n+1,h=>by unfold af at h;subst h;simp only[List.drop_nil];unfold af;rfl
 |d::ds,_,n+1,h=>by unfold af at h;obtain⟨y,ys,rfl,h1,h2⟩:=h;simp only[List.drop_succ_cons];exact af.drop n h2
theorem af.nil:af nb H [] []:=by unfold af;rfl
theorem af.cons{d:PyData}{x:V}{ds:List PyData}{xs:List V}(h1:ah nb H d x)(h2:af nb H ds xs):af nb H (d::ds) (x::xs):=by unfold af;exact⟨x,xs,rfl,h1,h2⟩
theorem ah.int(i:Int):ah nb H (.int i) (.int i):=by unfold ah;rfl
theorem ah.aD:ah nb H .none .aD:=by unfold ah;rfl
theorem ah.bl(b:Bool):ah nb H (.bool b) (.bl b):=by unfold ah;rfl
theorem ah.lst{a:aw}{ds:List PyData}{xs:List V}(n:¬nb a)(h:H a=some (.lst xs))(hd:af nb H ds xs):ah nb H (.list ds) (.ref a):=by unfold ah;exact⟨a,xs,rfl,n,h,hd⟩
theorem ah.tup{a:aw}{ds:List PyData}{xs:List V}(n:¬nb a)(h:H a=some (.tup xs))(hd:af nb H ds xs):ah nb H (.tuple ds) (.ref a):=by unfold ah;exact⟨a,xs,rfl,n,h,hd⟩
theorem ah.dY{v:V}(h:ah nb H (.list ds) v):∃a xs,v= .ref a/\¬nb a/\H a=some (.lst xs)/\af nb H ds xs:=by unfold ah at h;exact h
theorem ah.ofT{v:V}(h:ah nb H (.tuple ds) v):∃a xs,v= .ref a/\¬nb a/\H a=some (.tup xs)/\af nb H ds xs:=by unfold ah at h;exact h
theorem ah.bM{v:V}{i:Int}(h:ah nb H (.int i) v):v= .int i:=by unfold ah at h;exact h
theorem ah.uI{v:V}(h:ah nb H .none v):v= .aD:=by unfold ah at h;exact h
end
def MV:Sp:=λvs H Q _=>∃i:Int,vs=[.int i]/\Q (.bl true) H
def uM(K:PySem.W.Frag):Sp:=λvs H Q _=>∃(a:aw) (ns:List Int),vs=[.ref a]/\aS K H a (ns.map V.int)/\ns.length<=63/\∀H',Q (.bl true) H'
def zM(Q:VK):List V->Hp->Prop:=λxs H1=>xs.length<=sizeLine/\∀p,H1 p=none->Q (.ref p) (upd H1 p (.lst xs))
def iA(K:PySem.W.Frag):List V->Hp->VK->Prop:=λxs H Q=>∃p ys,xs=[.ref p]/\(aS K H p ys\/fN K H p ys)/\∀l,H l=none->Q (.ref l) (upd H l (.lst ys))
theorem kU:gQ X (.type "list") (iA X.K):=R9
def DM:R2:=λx y H Q=>y= .aD/\Q (.bl (decide (x= .aD))) H
def sD:R2:=λx y H Q=>y= .aD/\Q (.bl (!decide (x= .aD))) H
theorem KH:dj X (cc .Is) DM:=MW
theorem C6:dj X (cc .IsNot) sD:=K7
noncomputable def intOf:dk->Option Int
 | .Constant (.int i) _ _=>some i
 |_=>none
theorem NU{i:Int}(h:intOf e=some i):∃k p,e= .Constant (.int i) k p:=by
 unfold intOf at h;split at h;·cases h;exact⟨_,_,rfl⟩
 .cases h
noncomputable def nW:List dk->Option (List Int)
 |[]=>some []
 |e::r=>(intOf e).bind λi=>(nW r).map (i:: ·)
def vW(is:List Int):TA:=λ_ H Q=>Q (is.map V.int) H
theorem Gj:∀{es:List dk} {is:List Int},nW es=some is->PA X es (vW is):=by
  intro es;induction es with
  | nil =>
    intro is h;have e:is=[]:=by simpa[nW] using h.symm
    subst e;exact ai
  | cons e r ih =>
    intro is h;unfold nW at h;cases hi:intOf e with
    |none=>rw[hi] at h;cases h
    | some i =>
      rw[hi] at h;obtain⟨k,p,rfl⟩:=NU hi;obtain⟨a,hj,rfl⟩:=oS.mp (show(nW r).map (i:: ·)=some is from h);exact aa (te:=tC (.int i)) (t:=vW a) ak (ih hj)
theorem R0{X:Cx}{i:Nat}{x:Str}{es:List dk}{is:List Int}{k p2 a:Pos}(hN:X.N.Nodup)(hi:X.N[i]?=some x)(hx:Loc X.env.scope x)(h:nW es=some is)(hf:X.fn x=true\/X.env.scope.names.lookup x=some .local):
  PS X (.Assign [.Name x k] (.List es p2) a) (fk (oU (vW is)) (eV i)):=aN hN hi hx (fO (Gj h)) rfl hf
namespace R
section
variable{σ:qr}{H:Hp}{Q:VK}{D:Ends}{ta tb te:TE}{K:PySem.W.Frag}
theorem seq{t u:TS}(h:t {D with nx:=u D} σ H):jR t u D σ H:=h
theorem asg(h:te σ H λx H1=>g x σ H1 D.nx):fk te g D σ H:=h
theorem j8{c:TT}{t u:TS}(h:c σ H λb H1=>if b=true then t D σ H1 else u D σ H1):qy c t u D σ H:=h
theorem ret(h:te σ H D.rt):lG te D σ H:=h
theorem next(h:D.nx σ H):Co D σ H:=h
theorem var{v:V}(e:σ[i]?=some (some v))(h:Q v H):bE i σ H Q:=⟨v,e,h⟩
theorem c{v:V}(h:Q v H):tC v σ H Q:=h
theorem op{r:R2}(h:ta σ H λx H1=>tb σ H1 λy H2=>r x y H2 Q):c8 r ta tb σ H Q:=h
theorem un{r:V->Hp->VK->Prop}(h:ta σ H λx H1=>r x H1 Q):DP r ta σ H Q:=h
theorem test{q:Bool->Hp->Prop}(h:te σ H λx H'=>∃k,x= .bl k/\q k H'):CA te σ H q:=h
theorem bl{P:Bool->Prop}{b:Bool}(h:P b):∃k,V.bl b= .bl k/\P k:=⟨b,rfl,h⟩
theorem and{t u:TT}{q:Bool->Hp->Prop}(h:t σ H λc H1=>if c=true then u σ H1 q else q false H1):Ay t u σ H q:=h
theorem cb{r:List V->Hp->VK->Prop}(h:t σ H λvs H1=>r vs H1 Q):eH r t σ H Q:=h
theorem call(h:t σ H λvs H1=>sp (vs++[]) H1 Q E0):gh sp [] E0 t σ H Q:=h
theorem nil{q:List V->Hp->Prop}(h:q [] H):bI σ H q:=h
theorem cons{t:TA}{q:List V->Hp->Prop}(h:ta σ H λx H1=>t σ H1 λxs H2=>q (x::xs) H2):aV ta t σ H q:=h
theorem lst{t:TA}(h:t σ H (zM Q)):oU t σ H Q:=h
theorem sl{r:V->Option Int->Option Int->Hp->VK->Prop}{tl th:TO}(h:te σ H λx H1=>tl σ H1 λl H2=>th σ H2 λu H3=>r x l u H3 Q):oY r te tl th σ H Q:=h
theorem Oo{q:Option Int->Hp->Prop}(h:q none H):Cs σ H q:=h
theorem part{q:Option Int->Hp->Prop}(h:te σ H λx H1=>∃i,x= .int i/\q (some i) H1):yL te σ H q:=h
theorem Mh{P:Int->Prop}{i:Int}(h:P i):∃j,V.int i= .int j/\P j:=⟨i,rfl,h⟩
theorem bm(h:te σ H λx H1=>rD K T x H1/\t σ H1 λxs H2=>r x xs H2 Q):mj K T r te t σ H Q:=h
theorem CV{v:V}(h:q (σ.set i (some v)) H):eV i v σ H q:=h
theorem Qa{to c:TE}{t:wG}{v:V}(h:to σ H λo H1=>c σ H1 λi H2=>t o i v H2 λH3=>q σ H3):pV to c t v σ H q:=h
theorem US{t:TG}{u:gX}{v:V}{r:List V}(h:t v σ H λC H'=>u r C H' q):Ar t u (v::r) σ H q:=⟨v,r,rfl,h⟩
theorem Og(h:q σ H):yq [] σ H q:=⟨rfl,h⟩
theorem Ru{t:gX}(hq:fN K H a xs)(hl:xs.length=n)(h:t xs σ H q):vX K n t (.ref a) σ H q:=⟨a,xs,rfl,hq,hl,h⟩
theorem BH{q:Bool->Hp->Prop}(h:q true H):p7 σ H q:=h
theorem g7{g:Int->Int->V}{i j:Int}(h:Q (g i j) H):L2.g7 g (.int i) (.int j) H Q:=⟨i,j,rfl,rfl,h⟩
theorem rI{C:Int->Int->Prop}{g:Int->Int->V}{i j:Int}(hc:C i j)(h:Q (g i j) H):L2.rI C g (.int i) (.int j) H Q:=⟨i,j,rfl,rfl,hc,h⟩
theorem Bd{i j:Int}:decide (V.int i=V.int j)=decide (i=j):=by rw[mH];simp
theorem QN{i j:Int}(h:Q (.bl (decide (i=j))) H):AG (.int i) (.int j) H Q:=⟨rfl,by rw[Bd];exact h⟩
theorem P5{i j:Int}(h:Q (.bl (decide (i≠j))) H):yM (.int i) (.int j) H Q:=⟨rfl,by rw[Bd,<-decide_not];exact h⟩
theorem HN{i:Int}(h:Q (.bl true) H):sD (.int i) .aD H Q:=⟨rfl,by rw[decide_eq_false (λe=>V.noConfusion e)];exact h⟩
theorem JN(h:Q (.bl false) H):sD .aD .aD H Q:=⟨rfl,by rw[decide_eq_true rfl];exact h⟩
theorem vh{p:aw}{i:Int}{v:V}(hp:H p=some (.lst xs))(e:bB xs i=some v)(h:Q v H):cO K (.ref p) (.int i) H Q:=⟨p,xs,i,v,rfl,rfl,aS.of hp,e,h⟩
theorem z6{p:aw}{o:HO}{i:Int}{v:V}(e:bB xs i=some v)(h:Q v (upd H p (.lst xs))):cO K (.ref p) (.int i) (upd H p (.lst xs)) Q:=⟨p,xs,i,v,rfl,rfl,aS.of aY,e,h⟩
theorem setM{p:aw}{k:Int}{v:V}{q:Hp->Prop}(hp:H p=some (.lst xs))(e:gF xs.length k=some j)(h:q (upd H p (.lst (xs.set j v)))):rJ (.ref p) (.int k) v H q:=⟨p,xs,k,j,rfl,rfl,hp,e,h⟩
theorem fV{p:aw}{k:Int}{v:V}{q:Hp->Prop}(e:gF xs.length k=some j)(h:q (upd H p (.lst (xs.set j v)))):rJ (.ref p) (.int k) v (upd H p (.lst xs)) q:=
 ⟨p,xs,k,j,rfl,rfl,aY,e,by rw[CB];exact h⟩
theorem Ob{p:aw}{P:List V->Prop}(hp:H p=some (.lst xs))(h:P xs):∃a ys,[V.ref p]=[.ref a]/\(aS K H a ys\/fN K H a ys)/\P ys:=⟨p,xs,rfl, .inl (aS.of hp),h⟩
theorem Im{p:aw}{lo hi:Option Int}(hp:aS K H p xs)(h:∀a,H a=none->Q (.ref a) (upd H a (.lst (jQ xs lo hi)))):pD K (.ref p) lo hi H Q:=⟨p,xs,rfl,hp,h⟩
theorem Pg{a:Int}{P:Int->Prop}(h:P a):∃i,[V.int a]=[.int i]/\P i:=⟨a,rfl,h⟩
theorem RX(h:xs.length<=10000)(q:∀p H',cR H H'->H p=none->H' p=some (.lst xs)->Q (.ref p) H'):zM Q xs H:=
 ⟨dZ h ⋯,λp hp=>q p _ (cP hp) hp aY⟩
theorem IC{c A B:Prop}[Decidable c](h:c)(q:A):if c then A else B:=by rw[if_pos h];exact q
theorem JS{c A B:Prop}[Decidable c](h:¬c)(q:B):if c then A else B:=by rw[if_neg h];exact q
theorem dT{c:Prop}[Decidable c](h:c):decide c=true:=decide_eq_true h
theorem dF{c:Prop}[Decidable c](h:¬c):¬decide c=true:=by rw[decide_eq_false h];exact cT
theorem IT{c:Prop}[Decidable c](h:¬c):(!decide c)=true:=by rw[decide_eq_false h];rfl
theorem FW{c:Prop}[Decidable c](h:c):¬(!decide c)=true:=by rw[decide_eq_true h];decide
theorem Mq{R:It->Hp->Prop}(h:t σ H λvs H1=>∃i j:Int,vs=[.int i, .int j]/\(-(2^62)<=i/\i<2^62/\ -(2^62)<=j/\j<2^62)/\R (i8 i (j-i).toNat) H1):yZ t σ H R:=h
theorem SI{P:Int->Int->Prop}{a b:Int}(h1: -(2^62)<=a/\a<2^62/\ -(2^62)<=b/\b<2^62)(h:P a b):∃i j:Int,[V.int a,V.int b]=[.int i, .int j]/\(-(2^62)<=i/\i<2^62/\ -(2^62)<=j/\j<2^62)/\P i j:=⟨a,b,rfl,h1,h⟩
theorem iL{tl:TE}{R:It->Hp->Prop}(h:tl σ H λx H1=>∃a,x= .ref a/\(∃xs,aS K H1 a xs)/\R (nD K a) H1):qV K tl σ H R:=h
theorem uH{P:aw->Prop}{p:aw}(hp:aS K H p xs)(h:P p):∃a,V.ref p= .ref a/\(∃xs,aS K H a xs)/\P a:=⟨p,rfl,⟨xs,hp⟩,h⟩
theorem TX{F:TI}{tb:TS}(h:F σ H λJ H1=>∃W:Nat->Nat->qr->Hp->Prop,(∃m,W 0 m σ H1)/\∀i m σ H,W i m σ H->
 (J.stop i H/\D.nx σ H)\/(J.go i H/\∃N:qr->Hp->Prop,(∀C H',N C H'->∃M,M<m/\W (i+1) M C H')/\∀x H',J.m5 i H x H'->g x σ H' λc H2=>tb {D with nx:=N,ct:=N,bk:=D.nx} c H2)):qf F g tb D σ H:=h
theorem comp{F:TI}(h:F σ H λJ H1=>∀acc,H1 acc=none->p8 J g tc te acc (λH'=>Q (.ref acc) H') (gm mp σ) (upd H1 acc (.lst []))):mP F g tc te mp σ H Q:=h
end
theorem Ao{lo:Int}{d:Hp->Prop}(Pv:Nat->qr->Hp->Prop)(h0:Pv 0 σ H)
  (O:∀i σ H,i<n->Pv i σ H->g (.int (lo+i)) σ H λc H2=>tc c H2 λb H3=>if b=true then te c H3 λv H4=>∃ys,H4 acc=some (.lst ys)/\ys.length<sizeLine/\Pv (i+1) c (upd H4 acc (.lst (ys++[v]))) else Pv (i+1) c H3)
  (hd:∀σ H,Pv n σ H->d H):p8 (i8 lo n) g tc te acc d σ H:=by
 refine⟨λi m σ H=>m=n-i/\i<=n/\Pv i σ H,⟨n,by simp,iE _,h0⟩,?_⟩;rintro i m σ H ⟨rfl,hi,p⟩;by_cases B:i<n
 .refine .inr ⟨B,Pv (i+1),λC H' k=>⟨n-(i+1),∅,rfl,B,k⟩,λx H' y=>?_⟩;obtain⟨e,y⟩:=y;subst e y;exact O i σ _ B p
 .have e:i=n:=∅
  subst e;exact .inl ⟨bh _,hd σ H p⟩
theorem Ef{K:PySem.W.Frag}{d:Hp->Prop}(Pv:Nat->qr->Hp->Prop)(h0:Pv 0 σ H)(hl:∀i σ H,i<=xs.length->Pv i σ H->aS K H a xs)
  (O:∀i x σ H,xs[i]?=some x->Pv i σ H->g x σ H λc H2=>tc c H2 λb H3=>if b=true then te c H3 λv H4=>∃ys,H4 acc=some (.lst ys)/\ys.length<sizeLine/\Pv (i+1) c (upd H4 acc (.lst (ys++[v]))) else Pv (i+1) c H3)
  (hd:∀σ H,Pv xs.length σ H->d H):p8 (nD K a) g tc te acc d σ H:=by
 refine⟨λi m σ H=>m=xs.length-i/\i<=xs.length/\Pv i σ H,⟨xs.length,by simp,iE _,h0⟩,?_⟩;rintro i m σ H ⟨rfl,hi,p⟩;have q:=hl i σ H hi p;by_cases B:i<xs.length
 .refine .inr ⟨⟨xs,xs[i],q,by simp[B]⟩,Pv (i+1),λC H' k=>⟨xs.length-(i+1),∅,rfl,B,k⟩,λx H' y=>?_⟩;obtain⟨e,y⟩:=y;subst e;exact O i x σ _ (y xs q) p
 .have e:i=xs.length:=∅
  subst e;exact .inl ⟨⟨xs,q,bh _⟩,hd σ H p⟩
end R
@[reducible] noncomputable def ru(pr:Int×Int):PyData:= .tuple [.int pr.1, .int pr.2]
noncomputable def gx:Option Int->PyData
 |none=> .none
 |some i=> .int i
noncomputable def tO:Option Int->V
 |none=> .aD
 |some i=> .int i
noncomputable def iW(wd:List (Option Int))(pr:Int×Int):Int:=match wd[pr.1.toNat]? with
 |some (some x)=>pr.2*x
 |_=>0
noncomputable def bH(prs:List (Int×Int))(wd:List (Option Int)):Int:=(prs.map (iW wd)).sum
theorem TJ{prs:List (Int×Int)}{wd:List (Option Int)}(h:i<prs.length):bH (prs.take (i+1)) wd=bH (prs.take i) wd+iW wd prs[i]:=by
 unfold bH;rw[ye,aA h,eN,List.sum_append];simp
theorem QA{o:Option Int}{v:V}(h:ah nb H (gx o) v):v=tO o:=by
 cases o with
 |none=>exact h.uI
 |some i=>exact h.bM
theorem Gh{nb:aw->Prop}{H:Hp}:∀{wd:List (Option Int)} {xs:List V},af nb H (wd.map gx) xs->xs=wd.map tO
  |[],_,h=>by unfold dn af at h;exact h
  | o :: wd, _, h => by
    rw[bu] at h;unfold af at h;obtain⟨y,ys,rfl,h1,h2⟩:=h;rw[bu,QA h1,Gh h2]
theorem Ke{v:V}(h:ah nb H (ru pr) v):∃t,v= .ref t/\¬nb t/\H t=some (.tup [.int pr.1, .int pr.2]):=by
 obtain⟨t,xs,rfl,n,ht,hd⟩:=h.ofT;unfold af at hd;obtain⟨y,ys,rfl,h1,h2⟩:=hd;unfold af at h2;obtain⟨z,zs,rfl,h3,h4⟩:=h2;unfold af at h4;subst h4;rw[h1.bM,h3.bM] at ht;exact⟨t,rfl,n,ht⟩
def Cw:Sp:=λvs H Q _=>∃(nb:aw->Prop) (p:Int) (b d:V) (prs:List (Int×Int)) (wd:List (Option Int)),vs=[.int p,b,d]/\ah nb H (.list (prs.map ru)) b/\ah nb H (.list (wd.map gx)) d/\0<p/\
 (∀pr∈prs,0<=pr.1/\pr.1<wd.length/\Sm pr.2)/\(∀x,some x∈wd->Sm x)/\Q (.int (bH prs wd%p)) H
def vR(r:Int):Prop:=∀d:Int,2<=d->d*d<=r->r%d≠0
noncomputable def sM:List Int:=[2,3,5,7,2,11,101,10007,65537,1000003,998244353,1000000007,2147483647,1000000000039,1000000000000000003,18446744073709551557,2305843009213693951,618970019642690137449562111,162259276829213363391578010288127,170141183460469231731687303715884105727,1000000000000000000000000000000000000003,9999999999999999999999999999999999999983]
def ya:Sp:=λvs H Q _=>∃n:Int,vs=[.int n]/\2<=n/\n<=10002/\∀(r:Int) (H':Hp),cR H H'->2<=r->r<=10100->vR r->Q (.int r) H'
theorem Af{nb:aw->Prop}{H:Hp}:∀is:List Int,af nb H (is.map aF) (is.map V.int)
 |[]=>af.nil
 |i::is=>af.cons (.int i) (Af is)
theorem o7{nb:aw->Prop}{H:Hp}:∀{is:List Int} {xs:List V},af nb H (is.map aF) xs->xs=is.map V.int
  |[],_,h=>by unfold dn af at h;exact h
  | i :: is, _, h => by
    rw[bu] at h;unfold af at h;obtain⟨y,ys,rfl,h1,h2⟩:=h;rw[bu,h1.bM,o7 h2]
noncomputable abbrev Bg:=Option (aw×aw)
def NB(B:Bg)(a:aw):Prop:=∀b l,B=some (b,l)->a≠b
def iP(B:Bg)(H:Hp):Prop:=∀b l,B=some (b,l)->cZ H b l
def gE(nb:aw->Prop)(H:Hp):Prop:=∀a,nb a->H a≠none
structure Kp(S:aw->Prop)(F:List aw)(H H':Hp):Prop where
 own:∀a∈F,∀o,H a=some o->H' a=some o
 lst:∀a xs,¬S a->H a=some (.lst xs)->H' a=some (.lst xs)
 tup:∀a xs,¬S a->H a=some (.tup xs)->H' a=some (.tup xs)
 bF:∀a ps,¬S a->Rd H a (.dK ps)->Rd H' a (.dK ps)
theorem Kp.of{S:aw->Prop}{F:List aw}(h:∀a o,(¬S a\/a∈F)->H a=some o->H' a=some o):Kp S F H H':=
 ⟨λa ha o e=>h a o (.inr ha) e,λa xs n e=>h a _ (.inl n) e,λa xs n e=>h a _ (.inl n) e,λa ps n e=>e.elim (λe=> .inl (h a _ (.inl n) e)) λ⟨o,e⟩=> .inr ⟨o,h a _ (.inl n) e⟩⟩
mutual
theorem ah.kp{S:aw->Prop}{F:List aw}{H H':Hp}(m:Kp S F H H'):∀{d:PyData} {v:V},ah S H d v->ah S H' d v
 | .none,_,h=>by unfold ah at h⊢;exact h
 | .bool _,_,h=>by unfold ah at h⊢;exact h
 | .int _,_,h=>by unfold ah at h⊢;exact h
 | .str _,_,h=>by unfold ah at h⊢;exact h
 | .list ds,_,h=>by unfold ah at h⊢;obtain⟨a,xs,e,n,s,r⟩:=h;exact⟨a,xs,e,n,m.lst _ _ n s,af.kp m r⟩
 | .tuple ds,_,h=>by unfold ah at h⊢;obtain⟨a,xs,e,n,s,r⟩:=h;exact⟨a,xs,e,n,m.tup _ _ n s,af.kp m r⟩
 | .dict kvs,_,h=>by unfold ah at h⊢;obtain⟨a,xs,e,n,s,r⟩:=h;exact⟨a,xs,e,n,m.bF _ _ n s,aq.kp m r⟩
theorem af.kp{S:aw->Prop}{F:List aw}{H H':Hp}(m:Kp S F H H'):∀{ds:List PyData} {vs:List V},af S H ds vs->af S H' ds vs
 |[],_,h=>by unfold af at h⊢;exact h
 |d::ds,_,h=>by unfold af at h⊢;obtain⟨y,ys,e,h1,h2⟩:=h;exact⟨y,ys,e,ah.kp m h1,af.kp m h2⟩
theorem aq.kp{S:aw->Prop}{F:List aw}{H H':Hp}(m:Kp S F H H'):∀{ds:List (PyData×PyData)} {vs:List (Key×V)},aq S H ds vs->aq S H' ds vs
 |[],_,h=>by unfold aq at h⊢;exact h
 |d::ds,_,h=>by unfold aq at h⊢;obtain⟨y,ys,e,h1,h2⟩:=h;exact⟨y,ys,e,bU.kp m h1,aq.kp m h2⟩
theorem bU.kp{S:aw->Prop}{F:List aw}{H H':Hp}(m:Kp S F H H'):∀{d:PyData×PyData} {v:Key×V},bU S H d v->bU S H' d v
 |(k,d),_,h=>by unfold bU at h⊢;exact⟨h.1,ah.kp m h.2⟩
end
structure Cu where
 v:V
 F:List aw
 f:Bool
 P:(aw->Prop)->Hp->Prop
 keep:∀{S:aw->Prop} {H H':Hp},Kp S F H H'->P S H->P S H'
 av:∀{S S':aw->Prop} {H:Hp},(∀a,S' a->S a)->P S H->P S' H
 fresh:∀{S:aw->Prop} {H:Hp} {p:aw},H p=none->P S H->P (λa=>S a\/a=p) H
inductive HD where
 |d (x:PyData)|fz (o:Obj) (ps:List (Key×V))|th (c:Cu)
def dH(S:aw->Prop)(H:Hp):HD->V->Prop
 | .d x,v=>ah S H x v
 | .fz o ps,v=>∃a,v= .ref a/\¬S a/\H a=some (.gp o (.dK ps))
 | .th c,v=>v=c.v/\(∀a∈c.F,¬S a/\H a≠none)/\c.P S H
theorem dH.keep{S:aw->Prop}{H H':Hp}{x:HD}{v:V}(h:dH S H x v)(b:aP S H H'):dH S H' x v:=by
  cases x with
  |d x=>exact ah.keep b h
  |fz o ps=>obtain⟨a,e,n,q⟩:=h;exact⟨a,e,n,b _ _ n q⟩
  | th c =>
    obtain⟨e,n,q⟩:=h;refine⟨e,λa m=>⟨(n a m).1,?_⟩,c.keep (.of λa o m q=>b a o (m.elim id λm=>(n a m).1) q) q⟩;cases z:H a with
    |none=>exact absurd z (n a m).2
    |some o=>rw[b a o (n a m).1 z];exact gU _
theorem dH.av{S S':aw->Prop}{H:Hp}{x:HD}{v:V}(h:dH S H x v)(b:∀a,S' a->S a):dH S' H x v:=by
 cases x with
 |d x=>exact ah.av b h
 |fz o ps=>obtain⟨a,e,n,q⟩:=h;exact⟨a,e,λz=>n (b a z),q⟩
 |th c=>obtain⟨e,n,q⟩:=h;exact⟨e,λa m=>⟨λz=>(n a m).1 (b a z),(n a m).2⟩,c.av b q⟩
theorem dH.fresh{S:aw->Prop}{H:Hp}{x:HD}{v:V}{p:aw}(h:dH S H x v)(hp:H p=none):dH (λa=>S a\/a=p) H x v:=by
 cases x with
 |d x=>exact ah.fresh hp h
 |fz o ps=>obtain⟨a,e,n,q⟩:=h;exact⟨a,e,λz=>z.elim n (gM q hp),q⟩
 |th c=>obtain⟨e,n,q⟩:=h;exact⟨e,λa m=>⟨λz=>z.elim (n a m).1 λy=>(n a m).2 (by rw[y];exact hp),(n a m).2⟩,c.fresh hp q⟩
structure Gx where
 B:Bg
 H0:Hp
 A:aw->Prop
 hold:List (Bool×HD×V):=[]
inductive Sl where
 |no|d (f:Bool) (d:PyData)|own (a:aw) (f:Bool) (ds:List PyData)|aj|raw (v:V)|bF (a:aw) (f:Bool) (ks:List (Int×PyData))|cu (c:Cu)
noncomputable def Sl.adr:Sl->List aw
 | .own a _ _=>[a]
 | .bF a _ _=>[a]
 | .cu c=>c.F
 |_=>[]
@[reducible] noncomputable def bQ(p:Int×PyData):PyData×PyData:=(.int p.1,p.2)
noncomputable abbrev Rh:=List Sl
def Gx.S(G:Gx)(nb:aw->Prop)(f:Bool):aw->Prop:=λa=>nb a\/G.A a\/¬NB G.B a\/(f=true/\G.H0 a≠none)
def nA(G:Gx)(nb:aw->Prop)(H:Hp)(x:Option V):Sl->Prop
 | .no=>True
 | .d f d=>∃v,x=some v/\ah (G.S nb f) H d v
 | .own a f ds=>x=some (.ref a)/\nb a/\NB G.B a/\∃xs,H a=some (.lst xs)/\af (G.S nb f) H ds xs
 | .aj=>∃b l,G.B=some (b,l)/\x=some (.ref b)
 | .raw v=>x=some v
 | .bF a f ks=>x=some (.ref a)/\nb a/\NB G.B a/\∃ps,H a=some (.dK ps)/\aq (G.S nb f) H (ks.map bQ) ps
 | .cu c=>x=some c.v/\(∀a∈c.F,nb a/\NB G.B a)/\c.P (G.S nb c.f) H
structure Wd(G:Gx)(nb:aw->Prop)(ρ:Rh)(σ:qr)(H:Hp):Prop where
 aj:iP G.B H
 live:gE nb H
 old:∀a o,NB G.B a->G.H0 a=some o->H a=some o
 bP:∀a,nb a->NB G.B a->G.H0 a=none
 gA:gE G.A G.H0
 len:σ.length=ρ.length
 gB:iP G.B G.H0
 dX:∀h∈G.hold,dH (G.S nb h.1) H h.2.1 h.2.2
 ok:∀(i:Nat) (s:Sl),ρ[i]?=some s->∃x,σ[i]?=some x/\nA G nb H x s
 apart:∀(i j:Nat) a f as c g cs,i≠j->ρ[i]?=some (.own a f as)->ρ[j]?=some (.own c g cs)->a≠c
 dD:∀(i j:Nat) a f as c g cs,i≠j->ρ[i]?=some (.bF a f as)->ρ[j]?=some (.bF c g cs)->a≠c
 bR:∀(i j:Nat) c s,i≠j->ρ[i]?=some (.cu c)->ρ[j]?=some s->∀a∈c.F,a∉s.adr
def Step(B:Bg)(H H':Hp):Prop:=(∀a o,NB B a->H a=some o->H' a=some o)/\iP B H'
section
variable{G:Gx}{B:Bg}{nb:aw->Prop}{ρ:Rh}{σ:qr}{H H1 H2 H':Hp}{f g:Bool}{d:PyData}{ds:List PyData}{v:V}{xs:List V}{a p:aw}
theorem Step.refl(h:iP B H):Step B H H:=⟨λ_ _ _ e=>e,h⟩
theorem Step.trans(x:Step B H H1)(y:Step B H1 H2):Step B H H2:=⟨λa o n e=>y.1 a o n (x.1 a o n e),y.2⟩
theorem iP.same(h:iP B H)(s:cR H H'):iP B H':=λb l e=>(h b l e).same s
theorem Step.same(h:iP B H)(s:cR H H'):Step B H H':=⟨λa o _ e=>s a o e,h.same s⟩
theorem Step.but(s:Step B H H')(h:∀a,¬NB B a->ay a):aP ay H H':=λa o n e=>s.1 a o (i9 λz=>n (h a z)) e
theorem Step.cE(s:Step G.B H H'):aP (G.S nb f) H H':=s.but λa h=> .inr (.inr (.inl h))
theorem bJ(h:g=true->f=true){ay:aw->Prop}(hn:∀a,nb a->ay a):∀a,G.S nb g a->G.S ay f a:=by
 intro a z;rcases z with z|z|z|⟨z,q⟩
 .exact .inl (hn a z)
 .exact .inr (.inl z)
 .exact .inr (.inr (.inl z))
 .exact .inr (.inr (.inr ⟨h z,q⟩))
theorem NB.kL(h:iP B H)(n:¬NB B a):H a≠none:=by
 intro e;apply n;intro b l hb z;subst z;obtain⟨_,_,_,_,_,h1,_⟩:=h _ _ hb;rw[h1] at e;cases e
theorem Wd.gC(W:Wd G nb ρ σ H):gE (G.S nb f) H:=by
 intro a z;rcases z with z|z|z|⟨_,z⟩
 .exact W.live a z
 .by_cases n:NB G.B a
  .cases e:G.H0 a with
   |none=>exact absurd e (W.gA a z)
   |some o=>rw[W.old a o n e];exact gU _
  .exact NB.kL W.aj n
 .exact NB.kL W.aj z
 .by_cases n:NB G.B a
  .cases e:G.H0 a with
   |none=>exact absurd e z
   |some o=>rw[W.old a o n e];exact gU _
  .exact NB.kL W.aj n
theorem Wd.fresh(W:Wd G nb ρ σ H)(hp:H p=none):¬G.S nb f p:=λz=>W.gC p z hp
theorem nA.step{x:Option V}{s:Sl}(st:Step G.B H H')(h:nA G nb H x s):nA G nb H' x s:=by
  cases s with
  |no=>trivial
  |d f d=>obtain⟨v,e,h⟩:=h;exact⟨v,e,h.keep st.cE⟩
  |own a f ds=>obtain⟨e,n,q,xs,hx,hd⟩:=h;exact⟨e,n,q,xs,st.1 _ _ q hx,hd.keep st.cE⟩
  |aj=>exact h
  |raw v=>exact h
  |bF a f ks=>obtain⟨e,n,q,xs,hx,hd⟩:=h;exact⟨e,n,q,xs,st.1 _ _ q hx,hd.keep st.cE⟩
  | cu c =>
    obtain⟨e,n,p⟩:=h;refine⟨e,n,c.keep (.of λa o ha e=>st.1 a o ?_ e) p⟩;rcases ha with ha|ha
    · exact i9 λz=>ha (.inr (.inr (.inl z)))
    · exact(n a ha).2
theorem Uk(n:NB B a)(st:Step B H H')(h:H a≠none):H' a≠none:=by
 cases e:H a with
 |none=>exact absurd e h
 |some o=>rw[st.1 a o n e];exact gU _
theorem Wd.step(W:Wd G nb ρ σ H)(st:Step G.B H H'):Wd G nb ρ σ H' where
 aj:=st.2
 live:=λa n=>by
  by_cases q:NB G.B a;·exact Uk q st (W.live a n)
  .exact NB.kL st.2 q
 old:=λa o n e=>st.1 a o n (W.old a o n e)
 bP:=W.bP
 gA:=W.gA
 len:=W.len
 gB:=W.gB
 dX:=λh m=>(W.dX h m).keep st.cE
 ok:=λi s e=>by
  obtain⟨x,e1,h⟩:=W.ok i s e;exact⟨x,e1,h.step st⟩
 apart:=W.apart
 dD:=W.dD
 bR:=W.bR
theorem Wd.set{i:Nat}{s:Sl}{x:Option V}(W:Wd G nb ρ σ H)(h:nA G nb H x s)(O:∀a f ds,s= .own a f ds->∀j c g cs,j≠i->ρ[j]?=some (.own c g cs)->a≠c)(hd:∀a f ds,s= .bF a f ds->∀j c g cs,j≠i->ρ[j]?=some (.bF c g cs)->a≠c:=by intro _ _ _ z;cases z)(b:∀a∈s.adr,∀j t,j≠i->ρ[j]?=some t->(∃c,s= .cu c)\/(∃c,t= .cu c)->a∉t.adr:=by intro _ z;cases z):Wd G nb (ρ.set i s) (σ.set i x) H where
 aj:=W.aj
 live:=W.live
 old:=W.old
 bP:=W.bP
 gA:=W.gA
 len:=by rw[eG,eG];exact W.len
 gB:=W.gB
 dX:=W.dX
 ok:=λj t e=>by
  by_cases hij:i=j
  .subst hij;have hl:i<ρ.length:=by have:=(bG.mp e).1;rwa[eG] at this
   rw[cz hl] at e;cases e;exact⟨x,cz (by rw[W.len];exact hl),h⟩
  .rw[br hij] at e⊢;exact W.ok j t e
 apart:=λj k a f as c g cs l e1 e2=>by
  by_cases hj:i=j
  .subst hj;have hl:i<ρ.length:=by have:=(bG.mp e1).1;rwa[eG] at this
   rw[cz hl] at e1;cases e1;rw[br l] at e2;exact O a f as rfl k c g cs (bX l) e2
  .by_cases hk:i=k
   .subst hk;have hl:i<ρ.length:=by have:=(bG.mp e2).1;rwa[eG] at this
    rw[cz hl] at e2;cases e2;rw[br hj] at e1;exact(O c g cs rfl j a f as l e1).symm
   .rw[br hj] at e1;rw[br hk] at e2;exact W.apart j k a f as c g cs l e1 e2
 dD:=λj k a f as c g cs l e1 e2=>by
  by_cases hj:i=j
  .subst hj;have hl:i<ρ.length:=by have:=(bG.mp e1).1;rwa[eG] at this
   rw[cz hl] at e1;cases e1;rw[br l] at e2;exact hd a f as rfl k c g cs (bX l) e2
  .by_cases hk:i=k
   .subst hk;have hl:i<ρ.length:=by have:=(bG.mp e2).1;rwa[eG] at this
    rw[cz hl] at e2;cases e2;rw[br hj] at e1;exact(hd c g cs rfl j a f as l e1).symm
   .rw[br hj] at e1;rw[br hk] at e2;exact W.dD j k a f as c g cs l e1 e2
 bR:=λj k c t l e1 e2 a ha=>by
  by_cases hj:i=j
  .subst hj;have hl:i<ρ.length:=by have:=(bG.mp e1).1;rwa[eG] at this
   rw[cz hl] at e1;cases e1;rw[br l] at e2;exact b a ha k t (bX l) e2 (.inl ⟨c,rfl⟩)
  .by_cases hk:i=k
   .subst hk;have hl:i<ρ.length:=by have:=(bG.mp e2).1;rwa[eG] at this
    rw[cz hl] at e2;cases e2;rw[br hj] at e1;exact λz=>b a z j (.cu c) l e1 (.inr ⟨c,rfl⟩) ha
   .rw[br hj] at e1;rw[br hk] at e2;exact W.bR j k c t l e1 e2 a ha
theorem Wd.jA(W:Wd G nb ρ σ H)(h:ah (G.S nb f) H d v):Wd G nb (ρ.set i (.d f d)) (σ.set i (some v)) H:=W.set ⟨v,rfl,h⟩ λ_ _ _ e=>by cases e
inductive Wk:Rh->Rh->Prop
 |nil:Wk [] []
 |no {s:Sl} {r r':Rh} (h:Wk r r'):Wk (.no::r) (s::r')
 |eq {s:Sl} {r r':Rh} (h:Wk r r'):Wk (s::r) (s::r')
theorem Wk.at:∀{r r':Rh} {i:Nat} {s:Sl},Wk r r'->r[i]?=some s->s= .no/\(∃t,r'[i]?=some t)\/r'[i]?=some s
 |_,_,_,_, .nil,e=>by simp at e
 |_,_,0,_, .no h,e=>by simp at e;subst e;exact .inl ⟨rfl,_,rfl⟩
 |_,_,0,_, .eq h,e=>by simp at e;subst e;exact .inr rfl
 |_,_,i+1,_, .no h,e=>by simpa using Wk.at (i:=i) h (by simpa using e)
 |_,_,i+1,_, .eq h,e=>by simpa using Wk.at (i:=i) h (by simpa using e)
theorem Wk.len{r r':Rh}(h:Wk r r'):r.length=r'.length:=by
 induction h with
 |nil=>rfl
 |no _ ih=>simp[ih]
 |eq _ ih=>simp[ih]
theorem Wd.wk{r:Rh}(W:Wd G nb r σ H)(h:Wk ρ r):Wd G nb ρ σ H where
 aj:=W.aj
 live:=W.live
 old:=W.old
 bP:=W.bP
 gA:=W.gA
 len:=by rw[h.len];exact W.len
 gB:=W.gB
 dX:=W.dX
 ok:=λi s e=>by
  rcases h.at e with ⟨rfl,t,e'⟩|e'
  .obtain⟨x,e1,_⟩:=W.ok i t e';exact⟨x,e1,trivial⟩
  .exact W.ok i s e'
 apart:=λi j a f as c g cs hij e1 e2=>by
  rcases h.at e1 with ⟨z,_⟩|kH
  .cases z
  rcases h.at e2 with ⟨z,_⟩|e2'
  .cases z
  exact W.apart i j a f as c g cs hij kH e2'
 dD:=λi j a f as c g cs hij e1 e2=>by
  rcases h.at e1 with ⟨z,_⟩|kH
  .cases z
  rcases h.at e2 with ⟨z,_⟩|e2'
  .cases z
  exact W.dD i j a f as c g cs hij kH e2'
 bR:=λi j c s hij e1 e2 a ha=>by
  rcases h.at e1 with ⟨z,_⟩|kH
  .cases z
  rcases h.at e2 with ⟨z,_⟩|e2'
  .subst z;exact λz=>by cases z
  exact W.bR i j c s hij kH e2' a ha
theorem Wd.more(W:Wd G nb ρ σ H)(hp:H p=none){o:HO}:Wd G (λa=>nb a\/a=p) ρ σ (upd H p o):=by
 have N:cR H (upd H p o):=cP hp;have hN:NB G.B p:=λb l e z=>by
  subst z;obtain⟨_,_,_,_,_,h1,_⟩:=W.aj _ _ e;rw[h1] at hp;cases hp
 have W':=W.step (Step.same W.aj N);have hA:∀f a,G.S (λa=>nb a\/a=p) f a->(G.S nb f a\/a=p):=λf a z=>by
  rcases z with (z|z)|z|z|z
  .exact .inl (.inl z)
  .exact .inr z
  .exact .inl (.inr (.inl z))
  .exact .inl (.inr (.inr (.inl z)))
  .exact .inl (.inr (.inr (.inr z)))
 refine⟨W'.aj,λa n=>?_,W'.old,λa n q=>?_,W.gA,W.len,W.gB,λh m=>(((W.dX h m).fresh hp).av (hA h.1)).keep (aP.of N),λi s e=>?_,W.apart,W.dD,W.bR⟩
 .rcases n with n|n
  .exact W'.live a n
  .subst n;rw[aY];exact gU _
 .rcases n with n|n
  .exact W.bP a n q
  .subst n;cases e:G.H0 a with
   |none=>rfl
   |some o=>rw[W.old a o q e] at hp;cases hp
 .obtain⟨x,e1,h⟩:=W.ok i s e;refine⟨x,e1,?_⟩;cases s with
  |no=>trivial
  |d f d=>obtain⟨v,e,h⟩:=h;exact⟨v,e,((h.fresh hp).av (hA f)).keep (aP.of N)⟩
  |own a f ds=>obtain⟨e,n,q,xs,hx,hd⟩:=h;exact⟨e, .inl n,q,xs,N _ _ hx,((hd.fresh hp).av (hA f)).keep (aP.of N)⟩
  |aj=>exact h
  |raw v=>exact h
  |bF a f ds=>obtain⟨e,n,q,xs,hx,hd⟩:=h;exact⟨e, .inl n,q,xs,N _ _ hx,((hd.fresh hp).av (hA f)).keep (aP.of N)⟩
  |cu c=>obtain⟨e,n,q⟩:=h;exact⟨e,λa ha=>⟨.inl (n a ha).1,(n a ha).2⟩,c.keep (.of λa o _ e=>N a o e) (c.av (hA c.f) (c.fresh hp q))⟩
theorem Wd.write(W:Wd G nb ρ σ H){o:HO}(hp:nb p)(hN:NB G.B p)(ho:∀(i:Nat) a f ds,ρ[i]?=some (.own a f ds)->a≠p)(g:∀(i:Nat) a f ds,ρ[i]?=some (.bF a f ds)->a≠p)(t:∀(i:Nat) c,ρ[i]?=some (.cu c)->p∉c.F):Wd G nb ρ σ (upd H p o):=by
  have hl:∀b l,G.B=some (b,l)->p≠l:=λb l e z=>by
    obtain⟨_,_,_,_,_,_,h2,_⟩:=W.gB b l e;rw[<-z,W.bP p hp hN] at h2;cases h2
  have M:iP G.B (upd H p o):=λb l e=>(W.aj b l e).put2 ⟨hN b l e,hl b l e⟩;have bt:∀f,aP (G.S nb f) H (upd H p o):=λf=>aP.set (.inl hp);refine⟨M,λa n=>?_,λa o' n e=>?_,W.bP,W.gA,W.len,W.gB,λh m=>(W.dX h m).keep (bt h.1),λi s e=>?_,W.apart,W.dD,W.bR⟩
  · by_cases z:a=p
    · subst z;rw[aY];exact gU _
    · rw[bA z];exact W.live a n
  · have z:a≠p:=λz=>by subst z;rw[W.bP a hp n] at e;cases e
    rw[bA z];exact W.old a o' n e
  · obtain⟨x,e1,h⟩:=W.ok i s e
    refine⟨x,e1,?_⟩;cases s with
    |no=>trivial
    |d f d=>obtain⟨v,e,h⟩:=h;exact⟨v,e,h.keep (bt f)⟩
    |own a f ds=>obtain⟨e',n,q,xs,hx,hd⟩:=h;exact⟨e',n,q,xs,by rw[bA (ho i a f ds e)];exact hx,hd.keep (bt f)⟩
    |aj=>exact h
    |raw v=>exact h
    |bF a f ds=>obtain⟨e',n,q,xs,hx,hd⟩:=h;exact⟨e',n,q,xs,by rw[bA (g i a f ds e)];exact hx,hd.keep (bt f)⟩
    | cu c =>
      obtain⟨e',n,q⟩:=h;refine⟨e',n,c.keep (.of λa o' ha j=>?_) q⟩;rw[bA];· exact j
      · rintro rfl
        rcases ha with ha|ha
        · exact ha (.inl hp)
        · exact t i c e ha
end
abbrev Pd:=Bool->PyData->Prop
def Ev(G:Gx)(ρ:Rh)(te:TE)(Φ:Pd):Prop:=∀nb σ H (Q:VK),Wd G nb ρ σ H->(∀f v H' d,Φ f d->Step G.B H H'->ah (G.S nb f) H' d v->Q v H')->te σ H Q
def aC(G:Gx)(ρ:Rh)(te:TE)(Φ:Bool->List PyData->Prop):Prop:=∀nb σ H (Q:VK),Wd G nb ρ σ H->
 (∀f a xs H' ds,Φ f ds->Step G.B H H'->H a=none->H' a=some (.lst xs)->af (λx=>G.S nb f x\/x=a) H' ds xs->Q (.ref a) H')->te σ H Q
def Tv(G:Gx)(ρ:Rh)(a:TT)(Φ:Bool->Prop):Prop:=∀nb σ H (Q:Bool->Hp->Prop),Wd G nb ρ σ H->(∀b H',Φ b->Step G.B H H'->Q b H')->a σ H Q
def Ov(G:Gx)(ρ:Rh)(to:TO)(Φ:Option Int->Prop):Prop:=∀nb σ H (Q:Option Int->Hp->Prop),Wd G nb ρ σ H->(∀o H',Φ o->Step G.B H H'->Q o H')->to σ H Q
noncomputable abbrev Fd:=Bool×PyData
def iO(G:Gx)(nb:aw->Prop)(H:Hp):List Fd->List V->Prop
 |[],vs=>vs=[]
 |e::es,vs=>∃v ws,vs=v::ws/\ah (G.S nb e.1) H e.2 v/\iO G nb H es ws
def Av(G:Gx)(ρ:Rh)(ta:TA)(Φ:List Fd->Prop):Prop:=∀nb σ H (Q:List V->Hp->Prop),Wd G nb ρ σ H->(∀es vs H',Φ es->Step G.B H H'->iO G nb H' es vs->Q vs H')->ta σ H Q
def Gv(G:Gx)(ρ:Rh)(g:TG)(f:Bool)(d:PyData)(Φ:Rh->Prop):Prop:=∀nb σ H v (Q:qr->Hp->Prop),Wd G nb ρ σ H->ah (G.S nb f) H d v->(∀C r,Φ r->Wd G nb r C H->Q C H)->g v σ H Q
def jV(G:Gx)(ρ:Rh)(g:gX)(f:Bool)(ds:List PyData)(Φ:Rh->Prop):Prop:=∀nb σ H vs (Q:qr->Hp->Prop),Wd G nb ρ σ H->af (G.S nb f) H ds vs->(∀C r,Φ r->Wd G nb r C H->Q C H)->g vs σ H Q
structure DE where
 nx:Rh->Prop
 rt:Pd
 bk:Rh->Prop:=λ_=>False
 ct:Rh->Prop:=λ_=>False
 rw:(aw->Prop)->Rh->V->Hp->Prop:=λ_ _ _ _=>False
structure zq(G:Gx)(E:DE)(D:Ends):Prop where
 nx:∀nb ρ σ H,E.nx ρ->Wd G nb ρ σ H->D.nx σ H
 bk:∀nb ρ σ H,E.bk ρ->Wd G nb ρ σ H->D.bk σ H
 ct:∀nb ρ σ H,E.ct ρ->Wd G nb ρ σ H->D.ct σ H
 rt:∀nb ρ σ f v H d,E.rt f d->Wd G nb ρ σ H->ah (G.S (λ_=>False) f) H d v->D.rt v H
 rw:∀nb ρ σ v H,E.rw nb ρ v H->Wd G nb ρ σ H->D.rt v H
def Sv(G:Gx)(ρ:Rh)(b:TS)(E:DE):Prop:=∀nb σ H D,Wd G nb ρ σ H->zq G E D->b D σ H
noncomputable def iV:PyData->Bool
 | .none=>true| .bool _=>true| .int _=>true| .str _=>true|_=>false
noncomputable def toV:PyData->V
 | .bool b=> .bl b| .int i=> .int i| .str x=> .str x|_=> .aD
section
variable{nb ay:aw->Prop}{H H':Hp}{d e:PyData}{v:V}
theorem ah.sc(h:iV d=true):ah nb H d (toV d):=by
 cases d<;>first|(cases h;done)|(unfold ah;rfl)
theorem ah.SA(h:iV d=true)(q:ah nb H d v):v=toV d:=by
 cases d<;>first|(cases h;done)|(unfold ah at q;exact q)
theorem ah.kr(h:iV d=true)(q:ah nb H d v):ah ay H' d v:=by
 rw[q.SA h];exact .sc h
theorem af.kr:∀{ds:List PyData} {xs:List V},ds.all iV=true->af nb H ds xs->af ay H' ds xs
  |[],_,_,q=>by unfold af at q⊢;exact q
  | d :: ds, _, h, q => by
    rw[n5,ez] at h;unfold af at q⊢;obtain⟨y,ys,e,h1,h2⟩:=q;exact⟨y,ys,e,h1.kr h.1,af.kr h.2 h2⟩
end
section
variable{G:Gx}{ρ:Rh}{Φ Ψ:Pd}{ta tb te:TE}{t:TA}{i:Nat}{f g:Bool}{d e:PyData}{ds es:List PyData}{K:PySem.W.Frag}
theorem Ev.mono(h:Ev G ρ te Ψ)(q:∀f d,Ψ f d->Φ f d):Ev G ρ te Φ:=λnb σ H Q W z=>h nb σ H Q W λf v H' d p=>z f v H' d (q f d p)
theorem aC.ev(h:aC G ρ te λf ds=>Φ f (.list ds)):Ev G ρ te Φ:=λnb σ H Q W z=>h nb σ H Q W λf a xs H' ds p st n e hd=>
 z f _ H' _ p st (.lst (W.fresh n) e (hd.av λ_ x=> .inl x))
namespace Ev
theorem var(e:ρ[i]?=some (.d f d))(h:Φ f d):Ev G ρ (bE i) Φ:=λnb σ H Q W z=>by
 obtain⟨x,e1,v,rfl,hd⟩:=W.ok i _ e;exact⟨v,e1,z f v H d h (.refl W.aj) hd⟩
theorem int{n:Int}(h:Φ true (.int n)):Ev G ρ (tC (.int n)) Φ:=λnb σ H Q W z=>z true _ H _ h (.refl W.aj) (.int n)
theorem aD(h:Φ true .none):Ev G ρ (tC .aD) Φ:=λnb σ H Q W z=>z true _ H _ h (.refl W.aj) .aD
theorem ja{r:R2}(h:Ev G ρ ta λf x=>Ev G ρ tb λg y=>∀nb σ H u v (Q:VK),Wd G nb ρ σ H->ah (G.S nb f) H x u->ah (G.S nb g) H y v->(∀f w H' d,Φ f d->Step G.B H H'->ah (G.S nb f) H' d w->Q w H')->r u v H Q):Ev G ρ (c8 r ta tb) Φ:=λnb σ H Q W z=>
 h nb σ H _ W λf a H1 d1 k s1 J=>k nb σ H1 _ (W.step s1) λg v2 H2 d2 p2 s2 q2=>p2 nb σ H2 _ _ _ ((W.step s1).step s2) (J.keep s2.cE) q2 λf w H' d p st q=>z f w H' d p (s1.trans (s2.trans st)) q
theorem rI{C:Int->Int->Prop}{k:Int->Int->Int}(h:Ev G ρ ta λ_ x=>∃i,x= .int i/\Ev G ρ tb λ_ y=>∃j,y= .int j/\C i j/\Φ true (.int (k i j))):Ev G ρ (c8 (L2.rI C λi j=> .int (k i j)) ta tb) Φ:=
 ja (h.mono λf x ⟨i,ex,q⟩=>q.mono λg y ⟨j,b,hc,p⟩ nb σ H u v Q W F hv z=>by
  subst ex b;exact⟨i,j,F.bM,hv.bM,hc,z true _ H _ p (.refl W.aj) (.int _)⟩)
theorem g7{k:Int->Int->Int}(h:Ev G ρ ta λ_ x=>∃i,x= .int i/\Ev G ρ tb λ_ y=>∃j,y= .int j/\Φ true (.int (k i j))):Ev G ρ (c8 (L2.g7 λi j=> .int (k i j)) ta tb) Φ:=
 ja (h.mono λf x ⟨i,ex,q⟩=>q.mono λg y ⟨j,b,p⟩ nb σ H u v Q W F hv z=>by
  subst ex b;exact⟨i,j,F.bM,hv.bM,z true _ H _ p (.refl W.aj) (.int _)⟩)
theorem S5{k:Int->Int->Bool}(h:Ev G ρ ta λ_ x=>∃i,x= .int i/\Ev G ρ tb λ_ y=>∃j,y= .int j/\Φ true (.bool (k i j))):Ev G ρ (c8 (L2.g7 λi j=> .bl (k i j)) ta tb) Φ:=
 ja (h.mono λf x ⟨i,ex,q⟩=>q.mono λg y ⟨j,b,p⟩ nb σ H u v Q W F hv z=>by
  subst ex b;exact⟨i,j,F.bM,hv.bM,z true _ H _ p (.refl W.aj) (.bl _)⟩)
theorem un{r:V->Hp->VK->Prop}(h:Ev G ρ ta λf x=>∀nb σ H u (Q:VK),Wd G nb ρ σ H->ah (G.S nb f) H x u->(∀f w H' d,Φ f d->Step G.B H H'->ah (G.S nb f) H' d w->Q w H')->r u H Q):Ev G ρ (DP r ta) Φ:=λnb σ H Q W z=>
 h nb σ H _ W λf a H1 d1 k s1 J=>k nb σ H1 _ _ (W.step s1) J λf w H' d p st q=>z f w H' d p (s1.trans st) q
end Ev
inductive gn:PyData->PyData->Bool->Prop
 |ii (i j:Int):gn (.int i) (.int j) (decide (i=j))
 |ni (i:Int):gn .none (.int i) false
 |VG (i:Int):gn (.int i) .none false
 |nn:gn .none .none true
 |bb (a b:Bool):gn (.bool a) (.bool b) (a==b)
 |ss (x:Str):gn (.str x) (.str x) true
 |sd (x y:Str):gn (.str x) (.str y) (decide (x=y))
theorem gn.v{nb ay:aw->Prop}{H:Hp}{x y:PyData}{b:Bool}{u v:V}(h:gn x y b)(F:ah nb H x u)(hv:ah ay H y v):CC u v=true/\decide (u=v)=b:=by
 cases h<;>(unfold ah at F hv;subst F hv;refine⟨rfl,?_⟩);·exact R.Bd
 .rfl
 .rfl
 .rfl
 .rename_i a b;cases a<;>cases b<;>rfl
 .exact decide_eq_true rfl
 .rename_i x y
  by_cases c:x=y;·subst c;rw[decide_eq_true rfl,decide_eq_true rfl]
  .rw[decide_eq_false c,decide_eq_false (λz=>c (V.str.inj z))]
theorem gn.self{d:PyData}(h:iV d=true):gn d d true:=by
 cases d<;>first|(cases h;done)|skip
 .exact .nn
 .rename_i b;have:=gn.bb b b;rwa[beq_self_eq_true] at this
 .rename_i i;have:=gn.ii i i;rwa[decide_eq_true rfl] at this
 .exact .ss _
namespace Ev
theorem eq(h:Ev G ρ ta λ_ x=>Ev G ρ tb λ_ y=>∃b,gn x y b/\Φ true (.bool b)):Ev G ρ (c8 AG ta tb) Φ:=
 ja (h.mono λf x q=>q.mono λg y ⟨b,e,p⟩ nb σ H u v Q W F hv z=>by
  obtain⟨h1,h2⟩:=e.v F hv;exact⟨h1,by rw[h2];exact z true _ H _ p (.refl W.aj) (.bl _)⟩)
theorem ne(h:Ev G ρ ta λ_ x=>Ev G ρ tb λ_ y=>∃b,gn x y b/\Φ true (.bool !b)):Ev G ρ (c8 yM ta tb) Φ:=
 ja (h.mono λf x q=>q.mono λg y ⟨b,e,p⟩ nb σ H u v Q W F hv z=>by
  obtain⟨h1,h2⟩:=e.v F hv;exact⟨h1,by rw[h2];exact z true _ H _ p (.refl W.aj) (.bl _)⟩)
theorem Ky{c:Bool}(h:Ev G ρ ta λ_ x=>Ev G ρ tb λ_ y=>cK x=true/\cK y=true/\Φ true (.bool (eA x y !=c))):Ev G ρ (c8 (yT c) ta tb) Φ:=
 ja (h.mono λf x q=>q.mono λg y ⟨h1,h2,p⟩ nb σ H u v Q W F hv z=>
  ⟨G.S nb false,x,y,F.av (bJ (λz=>by cases z) λ_ z=>z),hv.av (bJ (λz=>by cases z) λ_ z=>z),h1,h2,z true _ H _ p (.refl W.aj) (.bl _)⟩)
end Ev
noncomputable def uN:PyData->Bool
 | .none=>true
 |_=>false
theorem Fe{d:PyData}{v:V}(h:ah nb H d v):decide (v= .aD)=uN d:=by
 cases d<;>unfold ah at h
 all_goals first
  |(subst h;rfl)
  |(obtain⟨a,xs,rfl,_⟩:=h;rfl)
  |exact h.elim
namespace Ev
theorem is(h:Ev G ρ ta λ_ x=>Φ true (.bool (uN x))):Ev G ρ (c8 DM ta (tC .aD)) Φ:=
 ja (h.mono λf x p=>Ev.aD λnb σ H u v Q W F hv z=>⟨hv.uI,by rw[Fe F];exact z true _ H _ p (.refl W.aj) (.bl _)⟩)
theorem Sk(h:Ev G ρ ta λ_ x=>Φ true (.bool !uN x)):Ev G ρ (c8 sD ta (tC .aD)) Φ:=
 ja (h.mono λf x p=>Ev.aD λnb σ H u v Q W F hv z=>⟨hv.uI,by rw[Fe F];exact z true _ H _ p (.refl W.aj) (.bl _)⟩)
end Ev
theorem af.bB{nb:aw->Prop}{H:Hp}{ds:List PyData}{xs:List V}{k:Int}{e:PyData}(h:af nb H ds xs)(q:L2.bB ds k=some e):∃v,L2.bB xs k=some v/\ah nb H e v:=by
 unfold L2.bB at q⊢;rw[h.length];cases z:gF ds.length k with
 |none=>rw[z] at q;cases q
 |some j=>rw[z] at q;exact h.get q
namespace Ev
theorem Q3(h:Ev G ρ ta λf x=>∃ds,x= .list ds/\Ev G ρ tb λ_ y=>∃k,y= .int k/\∃e,bB ds k=some e/\Φ f e):Ev G ρ (c8 (cO K) ta tb) Φ:=
 ja (h.mono λf x ⟨ds,ex,q⟩=>q.mono λg y ⟨k,b,e,he,p⟩ nb σ H u v Q W F hv z=>by
  subst ex b;obtain⟨a,xs,rfl,n,hx,hd⟩:=F.dY;obtain⟨w,hw,l⟩:=hd.bB he;exact⟨a,xs,k,w,rfl,hv.bM, .of hx,hw,z f _ H _ p (.refl W.aj) l⟩)
theorem BR(h:Ev G ρ ta λf x=>∃ds,x= .tuple ds/\Ev G ρ tb λ_ y=>∃k,y= .int k/\∃e,bB ds k=some e/\Φ f e):Ev G ρ (c8 (e7 K) ta tb) Φ:=
 ja (h.mono λf x ⟨ds,ex,q⟩=>q.mono λg y ⟨k,b,e,he,p⟩ nb σ H u v Q W F hv z=>by
  subst ex b;obtain⟨a,xs,rfl,n,hx,hd⟩:=F.ofT;obtain⟨w,hw,l⟩:=hd.bB he;exact⟨a,xs,k,w,rfl,hv.bM, .of hx,hw,z f _ H _ p (.refl W.aj) l⟩)
theorem OP(e:ρ[i]?=some (.own a f ds))(h:Ev G ρ tb λ_ y=>∃k,y= .int k/\∃e,bB ds k=some e/\Φ f e):Ev G ρ (c8 (cO K) (bE i) tb) Φ:=λnb σ H Q W z=>by
 obtain⟨x,e1,h1,h2,h3,xs,hx,hd⟩:=W.ok i _ e;subst h1;refine⟨.ref a,e1,h nb σ H _ W λg w H1 y ⟨k,b,e',he,p⟩ s1 hv=>?_⟩;subst b;obtain⟨u,F,l⟩:=(hd.keep s1.cE).bB he;exact⟨a,xs,k,u,rfl,hv.bM, .of (s1.1 _ _ h3 hx),F,z f _ H1 _ p s1 l⟩
theorem Az(h:Ev G ρ ta λ_ x=>∃b,x= .bool b/\if b=true then Ev G ρ tb Φ else Φ true (.bool false)):Ev G ρ (sG ta tb) Φ:=λnb σ H Q W z=>
 h nb σ H _ W λf v H1 d ⟨b,e,q⟩ s1 hv=>by
  subst e;refine⟨b,by unfold ah at hv;exact hv,?_⟩;cases b with
  |true=>rw[if_pos rfl] at q⊢;exact q nb σ H1 _ (W.step s1) λf v H' d p st=>z f v H' d p (s1.trans st)
  |false=>rw[if_neg cT] at q⊢;exact z true _ H1 _ q s1 (.bl false)
theorem xZ{c:TT}(h:Tv G ρ c λb=>if b=true then Ev G ρ ta Φ else Ev G ρ tb Φ):Ev G ρ (yd c ta tb) Φ:=λnb σ H Q W z=>
 h nb σ H _ W λb H1 q s1=>by
  cases b with
  |true=>rw[if_pos rfl] at q⊢;exact q nb σ H1 _ (W.step s1) λf v H' d p st=>z f v H' d p (s1.trans st)
  |false=>rw[if_neg cT] at q⊢;exact q nb σ H1 _ (W.step s1) λf v H' d p st=>z f v H' d p (s1.trans st)
end Ev
namespace Tv
variable{Θ:Bool->Prop}{t u:TT}
theorem test(h:Ev G ρ te λ_ x=>∃b,x= .bool b/\Θ b):Tv G ρ (CA te) Θ:=λnb σ H Q W z=>
 h nb σ H _ W λf v H1 d ⟨b,e,q⟩ s1 hv=>by subst e;exact⟨b,by unfold ah at hv;exact hv,z b H1 q s1⟩
theorem and(h:Tv G ρ t λb=>if b=true then Tv G ρ u Θ else Θ false):Tv G ρ (Ay t u) Θ:=λnb σ H Q W z=>
 h nb σ H _ W λb H1 q s1=>by
  cases b with
  |true=>rw[if_pos rfl] at q⊢;exact q nb σ H1 _ (W.step s1) λb H' p st=>z b H' p (s1.trans st)
  |false=>rw[if_neg cT] at q⊢;exact z false H1 q s1
theorem or(h:Tv G ρ t λb=>if b=true then Θ true else Tv G ρ u Θ):Tv G ρ (yv t u) Θ:=λnb σ H Q W z=>
 h nb σ H _ W λb H1 q s1=>by
  cases b with
  |false=>rw[if_neg cT] at q⊢;exact q nb σ H1 _ (W.step s1) λb H' p st=>z b H' p (s1.trans st)
  |true=>rw[if_pos rfl] at q⊢;exact z true H1 q s1
theorem not(h:Tv G ρ t λb=>Θ (!b)):Tv G ρ (Cy t) Θ:=λnb σ H Q W z=>h nb σ H _ W λb H1 q s1=>z _ H1 q s1
theorem BH(h:Θ true):Tv G ρ p7 Θ:=λnb σ H Q W z=>z true H h (.refl W.aj)
end Tv
def t7(K:PySem.W.Frag)(ta:TE):TT:=λσ H Q=>ta σ H λx H1=>∃k,AW K x H1 k/\Q k H1
theorem Tv.m8{Θ:Bool->Prop}(h:Ev G ρ te λ_ x=>∃b,x= .bool b/\Θ b):Tv G ρ (t7 K te) Θ:=λnb σ H Q W z=>
 h nb σ H _ W λf v H1 d ⟨b,e,q⟩ s1 hv=>by subst e;exact⟨b,by unfold ah at hv;subst hv;rfl,z b H1 q s1⟩
namespace Av
variable{Θ:List Fd->Prop}
theorem nil(h:Θ []):Av G ρ bI Θ:=λnb σ H Q W z=>z [] [] H h (.refl W.aj) rfl
theorem cons(h:Ev G ρ te λf d=>Av G ρ t λes=>Θ ((f,d)::es)):Av G ρ (aV te t) Θ:=λnb σ H Q W z=>
 h nb σ H _ W λf v H1 d k s1 J=>k nb σ H1 _ (W.step s1) λes vs H2 p2 s2 q2=>z _ _ H2 p2 (s1.trans s2) ⟨v,vs,rfl,J.keep s2.cE,q2⟩
theorem OX{is:List Int}(h:Θ (is.map λi=>(true, .int i))):Av G ρ (vW is) Θ:=λnb σ H Q W z=>z _ _ H h (.refl W.aj) (by
 clear h;induction is with
 |nil=>rfl
 |cons i r ih=>exact⟨_,_,rfl, .int i,ih⟩)
end Av
noncomputable def iy(es:List Fd):Bool:=es.all (·.1)
theorem iO.all{nb:aw->Prop}{H:Hp}:∀{es:List Fd} {vs:List V} {f:Bool},iO G nb H es vs->(f=true->iy es=true)->af (G.S nb f) H (es.map (·.2)) vs
  |[],_,_,h,_=>by unfold iO at h;subst h;exact .nil
  | e :: es, _, f, h, hf => by
    obtain⟨v,ws,rfl,h1,h2⟩:=h;refine .cons (h1.av (bJ (λz=>?_) λ_ z=>z)) (h2.all λz=>?_);· have:=hf z;simp only[iy,n5,ez] at this;exact this.1
    · have:=hf z;simp only[iy,n5,ez] at this;exact this.2
theorem iO.len{es:List Fd}{vs:List V}(h:iO G nb H es vs):vs.length=es.length:=by
 have:=(h.all (f:=false) (λz=>by cases z)).length;simpa using this
namespace Ev
theorem tup(h:Av G ρ t λes=>es.length<=10000/\Φ (iy es) (.tuple (es.map (·.2)))):Ev G ρ (pe t) Φ:=λnb σ H Q W z=>
 h nb σ H _ W λes vs H1 ⟨hl,p⟩ s1 J=>⟨dZ (by rw[J.len];exact hl) ⋯,λa ha=>z _ _ _ _ p (s1.trans (.same (W.step s1).aj (cP ha)))
  (.tup ((W.step s1).fresh ha) aY ((J.all λz=>z).keep (aP.of (cP ha))))⟩
end Ev
theorem aC.lst{Φ:Bool->List PyData->Prop}(h:Av G ρ t λes=>es.length<=10000/\Φ (iy es) (es.map (·.2))):aC G ρ (oU t) Φ:=λnb σ H Q W z=>
  h nb σ H _ W λes vs H1 ⟨hl,p⟩ s1 J=>⟨dZ (by rw[J.len];exact hl) ⋯,λa ha=>by
    have W1:=W.step s1;refine z _ a vs _ _ p (s1.trans (.same W1.aj (cP ha))) ?_ aY (((J.all λz=>z).fresh ha).keep (aP.of (cP ha)));cases e:H a with
    |none=>rfl
    | some o =>
      by_cases n:NB G.B a;· rw[s1.1 a o n e] at ha;cases ha
      · exact absurd ha (NB.kL s1.2 n)⟩
theorem Ev.lst(h:Av G ρ t λes=>es.length<=10000/\Φ (iy es) (.list (es.map (·.2)))):Ev G ρ (oU t) Φ:=(aC.lst (Φ:=λf ds=>Φ f (.list ds)) h).ev
end
def fP(K:PySem.W.Frag):List V->Hp->VK->Prop:=λxs H Q=>∃p ys,xs=[.ref p]/\(aS K H p ys\/fN K H p ys)/\Q (.int ys.length) H
theorem iK:gQ X (.builtin "len") (fP X.K):=Gf
noncomputable def kZ(xs:List α)(lo hi:Option Int):List α:=(xs.drop (HT.dS xs.length 0 lo)).take (HT.dS xs.length xs.length hi-HT.dS xs.length 0 lo)
theorem af.cut{lo hi:Option Int}(h:af nb H ds xs):af nb H (kZ ds lo hi) (jQ xs lo hi):=by
 unfold kZ jQ;rw[h.length];exact(h.drop _).take _
noncomputable def eK(ds:List PyData):Bool:=ds.all iV
section
variable{G:Gx}{ρ:Rh}{Φ Ψ:Pd}{ta tb te:TE}{t:TA}{i:Nat}{f g:Bool}{d e:PyData}{ds es:List PyData}{K:PySem.W.Frag}
theorem Wd.none_of(W:Wd G nb ρ σ H)(s1:Step G.B H H1)(ha:H1 a=none):H a=none:=by
  cases e:H a with
  |none=>rfl
  | some o =>
    by_cases n:NB G.B a;· rw[s1.1 a o n e] at ha;cases ha
    · exact absurd ha (NB.kL s1.2 n)
theorem aC.fin{Q:VK}{Φ:Bool->List PyData->Prop}(W:Wd G nb ρ σ H)(s1:Step G.B H H1)(ha:H1 a=none)(hd:af (G.S nb f) H1 ds xs)(p:Φ (f||eK ds) ds)
  (z:∀f a xs H' ds,Φ f ds->Step G.B H H'->H a=none->H' a=some (.lst xs)->af (λx=>G.S nb f x\/x=a) H' ds xs->Q (.ref a) H'):Q (.ref a) (upd H1 a (.lst xs)):=by
 refine z _ a xs _ ds p (s1.trans (.same s1.2 (cP ha))) (W.none_of s1 ha) aY ?_;cases O:eK ds with
 |true=>exact af.kr O hd
 |false=>rw[nC];exact(hd.fresh ha).keep (aP.of (cP ha))
namespace Ov
variable{Θ:Option Int->Prop}
theorem none(h:Θ none):Ov G ρ Cs Θ:=λnb σ H Q W z=>z _ H h (.refl W.aj)
theorem some(h:Ev G ρ te λ_ x=>∃k,x= .int k/\Θ (some k)):Ov G ρ (yL te) Θ:=λnb σ H Q W z=>
 h nb σ H _ W λf v H1 d ⟨k,e,q⟩ s1 hv=>by subst e;exact⟨k,hv.bM,z _ H1 q s1⟩
end Ov
namespace aC
variable{Θ:Bool->List PyData->Prop}
theorem sl{tl th:TO}(h:Ev G ρ te λf x=>∃ds,x= .list ds/\Ov G ρ tl λlo=>Ov G ρ th λhi=>Θ (f||eK (kZ ds lo hi)) (kZ ds lo hi)):aC G ρ (oY (pD K) te tl th) Θ:=λnb σ H Q W z=>
 h nb σ H _ W λf v H1 d ⟨ds,e,q⟩ s1 hv=>q nb σ H1 _ (W.step s1) λlo H2 q2 s2=>q2 nb σ H2 _ ((W.step s1).step s2) λhi H3 L U=>by
  subst e;obtain⟨a,xs,rfl,n,hx,hd⟩:=((hv.keep s2.cE).keep U.cE).dY;exact⟨a,xs,rfl, .of hx,λp hp=>aC.fin W (s1.trans (s2.trans U)) hp hd.cut L z⟩
theorem listOf(h:Ev G ρ te λf x=>∃ds,(x= .list ds\/x= .tuple ds)/\Θ (f||eK ds) ds):aC G ρ (eH (iA K) (aV te bI)) Θ:=λnb σ H Q W z=>
 h nb σ H _ W λf v H1 d ⟨ds,e,q⟩ s1 hv=>by
  rcases e with e|e
  .subst e;obtain⟨a,xs,rfl,n,hx,hd⟩:=hv.dY;exact⟨a,xs,rfl, .inl (.of hx),λp hp=>aC.fin W s1 hp hd q z⟩
  .subst e;obtain⟨a,xs,rfl,n,hx,hd⟩:=hv.ofT;exact⟨a,xs,rfl, .inr (.of hx),λp hp=>aC.fin W s1 hp hd q z⟩
theorem cat(h:Ev G ρ ta λf x=>∃ds,x= .list ds/\Ev G ρ tb λg y=>∃es,y= .list es/\ds.length+es.length<=10000/\Θ ((f && g)||eK (ds++es)) (ds++es)):aC G ρ (c8 yU ta tb) Θ:=λnb σ H Q W z=>
 h nb σ H _ W λf v H1 d ⟨ds,e,q⟩ s1 hv=>q nb σ H1 _ (W.step s1) λg u H2 d2 ⟨es,e2,hl,p⟩ s2 F=>by
  subst e e2;obtain⟨a,xs,rfl,n,hx,hd⟩:=(hv.keep s2.cE).dY;obtain⟨c,ys,rfl,m,hy,hc⟩:=F.dY;refine⟨a,c,xs,ys,rfl,rfl,hx,hy,dZ (by rw[hd.length,hc.length];exact hl) ⋯,λk hp=>aC.fin (f:=f && g) W (s1.trans s2) hp ?_ p z⟩;exact af.append (hd.av (bJ (λz=>(ez _ _▸z).1) λ_ z=>z)) (hc.av (bJ (λz=>(ez _ _▸z).2) λ_ z=>z))
end aC
namespace Ev
theorem sl{tl th:TO}(h:Ev G ρ te λf x=>∃ds,x= .list ds/\Ov G ρ tl λlo=>Ov G ρ th λhi=>Φ (f||eK (kZ ds lo hi)) (.list (kZ ds lo hi))):Ev G ρ (oY (pD K) te tl th) Φ:=(aC.sl (Θ:=λf ds=>Φ f (.list ds)) h).ev
theorem listOf(h:Ev G ρ te λf x=>∃ds,(x= .list ds\/x= .tuple ds)/\Φ (f||eK ds) (.list ds)):Ev G ρ (eH (iA K) (aV te bI)) Φ:=(aC.listOf (Θ:=λf ds=>Φ f (.list ds)) h).ev
theorem cat(h:Ev G ρ ta λf x=>∃ds,x= .list ds/\Ev G ρ tb λg y=>∃es,y= .list es/\ds.length+es.length<=10000/\Φ ((f && g)||eK (ds++es)) (.list (ds++es))):Ev G ρ (c8 yU ta tb) Φ:=(aC.cat (Θ:=λf ds=>Φ f (.list ds)) h).ev
theorem JJ(e:ρ[i]?=some (.own a f ds))(h:Φ true (.int ds.length)):Ev G ρ (eH (fP K) (aV (bE i) bI)) Φ:=λnb σ H Q W z=>by
 obtain⟨x,e1,h1,h2,h3,xs,hx,hd⟩:=W.ok i _ e;subst h1;exact⟨.ref a,e1,a,xs,rfl, .inl (.of hx),by rw[hd.length];exact z true _ H _ h (.refl W.aj) (.int _)⟩
end Ev
abbrev DF:=List PyData->Pd->Prop
def c6(n:Nat)(F:DF):Sp:=λvs H Q _=>vs.length=n/\∃(nb:aw->Prop) (ds:List PyData),gE nb H/\af nb H ds vs/\F ds λf d=>∀v H',cR H H'->ah (λa=>nb a\/(f=true/\H a≠none)) H' d v->Q v H'
def gS(n:Nat)(F:DF):Sp:=λvs H Q _=>vs.length=n/\∃(b l:aw) (ws:List V) (nb:aw->Prop) (ds:List PyData),vs= .ref b::ws/\cZ H b l/\gE nb H/\nb b/\af nb H ds ws/\
 F ds λf d=>∀v H',aP (Nb b) H H'->cZ H' b l->ah (λa=>nb a\/(f=true/\H a≠none)) H' d v->Q v H'
def fm(F:DF):Prop:=∀ds (Φ Ψ:Pd),F ds Φ->(∀f d,Φ f d->Ψ f d)->F ds Ψ
theorem Ev.gv{F:DF}(hm:fm F)(h:Av G ρ t λes=>es.length=n/\F (es.map (·.2)) λf d=>Φ (f||iy es) d):Ev G ρ (gh (c6 n F) [] E0 t) Φ:=λnb σ H Q W z=>
 h nb σ H _ W λes vs H1 ⟨hl,p⟩ s1 J=>by
  have W1:=W.step s1;rw[fT];refine⟨by rw[J.len,hl],G.S nb (iy es),es.map (·.2),W1.gC,J.all λz=>z,hm _ _ _ p λf d hp v H' b hd=>z _ v H' d hp (s1.trans (.same W1.aj b)) (hd.av λa q=>?_)⟩;cases f with
  |false=>rw[nL] at q;exact .inl q
  |true=>exact .inr ⟨rfl,W1.gC a q⟩
theorem Step.vz{l:aw}(M:G.B=some (b,l))(bt:aP (Nb b) H H')(c:cZ H' b l):Step G.B H H':=
 ⟨λa o n e=>bt a o (n b l M) e,λw y e=>by rw[M] at e;cases e;exact c⟩
theorem Wd.rm(W:Wd G nb ρ σ H)(e:ρ[i]?=some .aj):∃b l,G.B=some (b,l)/\σ[i]?=some (some (.ref b))/\cZ H b l:=by
 obtain⟨x,e1,b,l,M,rfl⟩:=W.ok i _ e;exact⟨b,l,M,e1,W.aj b l M⟩
theorem Ev.kR{F:DF}(hm:fm F)(e:ρ[i]?=some .aj)(h:Av G ρ t λes=>es.length+1=n/\F (es.map (·.2)) λf d=>Φ (f||iy es) d):Ev G ρ (gh (gS n F) [] E0 (aV (bE i) t)) Φ:=λnb σ H Q W z=>by
 obtain⟨b,l,M,e1,B⟩:=W.rm e;refine⟨.ref b,e1,h nb σ H _ W λes vs H1 ⟨hl,p⟩ s1 J=>?_⟩;have W1:=W.step s1;show gS n F ((V.ref b::vs)++[]) H1 Q E0;rw[fT];have hb:∀f,G.S nb f b:=λf=> .inr (.inr (.inl λn=>n b l M rfl));refine⟨by rw[cH,J.len,hl],b,l,vs,G.S nb (iy es),es.map (·.2),rfl,W1.aj b l M,W1.gC,hb _,J.all λz=>z,hm _ _ _ p λf d hp v H' bt c hd=>z _ v H' d hp (s1.trans (.vz M bt c)) (hd.av λa q=>?_)⟩;cases f with
 |false=>rw[nL] at q;exact .inl q
 |true=>exact .inr ⟨rfl,W1.gC a q⟩
theorem Ev.draw(e:ρ[i]?=some .aj)(h:Ev G ρ te λ_ x=>∃m:Int,x= .int m/\0<m/\Sm m/\∀r:Int,0<=r->r<m->Φ true (.int r)):Ev G ρ (gh j5 [] E0 (aV (bE i) (aV te bI))) Φ:=λnb σ H Q W z=>by
 obtain⟨b,l,M,e1,B⟩:=W.rm e;refine⟨.ref b,e1,h nb σ H _ W λf v H1 d ⟨m,a,h1,h2,p⟩ s1 hv=>?_⟩;subst a;exact⟨b,l,m,by rw[hv.bM];rfl,s1.2 b l M,h1,h2,λr H' C N bt c=>z true _ H' _ (p r C N) (s1.trans (.vz M bt c)) (.int r)⟩
theorem Ev.total(h:Av G ρ t λes=>∃(p:Int) (prs:List (Int×Int)) (wd:List (Option Int)),es.map (·.2)=[.int p, .list (prs.map ru), .list (wd.map gx)]/\0<p/\(∀pr∈prs,0<=pr.1/\pr.1<wd.length/\Sm pr.2)/\(∀x,some x∈wd->Sm x)/\Φ true (.int (bH prs wd%p))):
  Ev G ρ (gh Cw [] E0 t) Φ:=λnb σ H Q W z=>
 h nb σ H _ W λes vs H1 ⟨p,prs,wd,e,h1,h2,h3,q⟩ s1 J=>by
  have hd:=J.all (f:=false) (λz=>by cases z);rw[e] at hd;unfold af at hd;obtain⟨y,ys,rfl,d1,hd⟩:=hd;unfold af at hd;obtain⟨y2,ys,rfl,d2,hd⟩:=hd;unfold af at hd;obtain⟨a,ys,rfl,c,hd⟩:=hd;unfold af at hd;subst hd;exact⟨G.S nb false,p,y2,a,prs,wd,by rw[d1.bM];rfl,d2,c,h1,h2,h3,z true _ H1 _ q s1 (.int _)⟩
theorem Ev.whole(h:Ev G ρ te λ_ x=>∃n,x= .int n/\Φ true (.bool true)):Ev G ρ (gh MV [] E0 (aV te bI)) Φ:=λnb σ H Q W z=>
 h nb σ H _ W λf v H1 d ⟨n,e,q⟩ s1 hv=>by subst e;exact⟨n,by rw[hv.bM];rfl,z true _ H1 _ q s1 (.bl _)⟩
namespace Gv
variable{Θ:Rh->Prop}
theorem name(h:Θ (ρ.set i (.d f d))):Gv G ρ (eV i) f d Θ:=λnb σ H v Q W hv z=>z _ _ h (W.jA hv)
theorem vJ(h:Θ (ρ.set i (.d false d))):Gv G ρ (eV i) f d Θ:=λnb σ H v Q W hv z=>z _ _ h (W.jA (hv.av (bJ (λz=>by cases z) λ_ z=>z)))
theorem CK(O:iV d=true)(h:Θ (ρ.set i (.d true d))):Gv G ρ (eV i) f d Θ:=λnb σ H v Q W hv z=>z _ _ h (W.jA (hv.kr O))
theorem n6{n:Int}(h:Θ (ρ.set i (.d true (.int n)))):Gv G ρ (eV i) f (.int n) Θ:=CK rfl h
theorem Q6{n:Bool}(h:Θ (ρ.set i (.d true (.bool n)))):Gv G ρ (eV i) f (.bool n) Θ:=CK rfl h
theorem LS(h:Θ (ρ.set i (.d true .none))):Gv G ρ (eV i) f .none Θ:=CK rfl h
theorem tup{n:Nat}{u:gX}(hl:ds.length=n)(h:jV G ρ u f ds Θ):Gv G ρ (vX K n u) f (.tuple ds) Θ:=λnb σ H v Q W hv z=>by
 obtain⟨a,xs,rfl,m,hx,hd⟩:=hv.ofT;exact⟨a,xs,rfl, .of hx,by rw[hd.length];exact hl,h nb σ H xs Q W hd z⟩
theorem Uh(h:Θ ρ):jV G ρ yq f [] Θ:=λnb σ H vs Q W hv z=>by unfold af at hv;exact⟨hv,z _ _ h W⟩
theorem Uj{u:TG}{us:gX}(h:Gv G ρ u f d λg=>jV G g us f ds Θ):jV G ρ (Ar u us) f (d::ds) Θ:=λnb σ H vs Q W hv z=>by
 unfold af at hv;obtain⟨y,ys,rfl,h1,h2⟩:=hv;exact⟨y,ys,rfl,h nb σ H y _ W h1 λC r q W'=>q nb C H ys Q W' h2 z⟩
end Gv
namespace Sv
variable{E:DE}{s u:TS}
theorem seq(h:Sv G ρ s {E with nx:=λg=>Sv G g u E}):Sv G ρ (jR s u) E:=λnb σ H D W K=>h nb σ H _ W ⟨λay r C H' q W'=>q ay C H' D W' K,K.bk,K.ct,K.rt,K.rw⟩
theorem next(h:E.nx ρ):Sv G ρ Co E:=λnb σ H D W K=>K.nx nb ρ σ H h W
theorem brk(h:E.bk ρ):Sv G ρ Nq E:=λnb σ H D W K=>K.bk nb ρ σ H h W
theorem cont(h:E.ct ρ):Sv G ρ UZ E:=λnb σ H D W K=>K.ct nb ρ σ H h W
theorem asg{g:TG}(h:Ev G ρ te λf d=>Gv G ρ g f d E.nx):Sv G ρ (fk te g) E:=λnb σ H D W K=>h nb σ H _ W λf v H1 d q s1 hv=>q nb σ H1 v _ (W.step s1) hv λC r p W'=>K.nx nb r C H1 p W'
theorem setC(h:Ev G ρ te λf d=>E.nx (ρ.set i (.d f d))):Sv G ρ (rS i te) E:=λnb σ H D W K=>h nb σ H _ W λf v H1 d q s1 hv=>K.nx nb _ _ H1 q ((W.step s1).jA hv)
theorem LB(h:Ev G ρ te λ_ d=>E.nx (ρ.set i (.d false d))):Sv G ρ (rS i te) E:=λnb σ H D W K=>h nb σ H _ W λf v H1 d q s1 hv=>K.nx nb _ _ H1 q ((W.step s1).jA (hv.av (bJ (λz=>by cases z) λ_ z=>z)))
theorem drop(h:Ev G ρ te λ_ _=>E.nx ρ):Sv G ρ (sr te) E:=λnb σ H D W K=>h nb σ H _ W λf v H1 d q s1 hv=>K.nx nb ρ σ H1 q (W.step s1)
theorem ret(h:Ev G ρ te E.rt):Sv G ρ (lG te) E:=λnb σ H D W K=>h nb σ H _ W λf v H1 d q s1 hv=>K.rt nb ρ σ f v H1 d q (W.step s1) (hv.av (bJ (λz=>z) λ_ z=>z.elim))
theorem j8{c:TT}(h:Tv G ρ c λb=>if b=true then Sv G ρ s E else Sv G ρ u E):Sv G ρ (qy c s u) E:=λnb σ H D W K=>h nb σ H _ W λb H1 q s1=>by
 cases b with
 |true=>rw[if_pos rfl] at q⊢;exact q nb σ H1 D (W.step s1) K
 |false=>rw[if_neg cT] at q⊢;exact q nb σ H1 D (W.step s1) K
theorem AS(W:Wd G nb ρ σ H)(s1:Step G.B H H1)(ha:H a=none)(e:H1 a=some (.lst xs))(hd:af (λx=>G.S nb f x\/x=a) H1 ds xs):
    Wd G (λx=>nb x\/x=a) (ρ.set i (.own a f ds)) (σ.set i (some (.ref a))) H1:=by
  have hN:NB G.B a:=λb l e z=>by
    subst z;obtain⟨_,_,_,_,_,h1,_⟩:=W.aj _ _ e;rw[h1] at ha;cases ha
  have hA:∀f x,G.S (λx=>nb x\/x=a) f x->(G.S nb f x\/x=a):=λf x z=>by
    rcases z with (z|z)|z|z|z
    · exact .inl (.inl z)
    · exact .inr z
    · exact .inl (.inr (.inl z))
    · exact .inl (.inr (.inr (.inl z)))
    · exact .inl (.inr (.inr (.inr z)))
  have W1:=W.step s1;have W2:Wd G (λx=>nb x\/x=a) ρ σ H1:=by
    refine⟨W1.aj,λx n=>?_,W1.old,λx n q=>?_,W.gA,W.len,W.gB,λh m=>(((W.dX h m).fresh ha).keep (s1.but λx z=> .inl (.inr (.inr (.inl z))))).av (hA h.1),λj s e'=>?_,W.apart,W.dD,W.bR⟩
    · rcases n with n|n
      · exact W1.live x n
      · subst n;rw[e];exact gU _
    · rcases n with n|n
      · exact W.bP x n q
      · subst n
        cases z:G.H0 x with
        |none=>rfl
        |some o=>rw[W.old x o q z] at ha;cases ha
    · obtain⟨x,e1,h⟩:=W.ok j s e'
      refine⟨x,e1,?_⟩;cases s with
      |no=>trivial
      |d f d=>obtain⟨v,e,h⟩:=h;exact⟨v,e,((h.fresh ha).keep (s1.but λx z=> .inl (.inr (.inr (.inl z))))).av (hA f)⟩
      |own c f es=>obtain⟨e,n,q,xs,hx,hd⟩:=h;exact⟨e, .inl n,q,xs,s1.1 _ _ q hx,((hd.fresh ha).keep (s1.but λx z=> .inl (.inr (.inr (.inl z))))).av (hA f)⟩
      |aj=>exact h
      |raw v=>exact h
      |bF c f es=>obtain⟨e,n,q,xs,hx,hd⟩:=h;exact⟨e, .inl n,q,xs,s1.1 _ _ q hx,((hd.fresh ha).keep (s1.but λx z=> .inl (.inr (.inr (.inl z))))).av (hA f)⟩
      | cu c =>
        obtain⟨e,n,q⟩:=h;refine⟨e,λa ha=>⟨.inl (n a ha).1,(n a ha).2⟩,c.av (hA c.f) (c.keep (.of λx o hx e=>s1.1 x o ?_ e) (c.fresh ha q))⟩;rcases hx with hx|hx
        · exact i9 λz=>hx (.inl (.inr (.inr (.inl z))))
        · exact(n x hx).2
  refine W2.set ⟨rfl, .inr rfl,hN,xs,e,hd.av (hA f)⟩ ?_ (λ_ _ _ z=>by cases z) (λx hx j t hj ht hc=>?_)
  rotate_left
  · have hx:x=a:=aJ.mp hx
    subst hx;rcases hc with ⟨c,z⟩|⟨c,rfl⟩
    · cases z
    · exact λz=>W.live x ((W.ok j _ ht).choose_spec.2.2.1 x z).1 ha
  rintro a' f' ds' ⟨rfl,rfl,rfl⟩ j c g cs hj hc z;subst z;obtain⟨x,e1,h1,h2,h3,ys,hy,_⟩:=W.ok j _ hc;rw[hy] at ha;cases ha
theorem oX(h:aC G ρ te λf ds=>∀a,E.nx (ρ.set i (.own a f ds))):Sv G ρ (fk te (eV i)) E:=λnb σ H D W K=>h nb σ H _ W λf a xs H1 ds q s1 ha e hd=>K.nx _ _ _ H1 (q a) (AS W s1 ha e hd)
theorem LJ(h:aC G ρ te λf ds=>∀a,E.nx (ρ.set i (.own a f ds))):Sv G ρ (rS i te) E:=λnb σ H D W K=>h nb σ H _ W λf a xs H1 ds q s1 ha e hd=>K.nx _ _ _ H1 (q a) (AS W s1 ha e hd)
theorem uo(W:Wd G nb ρ σ H)(e:ρ[i]?=some (.own a f ds))(hd:af (G.S nb g) H es xs):Wd G nb (ρ.set i (.own a g es)) σ (upd H a (.lst xs)):=by
  obtain⟨x,e1,h1,h2,h3,ys,hy,_⟩:=W.ok i _ e;subst h1;have r:i<ρ.length:=(bG.mp e).1;have W0:Wd G nb (ρ.set i .no) (σ.set i (some (.ref a))) H:=W.set trivial λ_ _ _ z=>by cases z
  have W1:Wd G nb (ρ.set i .no) (σ.set i (some (.ref a))) (upd H a (.lst xs)):=W0.write h2 h3 (λj c w cs hc=>by
    by_cases hij:i=j;· subst hij;rw[cz r] at hc;cases hc
    · rw[br hij] at hc
      exact(W.apart i j _ _ _ _ _ _ hij e hc).symm
   ) (λj c w cs hc z => by
      subst z;have hij:i≠j:=λz=>by subst z;rw[cz r] at hc;cases hc
      rw[br hij] at hc;obtain⟨_,_,_,_,_,ps,hp,_⟩:=W.ok j _ hc;rw[hy] at hp;cases hp) (λj c hc z=>by
      have hij:i≠j:=λz=>by subst z;rw[cz r] at hc;cases hc
      rw[br hij] at hc;exact W.bR j i c _ (bX hij) hc e a z (aJ.mpr rfl))
  have W2:=W1.set (i:=i) (s:= .own a g es) (x:=some (.ref a)) ⟨rfl,h2,h3,xs,aY,hd.keep (aP.set (.inl h2))⟩ (by
    rintro a' w ds' ⟨rfl,rfl,rfl⟩ j c g' cs hj hc;rw[br (bX hj)] at hc;exact W.apart i j _ _ _ _ _ _ (bX hj) e hc) (λ_ _ _ z=>by cases z) (λx hx j t hj ht hc z=>by
    rw[br (bX hj)] at ht;have hx:x=a:=aJ.mp hx;subst hx;rcases hc with ⟨c,q⟩|⟨c,rfl⟩
    · cases q
    · exact W.bR j i c _ hj ht e x z (aJ.mpr rfl))
  rw[j4,j4] at W2;have:σ.set i (some (.ref a))=σ:=by
    apply i6;intro j;by_cases hij:i=j;· subst hij;rw[cz (by rw[W.len];exact r),e1]
    · rw[br hij]
  rwa[this] at W2
theorem append(e:ρ[i]?=some (.own a f ds))(h:Ev G ρ te λg d=>ds.length<10000/\E.nx (ρ.set i (.own a (f && g) (ds++[d])))):Sv G ρ (sr (mj K "list" ES (bE i) (aV te bI))) E:=λnb σ H D W KK=>by
 obtain⟨x,e1,h1,h2,h3,xs,hx,hd⟩:=W.ok i _ e;subst h1;refine⟨.ref a,e1, .inl ⟨rfl,_,aS.of hx⟩,h nb σ H _ W λg v H1 d ⟨hl,q⟩ s1 hv=>?_⟩;have W1:=W.step s1;have EI:=s1.1 _ _ h3 hx;refine⟨a,xs,v,rfl,rfl,EI,fJ (by rw[hd.length];exact hl) ⋯,KK.nx nb _ _ _ q (uo W1 e ?_)⟩;exact af.snoc (hv.av (bJ (λz=>(ez _ _▸z).2) λ_ z=>z)) ((hd.keep s1.cE).av (bJ (λz=>(ez _ _▸z).1) λ_ z=>z))
theorem af.set'{nb:aw->Prop}{H:Hp}{x:V}(hd:ah nb H d x):∀{ds:List PyData} {xs:List V} (j:Nat),af nb H ds xs->af nb H (ds.set j d) (xs.set j x)
 |[],_,j,h=>by unfold af at h;subst h;exact .nil
 |e::ds,_,0,h=>by unfold af at h;obtain⟨y,ys,rfl,h1,h2⟩:=h;exact .cons hd h2
 |e::ds,_,j+1,h=>by unfold af at h;obtain⟨y,ys,rfl,h1,h2⟩:=h;exact .cons h1 (af.set' hd j h2)
theorem ud(e:ρ[i]?=some (.own a f ds))(h:Ev G ρ te λg d=>Ev G ρ tb λ_ y=>∃k j,y= .int k/\gF ds.length k=some j/\E.nx (ρ.set i (.own a (f && g) (ds.set j d)))):Sv G ρ (fk te (pV (bE i) tb rJ)) E:=λnb σ H D W KK=>
 h nb σ H _ W λg v H1 d q s1 hv=>by
  obtain⟨x,e1,h1,h2,h3,xs,hx,hd⟩:=(W.step s1).ok i _ e;subst h1;refine⟨.ref a,e1,q nb σ H1 _ (W.step s1) λg' u H2 y ⟨k,j,b,hj,p⟩ s2 F=>?_⟩;subst b;have W2:=(W.step s1).step s2;refine⟨a,xs,k,j,rfl,F.bM,s2.1 _ _ h3 hx,by rw[hd.length];exact hj,KK.nx nb _ _ _ p (uo W2 e ?_)⟩;exact af.set' ((hv.keep s2.cE).av (bJ (λz=>(ez _ _▸z).2) λ_ z=>z)) j ((hd.keep s2.cE).av (bJ (λz=>(ez _ _▸z).1) λ_ z=>z))
theorem share(W:Wd G nb ρ σ H)(e:ρ[i]?=some (.own a f ds)):Wd G (λx=>nb x/\x≠a) (ρ.set i (.d f (.list ds))) σ H:=by
  obtain⟨x,e1,h1,h2,h3,xs,hx,hd⟩:=W.ok i _ e;subst h1;have r:i<ρ.length:=(bG.mp e).1;have W0:Wd G nb (ρ.set i .no) (σ.set i (some (.ref a))) H:=W.set trivial λ_ _ _ z=>by cases z
  have W1:Wd G (λx=>nb x/\x≠a) (ρ.set i .no) (σ.set i (some (.ref a))) H:=by
    refine⟨W0.aj,λx n=>W0.live x n.1,W0.old,λx n=>W0.bP x n.1,W0.gA,W0.len,W0.gB,λh m=>(W0.dX h m).av (bJ (λz=>z) λ_ z=>z.1),λj s e'=>?_,W0.apart,W0.dD,W0.bR⟩;obtain⟨x,kH,h⟩:=W0.ok j s e';refine⟨x,kH,?_⟩;have hij:s≠ .no->i≠j:=λn z=>by subst z;rw[cz r] at e';cases e';exact n rfl
    cases s with
    |no=>trivial
    |d f d=>obtain⟨v,e,h⟩:=h;exact⟨v,e,h.av (bJ (λz=>z) λ_ z=>z.1)⟩
    | own c f es =>
      obtain⟨e2,n,q,xs,hx,hd⟩:=h;have hij:=hij (by intro z;cases z);rw[br hij] at e';exact⟨e2,⟨n,(W.apart i j _ _ _ _ _ _ hij e e').symm⟩,q,xs,hx,hd.av (bJ (λz=>z) λ_ z=>z.1)⟩
    |aj=>exact h
    |raw v=>exact h
    | bF c f es =>
      obtain⟨e2,n,q,ps,hp,hd⟩:=h;have t:c≠a:=λz=>by subst z;rw[hx] at hp;cases hp
      exact⟨e2,⟨n,t⟩,q,ps,hp,hd.av (bJ (λz=>z) λ_ z=>z.1)⟩
    | cu c =>
      obtain⟨e2,n,q⟩:=h;have hij:=hij (by intro z;cases z);rw[br hij] at e';exact⟨e2,λx hx=>⟨⟨(n x hx).1,λz=>W.bR j i c _ (bX hij) e' e x hx (by rw[z];exact aJ.mpr rfl)⟩,(n x hx).2⟩,c.av (bJ (λz=>z) λ_ z=>z.1) q⟩
  have W2:=W1.jA (i:=i) (f:=f) (d:= .list ds) (v:= .ref a) (.lst (λz=>by
    rcases z with z|z|z|z
    · exact z.2 rfl
    · exact W.gA a z (W.bP a h2 h3)
    · exact z h3
    · exact z.2 (W.bP a h2 h3)) hx (hd.av (bJ (λz=>z) λ_ z=>z.1)))
  rw[j4,j4] at W2;have:σ.set i (some (.ref a))=σ:=by
    apply i6;intro j;by_cases hij:i=j;· subst hij;rw[cz (by rw[W.len];exact r),e1]
    · rw[br hij]
  rwa[this] at W2
theorem l8(i:Nat)(e:ρ[i]?=some (.own a f ds))(h:Sv G (ρ.set i (.d f (.list ds))) s E):Sv G ρ s E:=λnb σ H D W K=>h _ σ H D (share W e) K
theorem wk{r:Rh}(w:Wk r ρ)(h:Sv G r s E):Sv G ρ s E:=λnb σ H D W K=>h nb σ H D (W.wk w) K
end Sv
end
noncomputable abbrev Gx.hd(G:Gx)(f:Bool)(d:PyData)(v:V):Gx:={G with hold:=(f, .d d,v)::G.hold}
section
variable{G:Gx}{ρ eS:Rh}{Φ Ψ:Pd}{ta tb te:TE}{t:TA}{i:Nat}{f g:Bool}{d e:PyData}{ds es:List PyData}{K:PySem.W.Frag}
theorem Wd.hd{nb:aw->Prop}{σ:qr}{H:Hp}{v:V}(W:Wd G nb ρ σ H)(h:ah (G.S nb f) H d v):Wd (G.hd f d v) nb ρ σ H:=
 ⟨W.aj,W.live,W.old,W.bP,W.gA,W.len,W.gB,λx m=>by
  rcases aO.mp m with e|m
  .subst e;exact h
  .exact W.dX x m,λi s e=>by
   obtain⟨x,e1,h⟩:=W.ok i s e;refine⟨x,e1,?_⟩;cases s<;>exact h,W.apart,W.dD,W.bR⟩
theorem Wd.oz{v:V}(W:Wd (G.hd f d v) nb ρ σ H):Wd G nb ρ σ H/\ah (G.S nb f) H d v:=
 ⟨⟨W.aj,W.live,W.old,W.bP,W.gA,W.len,W.gB,λx m=>W.dX x (cB _ m),λi s e=>by
   obtain⟨x,e1,h⟩:=W.ok i s e;refine⟨x,e1,?_⟩;cases s<;>exact h,W.apart,W.dD,W.bR⟩,W.dX _ (cQ ..)⟩
namespace Sv
variable{E:DE}{s:TS}{gt:TG}
def sR(G:Gx)(ρ:Rh)(n:Nat)(it:Nat->PyData->Prop)(fi:Bool)(gt:TG)(s:TS)(E:DE):Prop:=
 ∃I:Nat->Rh->Prop,I 0 ρ/\(∀i d r,it i d->I i r->Gv G r gt fi d λg=>Sv G g s {nx:=I (i+1),rt:=E.rt,bk:=E.nx,ct:=I (i+1),rw:=E.rw})/\∀r,I n r->E.nx r
theorem Hr{lo:Int}(W:Wd G nb ρ σ H)(KK:zq G E D)(h:sR G ρ n (λi d=>i<n/\d= .int (lo+i)) true gt s E):
  ∃W:Nat->Nat->qr->Hp->Prop,(∃m,W 0 m σ H)/\∀i m σ H,W i m σ H->
   ((i8 lo n).stop i H/\D.nx σ H)\/((i8 lo n).go i H/\∃N:qr->Hp->Prop,(∀C H',N C H'->∃M,M<m/\W (i+1) M C H')/\∀x H',(i8 lo n).m5 i H x H'->gt x σ H' λc H2=>s {D with nx:=N,ct:=N,bk:=D.nx} c H2):=by
 obtain⟨I,h0,ht,he⟩:=h;refine C9 (λi σ H=>∃nb ρ',I i ρ'/\Wd G nb ρ' σ H) ⟨nb,ρ,h0,W⟩ ?_ ?_
 .rintro i σ H hi ⟨nb,ρ',hI,W⟩;refine ht i _ ρ' ⟨hi,rfl⟩ hI nb σ H _ _ W (.int _) λc g q W2=>q nb c H _ W2 ?_;exact⟨λnb ρ σ H q W=>⟨nb,ρ,q,W⟩,KK.nx,λnb ρ σ H q W=>⟨nb,ρ,q,W⟩,KK.rt,KK.rw⟩
 .rintro σ H ⟨nb,ρ',hI,W⟩;exact KK.nx nb ρ' σ H (he ρ' hI) W
theorem wg(h:Ev G ρ te λ_ x=>∃n:Int,x= .int n/\ -(2^62)<=n/\n<2^62/\sR G ρ n.toNat (λi d=>i<n.toNat/\d= .int (0+i)) true gt s E):Sv G ρ (qf (wR (aV te bI)) gt s) E:=λnb σ H D W KK=>
 h nb σ H _ W λf v H1 x ⟨n,ex,h1,h2,q⟩ s1 hv=>by
  subst ex;rw[hv.bM];exact⟨n,rfl,h1,h2,Hr (W.step s1) KK q⟩
theorem Jh(h:Ev G ρ ta λ_ x=>∃m:Int,x= .int m/\Ev G ρ tb λ_ y=>∃n:Int,y= .int n/\(-(2^62)<=m/\m<2^62/\ -(2^62)<=n/\n<2^62)/\sR G ρ (n-m).toNat (λi d=>i<(n-m).toNat/\d= .int (m+i)) true gt s E):Sv G ρ (qf (yZ (aV ta (aV tb bI))) gt s) E:=λnb σ H D W KK=>
 h nb σ H _ W λf v H1 x ⟨m,ex,q⟩ s1 hv=>q nb σ H1 _ (W.step s1) λw u H2 y ⟨n,b,hb,q⟩ s2 F=>by
  subst ex b;rw[hv.bM,F.bM];exact⟨m,n,rfl,hb,Hr ((W.step s1).step s2) KK q⟩
theorem forL(h:Ev G ρ te λf x=>∃ds,x= .list ds/\∀v,sR (G.hd f (.list ds) v) ρ ds.length (λi d=>ds[i]?=some d) f gt s E):Sv G ρ (qf (qV K te) gt s) E:=λnb σ H D W KK=>
 h nb σ H _ W λf v H1 x ⟨ds,ex,q⟩ s1 hv=>by
  subst ex;obtain⟨I,h0,ht,he⟩:=q v;have W1:=(W.step s1).hd hv;obtain⟨a,xs,rfl,n,hx,hd⟩:=hv.dY;have key:∀{nb r σ H},Wd (G.hd f (.list ds) (.ref a)) nb r σ H->∃xs,H a=some (.lst xs)/\af (G.S nb f) H ds xs:=λW=>by
   obtain⟨k,j,e',_,h',d'⟩:=W.oz.2.dY;cases e';exact⟨j,h',d'⟩
  refine⟨a,rfl,⟨xs, .of hx⟩,?_⟩;refine⟨λi m σ H=>m=ds.length-i/\i<=ds.length/\∃nb r,I i r/\Wd (G.hd f (.list ds) (.ref a)) nb r σ H,⟨ds.length,by simp,iE _,nb,ρ,h0,W1⟩,?_⟩;rintro i m σ H ⟨rfl,hi,nb,r,hI,W⟩;obtain⟨ys,hy,l⟩:=key W;have hl:=l.length;by_cases B:i<ds.length
  .refine .inr ⟨⟨ys,ys[i]'∅, .of hy,aA _⟩,λσ H=>∃nb r,I (i+1) r/\Wd (G.hd f (.list ds) (.ref a)) nb r σ H,λC H' q=>⟨ds.length-(i+1),∅,rfl,B,q⟩,λx H' y=>?_⟩;obtain⟨e,y⟩:=y;subst e;have hx:=y ys (.of hy);obtain⟨M,L,dx⟩:=l.get (aA B);rw[hx] at L;cases L
   refine ht i _ r (aA B) hI nb σ _ _ _ W dx λc g q W2=>q nb c _ _ W2 ?_;exact⟨λnb ρ σ H q W=>⟨nb,ρ,q,W⟩,λnb ρ σ H q W=>KK.nx nb ρ σ H q W.oz.1,λnb ρ σ H q W=>⟨nb,ρ,q,W⟩,λnb ρ σ f v H d q W hv=>KK.rt nb ρ σ f v H d q W.oz.1 hv,λnb ρ σ v H q W=>KK.rw nb ρ σ v H q W.oz.1⟩
  .have e:i=ds.length:=∅
   subst e;exact .inl ⟨⟨ys, .of hy,∅⟩,KK.nx nb r σ H (he r hI) W.oz.1⟩
theorem D8{c:TT}(I:Rh->Prop)(a:Rh->Nat)(h0:I ρ)(h:∀r,I r->Tv G r c λb=>if b=true then Sv G r s {nx:=λg=>I g/\a g<a r,rt:=E.rt,bk:=E.nx,ct:=λg=>I g/\a g<a r,rw:=E.rw} else E.nx r):Sv G ρ (A0 c s) E:=λnb σ H D W KK=>by
  refine⟨λm σ H=>∃nb r,I r/\Wd G nb r σ H/\m=a r,⟨_,nb,ρ,h0,W,rfl⟩,?_⟩;rintro m σ H ⟨nb,r,hI,W,rfl⟩;refine h r hI nb σ H _ W λb H1 q s1=>?_;cases b with
  | true =>
    rw[if_pos rfl] at q⊢;refine⟨λC H'=>∃nb g,(I g/\a g<a r)/\Wd G nb g C H',λC H' ⟨nb,g,⟨J,q2⟩,W2⟩=>⟨a g,q2,nb,g,J,W2,rfl⟩,q nb σ H1 _ (W.step s1) ?_⟩;exact⟨λnb ρ σ H q W=>⟨nb,ρ,q,W⟩,KK.nx,λnb ρ σ H q W=>⟨nb,ρ,q,W⟩,KK.rt,KK.rw⟩
  |false=>rw[if_neg cT] at q⊢;exact KK.nx nb r σ H1 q (W.step s1)
end Sv
noncomputable def kE(mp:List (Option Nat))(ρ:Rh):Rh:=mp.map λo=>match o with|none=> .no|some j=>match ρ[j]? with|some s=>s|none=> .no
theorem Bm(h:(mp.filterMap id).Nodup):∀{i j k:Nat},mp[i]?=some (some k)->mp[j]?=some (some k)->i=j:=by
  induction mp with
  |nil=>intro i j k e;simp at e
  | cons o r ih =>
    intro i j k e1 e2;have hr:(r.filterMap id).Nodup:=by
      cases o with
      |none=>simpa using h
      |some x=>rw[FQ (by rfl)] at h;exact(eW.mp h).2
    have hn:∀{m:Nat},r[m]?=some (some k)->o≠some k:=λ{m} hm e=>by
      subst e;rw[FQ (by rfl)] at h;exact(eW.mp h).1 (z7.mpr ⟨some k,dz hm,rfl⟩)
    cases i with
    | zero =>
      cases j with
      |zero=>rfl
      |succ j=>simp at e1 e2;exact absurd e1 (hn e2)
    | succ i =>
      cases j with
      |zero=>simp at e1 e2;exact absurd e2 (hn e1)
      |succ j=>simp at e1 e2;rw[ih hr e1 e2]
theorem Wd.gm{nb:aw->Prop}{σ:qr}{H:Hp}{mp:List (Option Nat)}(W:Wd G nb ρ σ H)(hm:(mp.filterMap id).Nodup):Wd G nb (kE mp ρ) (gm mp σ) H:=by
  have hat:∀{i:Nat} {s:Sl},(kE mp ρ)[i]?=some s->s= .no\/∃k,mp[i]?=some (some k)/\ρ[k]?=some s:=λ{i s} e=>by
    unfold kE at e;rw[bC] at e;obtain⟨o,ho,e⟩:=oS.mp e;cases o with
    |none=>exact .inl e.symm
    | some k =>
      cases hk:ρ[k]? with
      |none=>simp only[hk] at e;exact .inl e.symm
      |some s'=>simp only[hk] at e;subst e;exact .inr ⟨k,ho,hk⟩
  refine⟨W.aj,W.live,W.old,W.bP,W.gA,by unfold L2.gm kE;rw[ao,ao],W.gB,W.dX,λi s e=>?_,λi j a f as c g cs hij e1 e2=>?_,λi j a f as c g cs hij e1 e2=>?_,λi j c t hij e1 e2 a ha=>?_⟩
  · have hi:i<mp.length:=by have:=(bG.mp e).1;unfold kE at this;rwa[ao] at this
    rcases hat e with rfl|⟨k,hk,hs⟩
    · exact⟨_,by unfold L2.gm;rw[bC,aA hi];rfl,trivial⟩
    · obtain⟨x,e1,h⟩:=W.ok k s hs
      refine⟨x,?_,h⟩;unfold L2.gm;rw[bC,hk];simp only[Option.map_some,e1]
  · rcases hat e1 with z|⟨k,hk,hs⟩
    · cases z
    rcases hat e2 with z|⟨k',hk',hs'⟩
    · cases z
    exact W.apart k k' a f as c g cs (λz=>by subst z;exact hij (Bm hm hk hk')) hs hs'
  · rcases hat e1 with z|⟨k,hk,hs⟩
    · cases z
    rcases hat e2 with z|⟨k',hk',hs'⟩
    · cases z
    exact W.dD k k' a f as c g cs (λz=>by subst z;exact hij (Bm hm hk hk')) hs hs'
  · rcases hat e1 with z|⟨k,hk,hs⟩
    · cases z
    rcases hat e2 with z|⟨k',hk',hs'⟩
    · subst z;exact λz=>by cases z
    exact W.bR k k' c t (λz=>by subst z;exact hij (Bm hm hk hk')) hs hs' a ha
def Ej(ρ:Rh)(acc:aw):Prop:=(∀(j:Nat) a f ds,ρ[j]?=some (.own a f ds)->a≠acc)/\∀(j:Nat) c,ρ[j]?=some (.cu c)->acc∉c.F
def BU(G:Gx)(eS:Rh)(n:Nat)(it:Nat->PyData->Prop)(fi:Bool)(gt:TG)(tc:TT)(te:TE)(Θ:Bool->List PyData->Prop):Prop:=
 ∃(fl:Bool) (I:Nat->List PyData->Prop),I 0 []/\(∀i d ds,it i d->ds.length<=i->I i ds->Gv G eS gt fi d λg=>Wk eS g/\Tv G g tc λb=>if b=true then Ev G g te λf e=>(fl=true->f=true)/\I (i+1) (ds++[e]) else I (i+1) ds)/\
  ∀ds,ds.length<=n->I n ds->Θ (fl||eK ds) ds
theorem G7{gt:TG}{x:V}{fi fl:Bool}{N:qr->Hp->Prop}{ds:List PyData}(hn:n<=10000)(hi:i<n)
    (W:Wd G nb eS σ H) (ha:nb acc) (hN:NB G.B acc) (hno:Ej eS acc) (st:Step G.B H1 H) (m:H1 acc=none) (hx:H acc=some (.lst xs)) (hd:af (G.S nb fl) H ds xs) (hl:ds.length<=i) (k:ah (G.S nb fi) H d x)
    (h:Gv G eS gt fi d λg=>Wk eS g/\Tv G g tc λb=>if b=true then Ev G g te λf e=>(fl=true->f=true)/\I (i+1) (ds++[e]) else I (i+1) ds)
    (z:∀σ' H' ds' xs',Wd G nb eS σ' H'->Step G.B H1 H'->H' acc=some (.lst xs')->af (G.S nb fl) H' ds' xs'->ds'.length<=i+1->I (i+1) ds'->N σ' H'):
    gt x σ H λc H2=>tc c H2 λb H3=>if b=true then te c H3 λv H4=>∃ys,H4 acc=some (.lst ys)/\ys.length<sizeLine/\N c (upd H4 acc (.lst (ys++[v]))) else N c H3:=by
  refine h nb σ H x _ W k λc g ⟨wk,q⟩ W2=>q nb c H _ W2 λb H3 L U=>?_;have uv:=U.1 _ _ hN hx;have wC:=hd.keep (U.cE (nb:=nb) (f:=fl));cases b with
  | false =>
    rw[if_neg cT] at L⊢;exact z c H3 ds xs ((W2.step U).wk wk) (st.trans U) uv wC ∅ L
  | true =>
    rw[if_pos rfl] at L⊢;refine L nb c H3 _ (W2.step U) λf v H4 e ⟨hf,hI⟩ s4 hv=>?_;have Es:=s4.1 _ _ hN uv;have SO:=wC.keep (s4.cE (nb:=nb) (f:=fl));have hlen:=hd.length;refine⟨xs,Es,fJ (show xs.length<10001 by omega) ⋯,?_⟩;have W4:Wd G nb eS c H4:=((W2.step U).step s4).wk wk;have bt:aP (G.S nb fl) H4 (upd H4 acc (.lst (xs++[v]))):=aP.set (.inl ha)
    have W5:Wd G nb eS c (upd H4 acc (.lst (xs++[v]))):=W4.write ha hN hno.1 (λj a f ds e z=>by
      subst z;obtain⟨_,_,_,_,_,ps,hp,_⟩:=W4.ok j _ e;rw[Es] at hp;cases hp) hno.2
    refine z c _ (ds++[e]) (xs++[v]) W5 ⟨λa o n q=>?_,W5.aj⟩ aY (af.snoc ((hv.av (bJ hf λ_ z=>z)).keep bt) (SO.keep bt)) (by rw[fq,o6];omega) hI;have R:a≠acc:=λz=>by subst z;rw[m] at q;cases q
    rw[bA R];exact(st.trans (U.trans s4)).1 a o n q
theorem yY(W:Wd G nb ρ σ H)(ha:H a=none):Ej ρ a:=by
 refine⟨λj c f ds e z=>?_,λj c e z=>?_⟩
 .subst z;obtain⟨x,e1,h1,h2,h3,ys,hy,_⟩:=W.ok j _ e;rw[hy] at ha;cases ha
 .obtain⟨x,e1,h1,h2,h3⟩:=W.ok j _ e;exact W.live a (h2 a z).1 ha
theorem Uq{f:Bool}:∀x,(G.S nb f x\/x=a)->G.S (λx=>nb x\/x=a) f x:=λx z=>by
 rcases z with (z|z|z|z)|z
 .exact .inl (.inl z)
 .exact .inr (.inl z)
 .exact .inr (.inr (.inl z))
 .exact .inr (.inr (.inr z))
 .exact .inl (.inr z)
theorem HW{Q:VK}{ds:List PyData}{fl:Bool}(W:Wd G nb ρ σ H)(s1:Step G.B H H1)(m:H1 acc=none)(s2:Step G.B H1 H')(hx:H' acc=some (.lst xs))(hd:af (G.S (λx=>nb x\/x=acc) fl) H' ds xs)(p:Θ (fl||eK ds) ds)
  (z:∀f a xs H' ds,Θ f ds->Step G.B H H'->H a=none->H' a=some (.lst xs)->af (λx=>G.S nb f x\/x=a) H' ds xs->Q (.ref a) H'):Q (.ref acc) H':=by
 refine z _ acc xs H' ds p (s1.trans s2) (W.none_of s1 m) hx ?_;cases O:eK ds with
 |true=>exact af.kr O hd
 |false=>rw[nC];exact hd.av Uq
theorem NB.new{B:Bg}(h:iP B H)(ha:H a=none):NB B a:=i9 λz=>NB.kL h z ha
namespace aC
variable{Θ:Bool->List PyData->Prop}{gt:TG}{tc:TT}{mp:List (Option Nat)}
theorem Ku{lo:Int}{Q:VK}(W:Wd G nb ρ σ H)(s1:Step G.B H H1)(hm:(mp.filterMap id).Nodup)(u:kE mp ρ=eS)(hn:n<=10000)(h:BU G eS n (λi d=>i<n/\d= .int (lo+i)) true gt tc te Θ)
  (z:∀f a xs H' ds,Θ f ds->Step G.B H H'->H a=none->H' a=some (.lst xs)->af (λx=>G.S nb f x\/x=a) H' ds xs->Q (.ref a) H') (acc:aw) (m:H1 acc=none):p8 (i8 lo n) gt tc te acc (λH'=>Q (.ref acc) H') (gm mp σ) (upd H1 acc (.lst [])):=by
 obtain⟨fl,I,h0,ht,he⟩:=h;have W0:Wd G nb eS (L2.gm mp σ) H1:=by rw[<-u];exact(W.step s1).gm hm
 have W1:=W0.more m (o:= .lst []);have hN:=NB.new s1.2 m;have hno:=yY W0 m;have e:Step G.B H1 (upd H1 acc (.lst [])):= .same s1.2 (cP m);refine R.Ao (λi σ H=>∃ds xs,Wd G (λx=>nb x\/x=acc) eS σ H/\Step G.B H1 H/\H acc=some (.lst xs)/\af (G.S (λx=>nb x\/x=acc) fl) H ds xs/\ds.length<=i/\I i ds) ⟨[],[],W1,e,aY, .nil,bh _,h0⟩ ?_ ?_
 .rintro i σ H hi ⟨ds,xs,W,st,hx,hd,hl,hI⟩;exact G7 hn hi W (.inr rfl) hN hno st m hx hd hl (.int _) (ht i _ ds ⟨hi,rfl⟩ hl hI) λC H' b j W' y L p hl' c=>⟨b,j,W',y,L,p,hl',c⟩
 .rintro σ H' ⟨ds,xs,W',st,hx,hd,hl,hI⟩;exact HW W s1 m st hx hd (he ds hl hI) z
theorem JP{t0:TE}(hm:(mp.filterMap id).Nodup)(u:kE mp ρ=eS)(h:Ev G ρ t0 λ_ x=>∃n:Int,x= .int n/\ -10000<=n/\n<=10000/\BU G eS n.toNat (λi d=>i<n.toNat/\d= .int (0+i)) true gt tc te Θ):aC G ρ (mP (wR (aV t0 bI)) gt tc te mp) Θ:=λnb σ H Q W z=>
 h nb σ H _ W λf v H1 x ⟨n,ex,h1,h2,q⟩ s1 hv=>by
  subst ex;rw[hv.bM];exact⟨n,rfl,∅,∅,Ku W s1 hm u ∅ q z⟩
theorem ny{t0:TE}(hm:(mp.filterMap id).Nodup)(u:kE mp ρ=eS)(h:Ev G ρ t0 λfi x=>∃es,x= .list es/\es.length<=10000/\∀v,BU (G.hd fi (.list es) v) eS es.length (λi d=>es[i]?=some d) fi gt tc te Θ):aC G ρ (mP (qV K t0) gt tc te mp) Θ:=λnb σ H Q W z=>
 h nb σ H _ W λfi v H1 x ⟨es,ex,hn,q⟩ s1 hv=>by
  subst ex;obtain⟨fl,I,h0,ht,he⟩:=q v;have W0:=(W.step s1).hd hv;obtain⟨a,xs,rfl,n,hx,hd⟩:=hv.dY;refine⟨a,rfl,⟨xs, .of hx⟩,λacc m=>?_⟩;have f:Wd (G.hd fi (.list es) (.ref a)) nb eS (L2.gm mp σ) H1:=by rw[<-u];exact W0.gm hm
  have W1:=f.more m (o:= .lst []);have hN:=NB.new s1.2 m;have hno:=yY f m;have e:Step G.B H1 (upd H1 acc (.lst [])):= .same s1.2 (cP m);have g:NB G.B a:=i9 λz=>n (.inr (.inr (.inl z)));refine R.Ef (xs:=xs) (λi σ H=>∃ds ys,Wd (G.hd fi (.list es) (.ref a)) (λx=>nb x\/x=acc) eS σ H/\Step G.B H1 H/\H acc=some (.lst ys)/\af (G.S (λx=>nb x\/x=acc) fl) H ds ys/\ds.length<=i/\I i ds) ⟨[],[],W1,e,aY, .nil,bh _,h0⟩ ?_ ?_ ?_
  .rintro i σ H hi ⟨ds,ys,W,st,_⟩;exact .of (st.1 _ _ g hx)
  .rintro i x σ H hi ⟨ds,ys,W,st,hy,p,hl,hI⟩;obtain⟨k,j,e',_,h',d'⟩:=W.oz.2.dY;cases e';rw[st.1 _ _ g hx] at h';cases h'
   have r:i<es.length:=by have:=(bG.mp hi).1;have:=d'.length;omega
   obtain⟨M,L,dx⟩:=d'.get (aA r);rw[hi] at L;cases L
   exact G7 (G:=G.hd fi (.list es) (.ref a)) hn r W (.inr rfl) hN hno st m hy p hl dx (ht i _ ds (aA r) hl hI) λC H' b j W' y L p hl' c=>⟨b,j,W',y,L,p,hl',c⟩
  .rintro σ H' ⟨ds,ys,W',st,hy,p,hl,hI⟩;rw[hd.length] at hl hI;exact HW W s1 m st hy p (he ds hl hI) z
end aC
end
section
variable{ρ:Rh}{t:TS}{N:List Str}{vs:List V}{ds:List PyData}{nb:aw->Prop}{H:Hp}{Q:VK}{Φ:Pd}{b l:aw}
theorem kG(h:af nb H ds xs){i:Nat}{s:Sl}(e:(ds.map (Sl.d false))[i]?=some s):∃v d,xs[i]?=some v/\s= .d false d/\ah nb H d v:=by
 rw[bC] at e;obtain⟨d,hd,e⟩:=oS.mp e;obtain⟨v,hv,q⟩:=h.get hd;exact⟨v,d,hv,e.symm,q⟩
theorem Sv.jY(hl:gE nb H)(hd:af nb H ds vs)(D:∀f d v H',Φ f d->cR H H'->ah (λa=>nb a\/(f=true/\H a≠none)) H' d v->Q v H')
  (u:ρ=ds.map (Sl.d false)++be (N.length-ds.length) .no) (h:Sv ⟨none,H,nb,[]⟩ ρ t {nx:=λ_=>Φ true .none,rt:=Φ}):t {nx:=λ_ H'=>Q .aD H',rt:=Q} (start N vs) H:=by
 have hlen:=hd.length;have b:∀{ay r C H'},Wd ⟨none,H,nb,[]⟩ ay r C H'->cR H H':=λW a o e=>W.old a o (λ_ _ z=>(by cases z)) e;refine h (λ_=>False) _ H _ ⟨λ_ _ z=>(by cases z),λ_ z=>z.elim,λ_ _ _ e=>e,λ_ z=>z.elim,hl,?_,λ_ _ z=>(by cases z),λ_ m=>(by cases m),λi s e=>?_,?_,?_,?_⟩ ⟨λay r C H' q W=>D _ _ _ _ q (b W) .aD,λ_ _ _ _ q _=>q.elim,λ_ _ _ _ q _=>q.elim,λay r C f v H' d q W hv=>D f d v H' q (b W) (hv.av λa z=>?_),λ_ _ _ _ _ q _=>q.elim⟩;·rw[u];unfold start;simp[hlen]
 .rw[u] at e;unfold start;by_cases hi:i<ds.length
  .rw[eO (by rw[ao];exact hi)] at e;obtain⟨v,d,hv,rfl,q⟩:=kG hd e;refine⟨some v,?_,v,rfl,q.av λa z=>?_⟩;·rw[eO (by rw[ao,hlen];exact hi),bC,hv];rfl
   .rcases z with z|z|z|z
    .exact z.elim
    .exact z
    .exact absurd (λ_ _ z=>(by cases z)) z
    .cases z.1
  .rw[eE (by rw[ao];omega),dR] at e;split at e
   .rename_i h'
    cases e;refine⟨none,?_,trivial⟩;rw[ao] at h';rw[eE (by rw[ao];omega),dR,if_pos (by rw[ao,hlen];exact h')]
   .cases e
 .intro i j a f as c g cs hij e1;rw[u] at e1;by_cases hi:i<ds.length
  .rw[eO (by rw[ao];exact hi)] at e1;obtain⟨_,_,_,z,_⟩:=kG hd e1;cases z
  .rw[eE (by rw[ao];omega),dR] at e1;split at e1<;>cases e1
 .intro i j a f as c g cs hij e1;rw[u] at e1;by_cases hi:i<ds.length
  .rw[eO (by rw[ao];exact hi)] at e1;obtain⟨_,_,_,z,_⟩:=kG hd e1;cases z
  .rw[eE (by rw[ao];omega),dR] at e1;split at e1<;>cases e1
 .intro i j c t hij e1;rw[u] at e1;by_cases hi:i<ds.length
  .rw[eO (by rw[ao];exact hi)] at e1;obtain⟨_,_,_,z,_⟩:=kG hd e1;cases z
  .rw[eE (by rw[ao];omega),dR] at e1;split at e1<;>cases e1
 .rcases z with z|z
  .exact .inr (.inl z)
  .exact .inr (.inr (.inr z))
theorem Sv.qT(M:cZ H b l)(hl:gE nb H)(hb:nb b)(hd:af nb H ds vs)(D:∀f d v H',Φ f d->aP (Nb b) H H'->cZ H' b l->ah (λa=>nb a\/(f=true/\H a≠none)) H' d v->Q v H')
    (u:ρ= .aj::ds.map (Sl.d false)++be (N.length-(ds.length+1)) .no) (h:Sv ⟨some (b,l),H,nb,[]⟩ ρ t {nx:=λ_=>Φ true .none,rt:=Φ}):t {nx:=λ_ H'=>Q .aD H',rt:=Q} (start N (.ref b::vs)) H:=by
  have hlen:=hd.length;have E:∀a,a≠b->NB (some (b,l)) a:=λa n w y e=>by cases e;exact n
  have p:∀a,¬NB (some (b,l)) a->a=b:=λa n=>i9 λz=>n (E a z);have bt:∀{ay r C H'},Wd ⟨some (b,l),H,nb,[]⟩ ay r C H'->aP (Nb b) H H':=λW a o n e=>W.old a o (E a n) e;have k:∀{ay r C H'},Wd ⟨some (b,l),H,nb,[]⟩ ay r C H'->cZ H' b l:=λW=>W.aj b l rfl;refine h (λ_=>False) _ H _ ⟨λw y e=>(by cases e;exact M),λ_ z=>z.elim,λ_ _ _ e=>e,λ_ z=>z.elim,hl,?_,λw y e=>(by cases e;exact M),λ_ m=>(by cases m),λi s e=>?_,?_,?_,?_⟩ ⟨λay r C H' q W=>D _ _ _ _ q (bt W) (k W) .aD,λ_ _ _ _ q _=>q.elim,λ_ _ _ _ q _=>q.elim,λay r C f v H' d q W hv=>D f d v H' q (bt W) (k W) (hv.av λa z=>?_),λ_ _ _ _ _ q _=>q.elim⟩;· rw[u];unfold start;simp[hlen]
  · rw[u] at e
    unfold start;cases i with
    |zero=>simp at e;subst e;exact⟨some (.ref b),by simp,b,l,rfl,rfl⟩
    | succ i =>
      simp only[jI,jn,bu,cH] at e⊢;by_cases hi:i<ds.length
      · rw[eO (by rw[ao];exact hi)] at e
        obtain⟨v,d,hv,rfl,q⟩:=kG hd e;refine⟨some v,?_,v,rfl,q.av λa z=>?_⟩;· rw[eO (by rw[ao,hlen];exact hi),bC,hv];rfl
        · rcases z with z|z|z|z
          · exact z.elim
          · exact z
          · rw[p a z];exact hb
          · cases z.1
      · rw[eE (by rw[ao];omega),dR] at e
        split at e
        · rename_i h'
          cases e;refine⟨none,?_,trivial⟩;rw[ao] at h';rw[eE (by rw[ao];omega),dR,if_pos (by rw[ao,hlen];exact h')]
        · cases e
  · intro i j a f as c g cs hij e1
    rw[u] at e1;cases i with
    |zero=>simp at e1
    | succ i =>
      simp only[jI,jn] at e1;by_cases hi:i<ds.length
      · rw[eO (by rw[ao];exact hi)] at e1
        obtain⟨_,_,_,z,_⟩:=kG hd e1;cases z
      · rw[eE (by rw[ao];omega),dR] at e1
        split at e1<;>cases e1
  · intro i j a f as c g cs hij e1
    rw[u] at e1;cases i with
    |zero=>simp at e1
    | succ i =>
      simp only[jI,jn] at e1;by_cases hi:i<ds.length
      · rw[eO (by rw[ao];exact hi)] at e1
        obtain⟨_,_,_,z,_⟩:=kG hd e1;cases z
      · rw[eE (by rw[ao];omega),dR] at e1
        split at e1<;>cases e1
  · intro i j c t hij e1
    rw[u] at e1;cases i with
    |zero=>simp at e1
    | succ i =>
      simp only[jI,jn] at e1;by_cases hi:i<ds.length
      · rw[eO (by rw[ao];exact hi)] at e1
        obtain⟨_,_,_,z,_⟩:=kG hd e1;cases z
      · rw[eE (by rw[ao];omega),dR] at e1
        split at e1<;>cases e1
  · rcases z with z|z
    · exact .inr (.inl z)
    · exact .inr (.inr (.inr z))
noncomputable def AX(b l:aw)(H:Hp):Gx:=⟨some (b,l),H,λ_=>False,[]⟩
theorem UA(M:cZ H b l):Wd (AX b l H) (λ_=>False) (.raw (.ref a):: .aj::be m .no) (some (.ref a)::some (.ref b)::be m none) H:=by
  refine⟨λw y e=>(by cases e;exact M),λ_ z=>z.elim,λ_ _ _ e=>e,λ_ z=>z.elim,λ_ z=>z.elim,by simp,λw y e=>(by cases e;exact M),λ_ m=>(by cases m),λi s e=>?_,?_,?_,?_⟩
  · match i with
    |0=>simp at e;subst e;exact⟨_,rfl,rfl⟩
    |1=>simp at e;subst e;exact⟨some (.ref b),rfl,b,l,rfl,rfl⟩
    | i + 2 =>
      simp only[jn,dR] at e⊢;split at e;· rename_i h;cases e;exact⟨none,if_pos h,trivial⟩
      · cases e
  · intro i j a f as c g cs hij e1
    match i with
    |0=>simp at e1
    |1=>simp at e1
    | i + 2 =>
      simp only[jn,dR] at e1;split at e1<;>cases e1
  · intro i j a f as c g cs hij e1
    match i with
    |0=>simp at e1
    |1=>simp at e1
    | i + 2 =>
      simp only[jn,dR] at e1;split at e1<;>cases e1
  · intro i j c t hij e1
    match i with
    |0=>simp at e1
    |1=>simp at e1
    | i + 2 =>
      simp only[jn,dR] at e1;split at e1<;>cases e1
theorem MJ(h2:∀H,D.rt (.bl true) H):zq (AX b l H) {nx:=λ_=>False,rt:=λ_ d=>d= .bool true} D:=
 ⟨λ_ _ _ _ q _=>q.elim,λ_ _ _ _ q _=>q.elim,λ_ _ _ _ q _=>q.elim,λ_ _ _ f v H d q _ hv=>by subst q;unfold ah at hv;subst hv;exact h2 H,λ_ _ _ _ _ q _=>q.elim⟩
end
namespace R
theorem di{P:Int->Prop}{i:Int}(h:P i):∃j,aF i= .int j/\P j:=⟨i,rfl,h⟩
theorem db{P:Bool->Prop}{i:Bool}(h:P i):∃j,pZ i= .bool j/\P j:=⟨i,rfl,h⟩
theorem dl{P:List PyData->Prop}{i:List PyData}(h:P i):∃j,ec i= .list j/\P j:=⟨i,rfl,h⟩
theorem dt{P:List PyData->Prop}{i:List PyData}(h:P i):∃j,gJ i= .tuple j/\P j:=⟨i,rfl,h⟩
theorem OS{P:List PyData->Prop}{i:List PyData}(h:P i):∃j,(ec i= .list j\/ec i= .tuple j)/\P j:=⟨i, .inl rfl,h⟩
theorem QS{P:List PyData->Prop}{i:List PyData}(h:P i):∃j,(gJ i= .list j\/gJ i= .tuple j)/\P j:=⟨i, .inr rfl,h⟩
theorem UC{P:Bool->Prop}{i j:Int}(h:P (decide (i=j))):∃b,gn (.int i) (.int j) b/\P b:=⟨_, .ii i j,h⟩
theorem MO{P:Bool->Prop}{x y:Bool}(h:P (x==y)):∃b,gn (.bool x) (.bool y) b/\P b:=⟨_, .bb x y,h⟩
theorem at_{k:Int}{e:PyData}{P:PyData->Prop}(h:bB ds k=some e)(q:P e):∃e,bB ds k=some e/\P e:=⟨e,h,q⟩
theorem O0{A:Prop}(q:A):([]:List Fd).length<=10000/\A:=⟨⋯,q⟩
theorem MP{C A:Prop}(c:C)(q:A):C/\A:=⟨c,q⟩
end R
theorem kD{F:DF}{vs:List V}{Q:VK}{E:XK}(h:c6 n F vs H Q E):∃(nb:aw->Prop) (ds:List PyData) (Φ:Pd),gE nb H/\af nb H ds vs/\(∀f d v H',Φ f d->cR H H'->ah (λa=>nb a\/(f=true/\H a≠none)) H' d v->Q v H')/\F ds Φ:=by
 obtain⟨_,nb,ds,h1,h2,h3⟩:=h;exact⟨nb,ds,_,h1,h2,λf d v H' q=>q v H',h3⟩
theorem rF{F:DF}{vs:List V}{Q:VK}{E:XK}(h:gS n F vs H Q E):∃(b l:aw) (ws:List V) (nb:aw->Prop) (ds:List PyData) (Φ:Pd),vs= .ref b::ws/\cZ H b l/\gE nb H/\nb b/\af nb H ds ws/\(∀f d v H',Φ f d->aP (Nb b) H H'->cZ H' b l->ah (λa=>nb a\/(f=true/\H a≠none)) H' d v->Q v H')/\F ds Φ:=by
 obtain⟨_,b,l,ws,nb,ds,e,M,h1,hb,h2,h3⟩:=h;exact⟨b,l,ws,nb,ds,_,e,M,h1,hb,h2,λf d v H' q=>q v H',h3⟩
noncomputable abbrev au:=List (Int×Int)
noncomputable abbrev Wo:=List (Option Int)
noncomputable abbrev gg(prs:au):PyData:= .list (prs.map ru)
noncomputable abbrev ff(wd:Wo):PyData:= .list (wd.map gx)
noncomputable abbrev cS(p n:Int)(cs:List au):PyData:= .tuple [.int p, .int n, .list (cs.map gg)]
def BC(prs:au)(m:Nat):Prop:=∀pr∈prs,0<=pr.1/\pr.1<m/\Sm pr.2
def iU(wd:Wo):Prop:=∀x,some x∈wd->Sm x
theorem NP{c:Type}{xs:List α}(φ:α->c){k:Int}{m:Nat}(h0:0<=k)(h1:k<m)(hm:m=xs.length):∃x,xs[k.toNat]?=some x/\bB (xs.map φ) k=some (φ x):=by
 have hk:k.toNat<xs.length:=∅
 exact⟨xs[k.toNat],aA hk,fL h0 (by rw[bC,aA hk];rfl)⟩
theorem mD{α c:Type}{xs:List α}{φ:α->c}{d:c}(h:(xs.map φ)[i]?=some d):∃x,xs[i]?=some x/\d=φ x:=by
 rw[bC] at h;obtain⟨x,hx,e⟩:=oS.mp h;exact⟨x,hx,e.symm⟩
theorem rr{α:Type}{xs:List α}{x:α}(h:xs[i]?=some x):xs.take (i+1)=xs.take i++[x]:=by
 rw[ye,h];rfl
theorem OL(o:Option Int):uN (gx o)=o.isNone:=by cases o<;>rfl
structure Eu(p b L lt r t:Int):Prop where
 l0:0<L
 r0:0<=r
 lp:L<=p
 rp:r<=p
 lc:∃k,L=lt*b+p*k
 rc:∃k,r=t*b+p*k
 dv:∀d,d∣L->d∣r->d∣p/\d∣b%p
 sz:(t.natAbs:Int)*L+(lt.natAbs:Int)*r<=p
theorem Eu.start{b:Int}(hp:2<=p):Eu p b p 0 (b%p) 1:=by
 have m1:=ig b (show p≠0 by omega);have m2:=gV b (show 0<p by omega);refine⟨∅,m1,kj _,∅,⟨1,by rw[om,sA,xA]⟩,⟨-(b/p),?_⟩,λd h1 h2=>⟨h1,h2⟩,?_⟩
 .have:=kc b p;rw[sI,p0];omega
 .show(1:Int)*p+0*(b%p)<=p;rw[sI,om];omega
theorem Eu.tb{b L lt r t:Int}(h:Eu p b L lt r t): -p<=t/\t<=p:=by
 have h1:(t.natAbs:Int)*1<=(t.natAbs:Int)*L:=yD (by have:=h.l0;omega) ∅;have h2:0<=(lt.natAbs:Int)*r:=Bs ∅ h.r0;have:=h.sz;omega
theorem Eu.next{b L lt r t:Int}(h:Eu p b L lt r t)(hr:0<r):Eu p b r t (L-L/r*r) (lt-L/r*t)/\L-L/r*r<r:=by
 have e:=kc L r;have m1:=ig L (show r≠0 by omega);have m2:=gV L hr;have e':L-L/r*r=L%r:=by rw[lZ (L/r) r];omega
 have q0:0<=L/r:=vm (by have:=h.l0;omega) ∅;obtain⟨k1,c1⟩:=h.lc;obtain⟨k2,c2⟩:=h.rc;refine⟨⟨hr,∅,h.rp,by have:=h.rp;omega,h.rc,⟨k1-L/r*k2,?_⟩,λd d1 d2=>?_,?_⟩,∅⟩
 .rw[su,ku];generalize L/r=q at*;have z:q*r=q*(t*b)+q*(p*k2):=by rw[<-vH,<-c2]
  have F:q*(t*b)=q*t*b:=(iY q t b).symm;have z2:q*(p*k2)=p*(q*k2):=by rw[<-iY,lZ q p,iY]
  omega
 .have a:d∣L:=by
   have z:d∣(L-L/r*r)+L/r*r:=Int.dvd_add d2 (Int.dvd_mul_of_dvd_right d1);have z2:(L-L/r*r)+L/r*r=L:=∅
   rwa[z2] at z
  exact h.dv d a d1
 .generalize L/r=q at*;have a1:((lt-q*t).natAbs:Int)<=(lt.natAbs:Int)+q*(t.natAbs:Int):=by
   have b1:(lt-q*t).natAbs<=lt.natAbs+(q*t).natAbs:=∅
   have b2:((q*t).natAbs:Int)=q*(t.natAbs:Int):=by
    rw[Bq];have:(q.natAbs:Int)=q:=∅
    rw[lx,this]
   omega
  have a2:((lt-q*t).natAbs:Int)*r<=((lt.natAbs:Int)+q*(t.natAbs:Int))*r:=Ba a1 ∅;have n:((lt.natAbs:Int)+q*(t.natAbs:Int))*r=(lt.natAbs:Int)*r+q*(t.natAbs:Int)*r:=sX _ _ _;have M:(t.natAbs:Int)*(L-q*r)=(t.natAbs:Int)*L-q*(t.natAbs:Int)*r:=by
   rw[ku,<-iY,lZ (t.natAbs:Int) q]
  have:=h.sz;omega
theorem Ib{α:Type}{us:List α}(h:us.length=1):∃a,us=[a]:=by
  cases us with
  |nil=>cases h
  | cons a us =>
    cases us with
    |nil=>exact⟨a,rfl⟩
    |cons _ _=>cases h
theorem ln2{α:Type}{us:List α}(h:us.length=2):∃a b,us=[a,b]:=by
  cases us with
  |nil=>cases h
  | cons a us =>
    obtain⟨b,rfl⟩:=Ib (us:=us) (vV h);exact⟨a,b,rfl⟩
theorem DC{α:Type}{us:List α}(h:us.length=3):∃a b c,us=[a,b,c]:=by
  cases us with
  |nil=>cases h
  | cons a us =>
    obtain⟨b,c,rfl⟩:=ln2 (us:=us) (vV h);exact⟨a,b,c,rfl⟩
theorem I0{α:Type}{us:List α}(h:us.length=4):∃a b c d,us=[a,b,c,d]:=by
  cases us with
  |nil=>cases h
  | cons a us =>
    obtain⟨b,c,d,rfl⟩:=DC (us:=us) (vV h);exact⟨a,b,c,d,rfl⟩
theorem J1{α:Type}{us:List α}(h:us.length=5):∃a b c d e,us=[a,b,c,d,e]:=by
  cases us with
  |nil=>cases h
  | cons a us =>
    obtain⟨b,c,d,e,rfl⟩:=I0 (us:=us) (vV h);exact⟨a,b,c,d,e,rfl⟩
section
variable{prog:bc}{w:bw}{A:cj}{R:qk->ax->Prop}{I:aw}{fp wr:List aw}{G:Array kA->Array kA->Prop}{n:Nat}{P:Nat->ae->Prop}{qr:Nat->ax->Prop}{bt:Bool}
noncomputable abbrev met(val:Nat->Int)(i:Nat):Int->Bool:=λk=>(firstMet val i).any (· ==k)
end
theorem D0:∀{ns:List Int} {us:List ae},Vals (ns.map V.int) us->ft us ns
  |[],_, .nil=> .nil
  | n :: ns, _, .cons r t => by
    obtain⟨k,rfl⟩:=r;exact .cons n k (D0 t)
theorem Dr:∀{us:List ae} {ns:List Int},ft us ns->Vals (ns.map V.int) us
 |_,_, .nil=> .nil
 |_,_, .cons k t h=> .cons ⟨t,rfl⟩ (Dr h)
theorem MH{ms:List Int}{m:Int}(nd:ms.Nodup)(h:∀k∈ms,0<=k/\k<m):ms.length<=m.toNat:=by
 have:=jD nd (l₂:=(a3 m.toNat).map λ(i:Nat)=>(i:Int)) λk hk=>by
  have:=h k hk;exact cF.mpr ⟨k.toNat,dM.mpr ∅,∅⟩
 rwa[ao,gI] at this
def HV:List V->Hp->VK->Prop:=λxs H Q=>∃j:Int,xs=[.int j]/\∀a,H a=none->Q (.ref a) (upd H a (.lA 0 j))
def yI:List V->Hp->VK->Prop:=λxs H Q=>∃(a:aw) (lo hi:Int),xs=[.ref a]/\H a=some (.lA lo hi)/\(-10000<=lo/\lo<=10000/\ -10000<=hi/\hi<=10000)/\∀l,H l=none->Q (.ref l) (upd H l (.lst (((a3 (hi-lo).toNat).map λ(i:Nat)=>lo+(i:Int)).map V.int)))
def J3(K:PySem.W.Frag):List V->Hp->VK->Prop:=λxs H Q=>∃p,∃ns:List Int,xs=[.ref p]/\aS K H p (ns.map V.int)/\Q (.int ns.sum) H
def Bx(K:PySem.W.Frag):List V->Hp->VK->Prop:=λxs H Q=>∃p,∃bs:List Bool,xs=[.ref p]/\aS K H p (bs.map V.bl)/\Q (.bl (bs.all id)) H
section
variable{X:Cx}
theorem Dp:gQ X (.type "range") HV:=by
 intro pins s σ H xs us Q I rv h;obtain⟨j,rfl,q⟩:=h;obtain⟨u,rfl,D⟩:=vals1 rv;obtain⟨t,rfl⟩:=D;refine call_range_1 ?_;exact⟨.ref s.heap.objs.size,_,I.laid (t':=s.toks+1+1) (o:= .lA 0 j) (λb o e=>dB _ e) (bh _) ⟨_,_,_,gH _ rfl⟩,rfl,q _ (I.hok.fresh (bh _))⟩
theorem E6(hc:X.calm=true):gQ X (.type "list") yI:=by
  intro pins s σ H xs us Q I rv h;obtain⟨a,lo,hi,rfl,p,hb,q⟩:=h;obtain⟨u,rfl,D⟩:=vals1 rv;cases D;obtain⟨t,u,v,e⟩:=(show bS X.prog X.w H s.heap a (.lA lo hi) from I.hok a _ p);refine call_list_range (n:=(hi-lo).toNat) (I.ok.hd hc) (show IsRange s.heap a lo hi 1 t u v from e) (small_one ∅ ∅ ∅ ∅) (rangeSize_nat lo hi) ∅ λh' L acc c' kp hl g=>?_;have c:Vals (((a3 (hi-lo).toNat).map λ(i:Nat)=>lo+(i:Int)).map V.int) acc.toList:=by
    have key:∀(n:Nat) (l:List ae),l.length=n->∀b:Int,(∀(j:Nat) (v:ae),l[j]?=some v->∃t,v=eP (b+(j:Int)) t)->Vals (((a3 n).map λ(i:Nat)=>b+(i:Int)).map V.int) l:=by
      intro n;induction n with
      |zero=>intro l hl b _;rw[qN.mp hl];exact .nil
      | succ n ih =>
        intro l hl b hv;cases l with
        |nil=>cases hl
        | cons x r =>
          obtain⟨t,e⟩:=hv 0 x rfl;rw[HG,bu,bu];refine .cons ⟨t,by simpa using e⟩ ?_
          have:=ih r (by simpa using hl) (b+1) (λj v e=>by
            obtain⟨t,z⟩:=hv (j+1) v (by simpa using e);exact⟨t,by rw[z];congr 1;omega⟩)
          rw[jl] at this⊢;rw[jl];have e:∀i:Nat,((V.int∘λ(i:Nat)=>b+(i:Int))∘Nat.succ) i=(V.int∘λ(i:Nat)=>b+1+(i:Int)) i:=λi=>by
            show V.int (b+((i+1:Nat):Int))=V.int (b+1+(i:Int));congr 1;omega
          rw[pR λi _=>e i];exact this
    refine key _ _ (by rw[gZ];exact g.1) lo λj v e=>?_;obtain⟨t,z⟩:=g.2 j v (by rw[<-wK];exact e);exact⟨t,by rw[z];congr 1;omega⟩
  refine⟨.ref s.heap.objs.size,_,I.laid (t':=L) (o:= .lst (((a3 (hi-lo).toNat).map λ(i:Nat)=>lo+(i:Int)).map V.int)) kp (bh _) ⟨?_,acc.toList,c',c,by simpa using hl⟩,rfl,q _ (I.hok.fresh (bh _))⟩;rw[ao,ao,gI];exact dZ (show(hi-lo).toNat<=20000 by omega) ⋯
theorem UR(hc:X.calm=true):gQ X (.builtin "all") (Bx X.K):=by
  intro pins s σ H xs us Q I rv h;obtain⟨p,bs,rfl,hp,q⟩:=h;obtain⟨u,rfl,D⟩:=vals1 rv;cases D;obtain⟨its,J,f,hz⟩:=I.list hp;have hl:=J.length;have hv:∀(i:Nat) (v:ae),its.toArray[i]?=some v->v= .bool (bs.getD i false):=λi v e=>by
    have hi:i<bs.length:=by
      have:=(Array.getElem?_eq_some_iff.mp e).1;rw[ao] at hl;simp at this;omega
    obtain⟨u,F,D⟩:=J.get (i:=i) (x:= .bl bs[i]) (by rw[bC,aA hi];rfl);rw[JH,F] at e;cases e;rw[bq,aA hi];exact D
  have ll:=f.isList;have B:p<s.heap.objs.size:=by obtain⟨o,e,_⟩:=ll;exact bz e
  refine call_all_walk (il ll ⟨s.heap.objs.size,_,_,_,_,_,λi=>bs.getD i false,rfl,Walks.list (A:=X.A.in1) (I.ok.hd hc) _ p (cJ B) its.toArray,⟨⟨_,gH _ rfl,rfl,rfl⟩,ll.push _⟩,λi v s Q E Y g=>?_,λh' L kp=>?_⟩);· rw[hv i v Y];exact c3 g
  · have e:(a3 its.toArray.size).all (λi=>bs.getD i false)=bs.all id:=by
      have O:its.toArray.size=bs.length:=by rw[ao] at hl;simp;omega
      rw[O];clear hv hl J q hp O hz;induction bs with
      |nil=>rfl
      | cons b r ih =>
        rw[cH,HG,n5,n5,List.all_map];simpa[Function.comp_def] using congrArg (b && ·) ih
    rw[e];refine⟨.bl (bs.all id),H,I.kept λb o q=>kp b o (λm=>?_) (dB _ q),rfl,q⟩;have:=aJ.mp m;rw[this] at q;exact absurd (bz q) (jJ _)
end
section
variable{G:Gx}{ρ:Rh}{te:TE}{K:PySem.W.Frag}{Φ:Pd}
theorem aC.Df(h:Ev G ρ te λ_ x=>∃n:Int,x= .int n/\ -10000<=n/\n<=10000/\Θ true (((a3 n.toNat).map λ(i:Nat)=>(0:Int)+(i:Int)).map .int)):aC G ρ (eH yI (aV (eH HV (aV te bI)) bI)) Θ:=λnb σ H Q W z=>
 h nb σ H _ W λf v H1 x ⟨n,ex,h1,h2,q⟩ s1 hv=>by
  subst ex;rw[hv.bM];refine⟨n,rfl,λa ha=>⟨a,0,n,rfl,aY,∅,λl hl=>?_⟩⟩;rw[tH];exact aC.fin (f:=true) W (s1.trans (.same s1.2 (cP ha))) hl (Af _) q z
theorem Ev.sum(h:Ev G ρ te λ_ x=>∃ns:List Int,x= .list (ns.map .int)/\Φ true (.int ns.sum)):Ev G ρ (eH (J3 K) (aV te bI)) Φ:=λnb σ H Q W z=>
 h nb σ H _ W λf v H1 x ⟨ns,ex,q⟩ s1 hv=>by
  subst ex;obtain⟨a,xs,rfl,J,hx,hd⟩:=hv.dY;have e:=o7 hd;subst e;exact⟨a,ns,rfl, .of hx,z true _ H1 _ q s1 (.int _)⟩
theorem Hu{nb:aw->Prop}{H:Hp}:∀{is:List Bool} {xs:List V},af nb H (is.map pZ) xs->xs=is.map V.bl
  |[],_,h=>by unfold dn af at h;exact h
  | i :: is, _, h => by
    rw[bu] at h;unfold af at h;obtain⟨y,ys,rfl,h1,h2⟩:=h;unfold ah at h1;rw[bu,h1,Hu h2]
theorem Ev.all(h:Ev G ρ te λ_ x=>∃bs:List Bool,x= .list (bs.map .bool)/\Φ true (.bool (bs.all id))):Ev G ρ (eH (Bx K) (aV te bI)) Φ:=λnb σ H Q W z=>
 h nb σ H _ W λf v H1 x ⟨bs,ex,q⟩ s1 hv=>by
  subst ex;obtain⟨a,xs,rfl,J,hx,hd⟩:=hv.dY;have e:=Hu hd;subst e;exact⟨a,bs,rfl, .of hx,z true _ H1 _ q s1 (.bl _)⟩
end
noncomputable def iH:PyData->String->Bool
 | .bool _,T=>T=="bool" ||T=="int"
 | .int _,T=>T=="int"
 | .str _,T=>T=="str"
 | .list _,T=>T=="list"
 | .tuple _,T=>T=="tuple"
 |_,_=>false
noncomputable def ze:PyData->String
 | .none=> "NoneType" | .bool _=> "bool" | .int _=> "int" | .str _=> "str" | .list _=> "list" | .tuple _=> "tuple" | .dict _=> "dict"
theorem D3(ds:List PyData):iH (.list ds) "list"=true/\iH (.list ds) "tuple"=false:=⟨rfl,rfl⟩
theorem E5(ds:List PyData):iH (.tuple ds) "list"=false/\iH (.tuple ds) "tuple"=true:=⟨rfl,rfl⟩
theorem Nj{K:PySem.W.Frag}{v:V}(h:ah nb H d v):iw K H v (.type (ze d)):=by
 cases d<;>unfold ah at h;·subst h;exact .aD
 .subst h;exact .bl _
 .subst h;exact .int _
 .subst h;exact .str _
 .obtain⟨a,xs,rfl,_,e,_⟩:=h;exact .lst e
 .obtain⟨a,xs,rfl,_,e,_⟩:=h;exact .tup e
 .obtain⟨a,xs,rfl,_,e,_⟩:=h;exact e.elim .dK λ⟨_,e⟩=> .Eg e
def oi(T:String):Prop:=T="int" \/T="bool" \/T="list" \/T="tuple" \/T="str"
theorem Hh{K:PySem.W.Frag}(hT:oi T):PySem.W.kitOne K (.type (ze d)) (.type T)=some (iH d T):=by
 rcases hT with rfl|rfl|rfl|rfl|rfl<;>cases d<;>(with_unfolding_all rfl)
theorem Dn{K:PySem.W.Frag}{d:PyData}:∀{b:List String},(∀T∈b,oi T)->PySem.W.kitAny K (.type (ze d)) (b.map dA)=some (b.any (iH d))
  |[],_=>rfl
  | T :: r, h => by
    rw[bu];unfold PySem.W.kitAny;rw[Hh (h T (cQ ..)),lQ];cases iH d T with
    |true=>rfl
    |false=>exact Dn λT m=>h T (cB _ m)
def sN:List V->Hp->VK->Prop:=λxs H Q=>∃(x:V) (f:aw) (b:List String) (nb:aw->Prop) (d:PyData),xs=[x, .ref f]/\H f=some (.tup (b.map V.ty))/\ah nb H d x/\(∀T∈b,oi T)/\Q (.bl (b.any (iH d))) H
theorem Ga:∀{b:List String} {us:List ae},Vals (b.map V.ty) us->us=b.map dA
 |[],_, .nil=>rfl
 |T::r,_, .cons h t=>by rw[bu,Ga t,show _=dA T from h]
section
variable{X:Cx}
theorem Gp:gQ X (.builtin "isinstance") sN:=by
 intro pins s σ H xs us Q I rv h;obtain⟨x,f,b,nb,d,rfl,ht,hd,h5,q⟩:=h;obtain⟨u,v,rfl,D,rv⟩:=rv.two;cases (show v=bj f from rv);obtain⟨_,its,g,o,ho,hc,n,c⟩:=(show bS X.prog X.w H s.heap f (.tup (b.map V.ty)) from I.hok f _ ht);have e:=Ga g;subst e;obtain⟨c0,d0,dt,sl⟩:=o;dsimp only at hc c;subst hc c;have fin:∀L,EP X pins σ Q (.bool (b.any (iH d))) {s with toks:=L}:=λL=>⟨.bl _,H,I.tok L,rfl,q⟩;have ka:=Dn (K:=X.K) (d:=d) h5;cases d<;>unfold ah at hd;·subst hd;cases (show u=eQ from D);exact mT PySem.W.kitx_none I.cC cn ho ka (λz=>nomatch z) fin
 .subst hd;cases (show u=hh _ from D);exact mT PySem.W.kitx_bool I.cC cn ho ka (λz=>nomatch z) fin
 .subst hd;obtain⟨t,rfl⟩:=(show∃t,u=eP _ t from D);exact mT PySem.W.kitx_int I.cC cn ho ka (λz=>nomatch z) fin
 .subst hd;obtain⟨t,rfl⟩:=(show∃t,u=fH _ t from D);exact mT PySem.W.kitx_str I.cC cn ho ka (λz=>nomatch z) fin
 .obtain⟨a,ys,rfl,_,G,_⟩:=hd;cases (show u=bj a from D);obtain⟨_,_,n,_,h1⟩:=(show bS X.prog X.w H s.heap a (.lst ys) from I.hok a _ G);exact mT Aa I.cC ⟨_,h1,rfl⟩ ho ka (λz=>nomatch z) fin
 .obtain⟨a,ys,rfl,_,G,_⟩:=hd;cases (show u=bj a from D);obtain⟨_,_,_,o',h1,h2,_⟩:=(show bS X.prog X.w H s.heap a (.tup ys) from I.hok a _ G);exact mT PySem.W.kitx_tuple I.cC ⟨o',h1,h2⟩ ho ka (λz=>nomatch z) fin
 .obtain⟨a,ys,rfl,_,G,_⟩:=hd;cases (show u=bj a from D);obtain⟨_,_,vs,_,dd⟩:=(show bS X.prog X.w H s.heap a (.dK ys) from G.ok I.hok);exact mT vo I.cC dd.typeIs ho ka (λz=>nomatch z) fin
end
section
variable{G:Gx}{ρ:Rh}{ta tb te:TE}{K:PySem.W.Frag}{Φ:Pd}{T U:String}
theorem Ev.S9(hT:oi T)(h:Ev G ρ te λ_ x=>Φ true (.bool (iH x T))):Ev G ρ (eH (jT K) (aV te (aV (tC (.ty T)) bI))) Φ:=λnb σ H Q W z=>
 h nb σ H _ W λf v H1 d q s1 hv=>⟨v,T,_,_,rfl,Nj hv,Hh hT,z true _ H1 _ q s1 (.bl _)⟩
theorem Ev.Qu(hT:oi T)(a:oi U)(h:Ev G ρ te λ_ x=>Φ true (.bool (iH x T||iH x U))):Ev G ρ (eH sN (aV te (aV (pe (aV (tC (.ty T)) (aV (tC (.ty U)) bI))) bI))) Φ:=λnb σ H Q W z=>
 h nb σ H _ W λf v H1 d q s1 hv=>by
  refine⟨by show 2<=sizeLine;decide,λp hp=>⟨v,p,[T,U],G.S nb f,d,rfl,aY,hv.keep (aP.of (cP hp)),λS m=>?_,?_⟩⟩
  .rcases aO.mp m with e|m
   .rw[e];exact hT
   .rw[aJ.mp m];exact a
  .rw[lQ,lQ,List.any_nil,nC];exact z true _ _ _ q (s1.trans (.same s1.2 (cP hp))) (.bl _)
theorem Ev.HJ(h:Ev G ρ te λ_ x=>∃ds,(x= .list ds\/x= .tuple ds)/\Φ true (.int ds.length)):Ev G ρ (eH (fP K) (aV te bI)) Φ:=λnb σ H Q W z=>
 h nb σ H _ W λf v H1 d ⟨ds,e,q⟩ s1 hv=>by
  rcases e with e|e
  .subst e;obtain⟨a,xs,rfl,n,hx,hd⟩:=hv.dY;exact⟨a,xs,rfl, .inl (.of hx),by rw[hd.length];exact z true _ H1 _ q s1 (.int _)⟩
  .subst e;obtain⟨a,xs,rfl,n,hx,hd⟩:=hv.ofT;exact⟨a,xs,rfl, .inr (.of hx),by rw[hd.length];exact z true _ H1 _ q s1 (.int _)⟩
theorem Ev.z6(h:Ev G ρ ta λf x=>∃ds,(x= .list ds\/x= .tuple ds)/\Ev G ρ tb λ_ y=>∃k,y= .int k/\∃e,bB ds k=some e/\Φ f e):Ev G ρ (c8 (tE K) ta tb) Φ:=
 Ev.ja (h.mono λf x ⟨ds,ex,q⟩=>q.mono λg y ⟨k,b,e,he,p⟩ nb σ H u v Q W F hv z=>by
  subst b;rcases ex with ex|ex
  .subst ex;obtain⟨a,xs,rfl,n,hx,hd⟩:=F.dY;obtain⟨w,hw,l⟩:=hd.bB he;exact .inl ⟨a,xs,k,w,rfl,hv.bM, .of hx,hw,z f _ H _ p (.refl W.aj) l⟩
  .subst ex;obtain⟨a,xs,rfl,n,hx,hd⟩:=F.ofT;obtain⟨w,hw,l⟩:=hd.bB he;exact .inr (.inl ⟨a,xs,k,w,rfl,hv.bM, .of hx,hw,z f _ H _ p (.refl W.aj) l⟩))
end
theorem Callee.void{P:bc}{K:PySem.W.Frag}{st:eo}{k:Nat}{f:aw}(F:bT K x x st f fd)(b:Binds K fd ps [])(m:mg x=some (.ref f))(hv:∀vs H Q E,¬sp vs H Q E):Callee P w K mg base x k ps sp:=
 ⟨f,fd,⟨λvs H Q E h=>(hv vs H Q E h).elim,λA outer s H args us vs Q E _ _ _ _ h=>(hv vs H Q E h).elim⟩,b,F.kp,m⟩
section
variable{G:Gx}{ρ eS:Rh}{te:TE}{gt:TG}{n i:Nat}{it:Nat->PyData->Prop}{fi:Bool}{Θ:Bool->List PyData->Prop}{E:DE}
theorem Qd(os:List Int):eK (os.map aF)=true:=by
 unfold eK;rw[qu];intro x hx;obtain⟨y,_,rfl⟩:=cF.mp hx
 rfl
theorem Sv.rY(h:∀a,E.nx (ρ.set i (.own a true []))):Sv G ρ (fk (oU bI) (eV i)) E:=Sv.oX (aC.lst (Av.nil ⟨⋯,λa=>h a⟩))
end
theorem l9{X:Cx}{K:PySem.W.Frag}{a:dk}{ta:TE}(g:X.K=K)(ha:PE X a ta)(he:∀whole,isTrue a X.env whole=(do let v<-whole;standAt a.pos;holding [v] (truthy v))):PT X a (t7 K ta):=by
 subst g;exact J9 ha he
theorem qX{X:Cx}{K:PySem.W.Frag}{es:List dk}{k:Nat}{t:gX}{n:Nat}{pos:Pos}(g:X.K=K)(hc:X.calm=true)(h:rR X es t)(hn:(ej es X.env).length=n:=by rfl)(d:(ej es X.env).findIdx? (·.1)=none:=by rfl):PG X (.Tuple es k pos) (vX K n t):=by
 subst g;exact Jz hc h hn d
theorem Sv.t9{G:Gx}{ρ:Rh}{s:TS}{E:DE}(I:Rh->Prop)(h:Sv G ρ s {E with nx:=I})(hI:∀r,I r->E.nx r):Sv G ρ s E:=λnb σ H D W K=>h nb σ H D W ⟨λnb ρ σ H q W=>K.nx nb ρ σ H (hI ρ q) W,K.bk,K.ct,K.rt,K.rw⟩
theorem pick{k:Int}(h0:0<=k)(h1:k<L.length)(P:Int->Prop)(Y:∀x∈L,P x):∃x,bB (L.map aF) k=some (.int x)/\P x:=by
 have T:k.toNat<L.length:=∅
 exact⟨L[k.toNat],fL h0 (by rw[bC,aA T];rfl),Y _ (dP T)⟩
theorem xQ(a:Int×Int)(b:au)(wd:Wo):bH (a::b) wd=iW wd a+bH b wd:=by
 unfold bH;rw[bu,jk]
theorem fit{S r y:Int}(hp:0<p)(h:∃k,y*r=1+p*k):(S+((0-S%p)*r%p)*y)%p=0:=by
 obtain⟨k,hk⟩:=h;have e1:=kc S p;have e2:=kc ((0-S%p)*r) p;refine C4 ⟨S/p-S%p*k-(0-S%p)*r/p*y,?_⟩;generalize S%p=R at*;generalize S/p=s at*;generalize (0-R)*r/p=q at*;generalize hf:(0-R)*r%p=f at*;have e3:f*y=(0-R)*r*y-p*q*y:=by rw[<-su];congr 1;omega
 have e4:(0-R)*r*y= -R-R*(p*k):=by
  rw[iY,lZ r y,hk,vH,xA,su,om];omega
 rw[e3,e4,ku,ku,<-iY p R k,lZ p R,iY R p k,<-iY p q y];omega
theorem DR{w:List Int}{x:Int}(h:w[pr.1.toNat]?=some x):iW (w.map some) pr=pr.2*x:=by
 unfold iW;rw[bC,h];rfl
def DZ(K:PySem.W.Frag)(te:TE)(b:TO):TE:=λσ H Q=>te σ H λx H1=>b σ H1 λk H2=>k=some (-1)/\∃a xs,x= .ref a/\aS K H2 a xs/\∀p,H2 p=none->Q (.ref p) (upd H2 p (.lst xs.reverse))
theorem af.rev{nb:aw->Prop}{H:Hp}:∀{ds:List PyData} {xs:List V},af nb H ds xs->af nb H ds.reverse xs.reverse
  |[],xs,h=>by unfold af at h;subst h;exact .nil
  | d :: ds, xs, h => by
    unfold af at h;obtain⟨y,ys,e,h1,h2⟩:=h;subst e;rw[uK,uK];exact af.append (af.rev h2) (.cons h1 .nil)
section
variable{G:Gx}{ρ:Rh}{Φ:Pd}{ta tb te:TE}{K:PySem.W.Frag}
theorem aC.rev{b:TO}{Θ:Bool->List PyData->Prop}(h:Ev G ρ te λf x=>∃ds,x= .list ds/\Ov G ρ b λo=>o=some (-1)/\Θ (f||eK ds.reverse) ds.reverse):aC G ρ (DZ K te b) Θ:=λnb σ H Q W z=>
 h nb σ H _ W λf v H1 d ⟨ds,e,q⟩ s1 hv=>q nb σ H1 _ (W.step s1) λo H2 ⟨c,q2⟩ s2=>by
  subst e;obtain⟨a,xs,rfl,n,hx,hd⟩:=(hv.keep s2.cE).dY;exact⟨c,a,xs,rfl, .of hx,λp hp=>aC.fin W (s1.trans s2) hp hd.rev q2 z⟩
theorem Ev.rev{b:TO}(h:Ev G ρ te λf x=>∃ds,x= .list ds/\Ov G ρ b λo=>o=some (-1)/\Φ (f||eK ds.reverse) (.list ds.reverse)):Ev G ρ (DZ K te b) Φ:=(aC.rev (Θ:=λf ds=>Φ f (.list ds)) h).ev
end
end L2
variable{cs:List L2.au}{wd:L2.Wo}{ρ:L2.Rh}{G:L2.Gx}{prs:L2.au}{cs':List L2.Cu}
namespace PC
def aE(n:Nat):Prop:=2<=n/\∀d,d∣n->d=1\/d=n
noncomputable def tr(q:Nat):Nat->Nat->Bool
 |0,_=>false
 |f+1,d=>if q<d*d then true else if q%d=0 then false else tr q f (d+1)
theorem Gz{q:Nat}:∀{f d:Nat},tr q f d=true->∀e,d<=e->e*e<=q->q%e≠0
  |0,_,h=>by simp[tr] at h
  | f + 1, d, h => by
    intro e hde hee;unfold tr at h;by_cases h1:q<d*d
    · have:=mv hde hde
      omega
    · rw[if_neg h1] at h
      by_cases h2:q%d=0;· rw[if_pos h2] at h;cases h
      · rw[if_neg h2] at h
        by_cases h3:d=e;· rw[<-h3];exact h2
        · exact Gz h e ∅ hee
theorem G2{q:Nat}(h2:2<=q)(h:∀e,2<=e->e*e<=q->q%e≠0):aE q:=by
 refine⟨h2,λd hd=>?_⟩;obtain⟨e,he⟩:=hd;by_cases d1:d=1;·exact .inl d1
 by_cases e1:e=1;·right;rw[he,e1,BL]
 exfalso;have d0:d≠0:=λz=>by rw[z,B4] at he;omega
 have X:e≠0:=λz=>by rw[z,oC] at he;omega
 by_cases n:d<=e
 .refine h d ∅ (by rw[he];exact Nat.mul_le_mul_left d n) ?_;rw[he];exact Nat.mul_mod_right d e
 .refine h e ∅ (by rw[he];exact Nat.mul_le_mul_right e ∅) ?_;rw[he];exact Nat.mul_mod_left d e
theorem bN(f:Nat){q:Nat}(h2:2<=q)(h:tr q f 2=true):aE q:=G2 h2 (Gz h)
noncomputable def pw(N:Nat):Nat->Nat->Nat->Nat->Nat
 |0,_,_,acc=>acc
 |f+1,e,g,acc=>pw N f (e/2) (g*g%N) (if e%2=1 then acc*g%N else acc)
theorem Ex{N:Nat}:∀(f e g acc:Nat),e<2^f->pw N f e g acc%N=acc*g^e%N
  | 0, e, g, acc, h => by
    have:e=0:=by simp at h;exact h
    subst this;simp[pw]
  | f + 1, e, g, acc, h => by
    have h2:e/2<2^f:=by rw[Nat.pow_succ] at h;omega
    unfold pw;rw[Ex f _ _ _ h2];have e2:g^e=(g*g)^(e/2)*g^(e%2):=by
      conv=>lhs;rw[<-yS e 2]
      rw[uJ,p1,Nat.pow_two]
    have m1:(g*g%N)^(e/2)%N=(g*g)^(e/2)%N:=(p3 _ _ _).symm;rw[e2];by_cases ho:e%2=1
    · rw[if_pos ho,ho,Nat.pow_one,kP,m1,yj,<-kP]
      congr 1
      rw[q8,rA g]
    · have d:e%2=0:=∅
      rw[if_neg ho,d,oI,BL,kP,m1,<-kP]
theorem Qm{P:Nat->Prop}:∀n,P n->∃m,P m/\∀k,k<m->¬P k:=by
  intro n;induction n using Nat.strongRecOn with
  | _ n ih =>
    intro h;by_cases hk:∃k,k<n/\P k
    · obtain⟨k,A,b⟩:=hk
      exact ih k A b
    · exact⟨n,h,λk A b=>hk ⟨k,A,b⟩⟩
theorem Dd:∀(n:Nat) (f:Nat->Nat),(∀i,i<n+1->f i<n)->∃i j,i<j/\j<n+1/\f i=f j
  |0,f,h=>absurd (h 0 ∅) ∅
  | n + 1, f, h => by
    by_cases he:∃i,i<n+1/\f i=f (n+1)
    · obtain⟨i,h1,h2⟩:=he
      exact⟨i,n+1,h1,∅,h2⟩
    · have R:∀i,i<n+1->f i≠f (n+1):=λi hi e=>he ⟨i,hi,e⟩
      have Vo:=h (n+1) ∅
      obtain⟨i,j,h1,h2,h3⟩:=Dd n (λi=>if f i=n then f (n+1) else f i) (λi hi=>by
        have g1:=h i ∅;have g2:=R i hi;by_cases c:f i=n
        · simp only[c,if_true]
          have:f (n+1)≠n:=λz=>g2 (c.trans z.symm);omega
        · simp only[c,if_false]
          omega)
      refine⟨i,j,h1,∅,?_⟩;have gi:=R i ∅;have gj:=R j ∅;by_cases b:f i=n
      · by_cases a:f j=n
        · rw[b,a]
        · simp only[b,a,if_true,if_false] at h3
          exact absurd h3.symm gj
      · by_cases a:f j=n
        · simp only[b,a,if_true,if_false] at h3
          exact absurd h3 gi
        · simpa only[b,a,if_false] using h3
noncomputable def jy:List (Nat×Nat)->Nat
 |[]=>1
 |qe::r=>Nat.lcm (qe.1^qe.2) (jy r)
theorem DY{o:Nat}:∀{fs:List (Nat×Nat)},(∀qe∈fs,qe.1^qe.2∣o)->jy fs∣o
 |[],_=>⟨o,by simp[jy]⟩
 |qe::r,h=>Nat.lcm_dvd (h qe cQ) (DY λx hx=>h x (cB _ hx))
theorem NN{q:Nat}(hq:aE q)(h:¬q∣m):fu q m:=by
 rcases hq.2 _ (Nat.gcd_dvd_left q m) with e|e
 .exact e
 .exact absurd (e▸Nat.gcd_dvd_right q m) h
theorem KC{q:Nat}(h:fu q m)(e:Nat):fu (q^e) m:=pb e h
theorem Qq(a b c d:Nat):(a%d)*(b%d)%d*(c%d)%d=a*b*c%d:=by
 rw[<-kP a b,<-kP (a*b) c]
theorem Ie{N g d:Nat}{fs:List (Nat×Nat)}(hN:2<=N)(hd:d∣N)(d1:1<d)(h1:g^(N-1)%N=1%N)
  (hq:∀qe∈fs,aE qe.1/\qe.1^qe.2∣N-1/\p4 (g^((N-1)/qe.1)%N+(N-1)) N=1):jy fs<d:=by
 have s:∀{a b:Nat},a%N=b%N->a%d=b%d:=λ{a b} e=>by
  rw[<-AH a hd,e,AH b hd]
 have one:1%d=1:=kf d1;have f:g^(N-1)%d=1:=by rw[s h1,one]
 obtain⟨o,⟨C,o1⟩,A⟩:=Qm (P:=λk=>0<k/\g^k%d=1) (N-1) ⟨∅,f⟩;have p:∀q r:Nat,g^(o*q+r)%d=g^r%d:=λq r=>by
  rw[uJ,p1,kP,p3,o1,Nat.one_pow,one,BO,yj]
 have F:∀k,g^k%d=1->o∣k:=λk hk=>by
  have e:=yS k o;rw[<-e,p] at hk;by_cases h0:k%o=0;·exact Gm h0
  .exact absurd ⟨∅,hk⟩ (A (k%o) (qH _ C))
 have od:=F _ f;have l:jy fs∣o:=DY λqe t=>by
  obtain⟨y,⟨c,hc⟩,G⟩:=hq qe t;obtain⟨m,hm⟩:=od;by_cases v:qe.1∣m
  .exfalso;obtain⟨M,hm'⟩:=v;have q0:0<qe.1:=by have:=y.1;omega
   have x:(N-1)/qe.1=o*M:=by
    rw[hm,hm',show o*(qe.1*M)=qe.1*(o*M) by rw[<-q8,rA o,q8],Nat.mul_div_cancel_left _ q0]
   have e1:g^((N-1)/qe.1)%d=1:=by
    have:=p M 0;rw[Nat.add_zero,oI,one] at this;rw[x];exact this
   have e2:d∣g^((N-1)/qe.1)%N+(N-1):=by
    have e3:(g^((N-1)/qe.1)%N)%d=1:=by rw[AH _ hd];exact e1
    obtain⟨k,hk⟩:=hd;have e4:=yS (g^((N-1)/qe.1)%N) d;rw[e3] at e4;refine⟨(g^((N-1)/qe.1)%N)/d+k,?_⟩;rw[Nat.mul_add,<-hk];omega
   have e5:=Nat.dvd_gcd e2 hd;rw[G] at e5;have:=zu ∅ e5;omega
  .have cp:=KC (NN y v) qe.2;have D:qe.1^qe.2∣o*m:=⟨c,by rw[<-hm];exact hc⟩;exact cp.dvd_of_dvd_mul_right D
 have E:o<d:=by
  refine Nat.lt_of_not_le λn=>?_;have h:∀i,i<=N-1->(g^i%d)*(g^(N-1-i)%d)%d=1:=λi hi=>by
   rw[<-kP,<-uJ,show i+(N-1-i)=N-1 by omega];exact f
  have U5:o<=N-1:=zu ∅ od;have pos:∀i,i<o->0<g^i%d:=λi hi=>by
   refine Nat.pos_of_ne_zero λz=>?_;have:=h i ∅;rw[z,B4,Nat.zero_mod] at this;cases this
  obtain⟨i,j,h1,h2,h3⟩:=Dd (d-1) (λi=>g^i%d-1) (λi hi=>by
   have a1:=pos i ∅;have a2:=qH (g^i) (show d>0 by omega);omega)
  have pi:=pos i ∅;have pj:=pos j ∅;have e:g^i%d=g^j%d:=∅
  have B:g^j=g^i*g^(j-i):=by rw[<-uJ,show i+(j-i)=j by omega]
  have u:=h i ∅;have k1:g^(j-i)%d=1:=by
   have w:(g^i%d)*(g^(N-1-i)%d)%d*(g^(j-i)%d)%d=(g^j%d)*(g^(N-1-i)%d)%d:=by
    rw[Qq,<-kP (g^j),B]
    congr 1
    rw[q8,q8,rA (g^(N-1-i))]
   rw[u,BO,yj,<-e,u] at w;exact w
  exact A (j-i) ∅ ⟨∅,k1⟩
 exact hV (zu C l) E
theorem Oc{N g:Nat}(fs:List (Nat×Nat))(hN:2<=N)(h1:g^(N-1)%N=1%N)
  (hq:∀qe∈fs,aE qe.1/\qe.1^qe.2∣N-1/\p4 (g^((N-1)/qe.1)%N+(N-1)) N=1) (I:N<(jy fs+1)*(jy fs+1)):aE N:=by
 refine⟨hN,λd hd=>?_⟩;obtain⟨e,he⟩:=id hd;by_cases d1:d=1;·exact .inl d1
 by_cases e1:e=1;·right;rw[he,e1,BL]
 exfalso;have d0:d≠0:=λz=>by rw[z,B4] at he;omega
 have X:e≠0:=λz=>by rw[z,oC] at he;omega
 have b1:=Ie hN hd ∅ h1 hq;have b2:=Ie hN ⟨d,by rw[he,rA]⟩ (show 1<e by omega) h1 hq;have:=mv (show jy fs+1<=d from b1) (show jy fs+1<=e from b2);omega
noncomputable def Hg(N g:Nat)(fs:List (Nat×Nat)):Bool:=
 decide (2<=N) && decide (N<2^140) &&(pw N 140 (N-1) g 1%N==1) && fs.all (λqe=>((N-1)%qe.1^qe.2==0) &&(p4 (pw N 140 ((N-1)/qe.1) g 1%N+(N-1)) N==1)) && decide (N<(jy fs+1)*(jy fs+1))
theorem cN{N:Nat}(g:Nat)(fs:List (Nat×Nat))(hp:∀qe∈fs,aE qe.1)(h:Hg N g fs=true):aE N:=by
 unfold Hg at h;simp only[ez,decide_eq_true_eq,beq_iff_eq,qu] at h;obtain⟨⟨⟨⟨h1,h2⟩,h3⟩,h4⟩,h5⟩:=h;have P:∀e,e<=N-1->pw N 140 e g 1%N=g^e%N:=λe he=>by
  rw[Ex 140 e g 1 ∅,BO]
 refine Oc (g:=g) fs h1 (by rw[<-P _ (bh _),h3,kf ∅]) (λqe t=>?_) h5;obtain⟨g1,g2⟩:=h4 qe t;refine⟨hp qe t,Gm g1,?_⟩;rw[<-P _ (Nat.div_le_self _ _)];exact g2
theorem Bf:aE 2:=bN 4 ⋯ (by decide+kernel)
theorem R6:aE 3:=bN 4 ⋯ (by decide+kernel)
theorem Ui:aE 5:=bN 5 ⋯ (by decide+kernel)
theorem zO:aE 7:=bN 5 ⋯ (by decide+kernel)
theorem ND:aE 11:=bN 6 ⋯ (by decide+kernel)
theorem PM:aE 101:=bN 13 ⋯ (by decide+kernel)
theorem N3:aE 10007:=bN 103 ⋯ (by decide+kernel)
theorem Mp:aE 65537:=bN 259 ⋯ (by decide+kernel)
theorem LR:aE 1000003:=bN 1003 ⋯ (by decide+kernel)
theorem J2:aE 17:=bN 7 ⋯ (by decide+kernel)
theorem RD:aE 998244353:=cN 3 [(17,1),(7,1),(2,23)] (λqe h=>by
 simp only[aO,cy,or_false] at h;rcases h with rfl|rfl|rfl
 .exact J2
 .exact zO
 .exact Bf) (by decide+kernel)
theorem MU:aE 148721:=bN 388 ⋯ (by decide+kernel)
theorem Ot:aE 500000003:=cN 2 [(148721,1)] (λqe h=>by
 simp only[aO,cy,or_false] at h;subst h;exact MU) (by decide+kernel)
theorem LQ:aE 1000000007:=cN 2 [(500000003,1)] (λqe h=>by
 simp only[aO,cy,or_false] at h;subst h;exact Ot) (by decide+kernel)
theorem Eh:aE 331:=bN 21 ⋯ (by decide+kernel)
theorem GR:aE 151:=bN 15 ⋯ (by decide+kernel)
theorem Q8:aE 2147483647:=cN 3 [(331,1),(151,1)] (λqe h=>by
 simp only[aO,cy,or_false] at h;rcases h with rfl|rfl
 .exact Eh
 .exact GR) (by decide+kernel)
theorem LD:aE 250049:=bN 503 ⋯ (by decide+kernel)
theorem J7:aE 26005097:=cN 2 [(250049,1)] (λqe h=>by
 simp only[aO,cy,or_false] at h;subst h;exact LD) (by decide+kernel)
theorem Oz:aE 1000000000039:=cN 2 [(26005097,1)] (λqe h=>by
 simp only[aO,cy,or_false] at h;subst h;exact J7) (by decide+kernel)
theorem MB:aE 234931:=bN 487 ⋯ (by decide+kernel)
theorem O8:aE 8740842787:=cN 2 [(234931,1)] (λqe h=>by
 simp only[aO,cy,or_false] at h;subst h;exact MB) (by decide+kernel)
theorem Oh:aE 52445056723:=cN 2 [(8740842787,1)] (λqe h=>by
 simp only[aO,cy,or_false] at h;subst h;exact O8) (by decide+kernel)
theorem QG:aE 1000000000000000003:=cN 2 [(52445056723,1)] (λqe h=>by
 simp only[aO,cy,or_false] at h;subst h;exact Oh) (by decide+kernel)
theorem Qf:aE 15331:=bN 126 ⋯ (by decide+kernel)
theorem Tt:aE 2131:=bN 49 ⋯ (by decide+kernel)
theorem Nl:aE 5594472617641:=cN 2 [(15331,1),(2131,1)] (λqe h=>by
 simp only[aO,cy,or_false] at h;rcases h with rfl|rfl
 .exact Qf
 .exact Tt) (by decide+kernel)
theorem Qy:aE 18446744073709551557:=cN 2 [(5594472617641,1)] (λqe h=>by
 simp only[aO,cy,or_false] at h;subst h;exact Nl) (by decide+kernel)
theorem Rg:aE 1321:=bN 39 ⋯ (by decide+kernel)
theorem Nc:aE 61:=bN 10 ⋯ (by decide+kernel)
theorem Uo:aE 2305843009213693951:=cN 3 [(1321,1),(331,1),(151,1),(61,1)] (λqe h=>by
 simp only[aO,cy,or_false] at h;rcases h with rfl|rfl|rfl|rfl
 .exact Rg
 .exact Eh
 .exact GR
 .exact Nc) (by decide+kernel)
theorem Pe:aE 8707:=bN 96 ⋯ (by decide+kernel)
theorem Lo:aE 1913:=bN 46 ⋯ (by decide+kernel)
theorem MS:aE 2931542417:=cN 3 [(8707,1),(1913,1)] (λqe h=>by
 simp only[aO,cy,or_false] at h;rcases h with rfl|rfl
 .exact Pe
 .exact Lo) (by decide+kernel)
theorem J4:aE 2113:=bN 48 ⋯ (by decide+kernel)
theorem Um:aE 683:=bN 29 ⋯ (by decide+kernel)
theorem LV:aE 618970019642690137449562111:=cN 3 [(2931542417,1),(2113,1),(683,1)] (λqe h=>by
 simp only[aO,cy,or_false] at h;rcases h with rfl|rfl|rfl
 .exact MS
 .exact J4
 .exact Um) (by decide+kernel)
theorem SX:aE 1097:=bN 36 ⋯ (by decide+kernel)
theorem QT:aE 131:=bN 14 ⋯ (by decide+kernel)
theorem K1:aE 67254877:=cN 2 [(1097,1),(131,1)] (λqe h=>by
 simp only[aO,cy,or_false] at h;rcases h with rfl|rfl
 .exact SX
 .exact QT) (by decide+kernel)
theorem Mj:aE 28059810762433:=cN 3 [(67254877,1)] (λqe h=>by
 simp only[aO,cy,or_false] at h;subst h;exact K1) (by decide+kernel)
theorem Qt:aE 53:=bN 10 ⋯ (by decide+kernel)
theorem Kl:aE 37:=bN 9 ⋯ (by decide+kernel)
theorem OR:aE 13:=bN 6 ⋯ (by decide+kernel)
theorem Qi:aE 20394401:=cN 3 [(53,1),(37,1),(13,1)] (λqe h=>by
 simp only[aO,cy,or_false] at h;rcases h with rfl|rfl|rfl
 .exact Qt
 .exact Kl
 .exact OR) (by decide+kernel)
theorem OE:aE 162259276829213363391578010288127:=cN 3 [(28059810762433,1),(20394401,1)] (λqe h=>by
 simp only[aO,cy,or_false] at h;rcases h with rfl|rfl
 .exact Mj
 .exact Qi) (by decide+kernel)
theorem OI:aE 699053:=bN 839 ⋯ (by decide+kernel)
theorem Tc:aE 77158673929:=cN 3 [(699053,1)] (λqe h=>by
 simp only[aO,cy,or_false] at h;subst h;exact OI) (by decide+kernel)
theorem TV:aE 649657:=bN 809 ⋯ (by decide+kernel)
theorem Uv:aE 92737:=bN 307 ⋯ (by decide+kernel)
theorem PV:aE 170141183460469231731687303715884105727:=cN 3 [(77158673929,1),(649657,1),(92737,1)] (λqe h=>by
 simp only[aO,cy,or_false] at h;rcases h with rfl|rfl|rfl
 .exact Tc
 .exact TV
 .exact Uv) (by decide+kernel)
theorem M9:aE 7963:=bN 92 ⋯ (by decide+kernel)
theorem NG:aE 3011:=bN 57 ⋯ (by decide+kernel)
theorem NL:aE 575438233:=cN 2 [(7963,1),(3011,1)] (λqe h=>by
 simp only[aO,cy,or_false] at h;rcases h with rfl|rfl
 .exact M9
 .exact NG) (by decide+kernel)
theorem RU:aE 52316542391429:=cN 2 [(575438233,1)] (λqe h=>by
 simp only[aO,cy,or_false] at h;subst h;exact NL) (by decide+kernel)
theorem S2:aE 104633084782859:=cN 2 [(52316542391429,1)] (λqe h=>by
 simp only[aO,cy,or_false] at h;subst h;exact RU) (by decide+kernel)
theorem Rp:aE 179:=bN 16 ⋯ (by decide+kernel)
theorem MI:aE 31:=bN 8 ⋯ (by decide+kernel)
theorem Mc:aE 7935071:=cN 2 [(179,1),(31,1)] (λqe h=>by
 simp only[aO,cy,or_false] at h;rcases h with rfl|rfl
 .exact Rp
 .exact MI) (by decide+kernel)
theorem Ph:aE 15870143:=cN 2 [(7935071,1)] (λqe h=>by
 simp only[aO,cy,or_false] at h;subst h;exact Mc) (by decide+kernel)
theorem SJ:aE 401321030361983486780957614729:=cN 2 [(104633084782859,1),(15870143,1)] (λqe h=>by
 simp only[aO,cy,or_false] at h;rcases h with rfl|rfl
 .exact S2
 .exact Ph) (by decide+kernel)
theorem S4:aE 1000000000000000000000000000000000000003:=cN 2 [(401321030361983486780957614729,1)] (λqe h=>by
 simp only[aO,cy,or_false] at h;subst h;exact SJ) (by decide+kernel)
theorem Rt:aE 25733:=bN 163 ⋯ (by decide+kernel)
theorem Uy:aE 1151:=bN 36 ⋯ (by decide+kernel)
theorem OC:aE 4916701379:=cN 2 [(25733,1),(1151,1)] (λqe h=>by
 simp only[aO,cy,or_false] at h;rcases h with rfl|rfl
 .exact Rt
 .exact Uy) (by decide+kernel)
theorem Nh:aE 83:=bN 12 ⋯ (by decide+kernel)
theorem OM:aE 23:=bN 7 ⋯ (by decide+kernel)
theorem NC:aE 1676254721:=cN 5 [(83,1),(23,1),(7,3)] (λqe h=>by
 simp only[aO,cy,or_false] at h;rcases h with rfl|rfl|rfl
 .exact Nh
 .exact OM
 .exact zO) (by decide+kernel)
theorem KL:aE 149927568276670622397029177:=cN 2 [(4916701379,1),(1676254721,1)] (λqe h=>by
 simp only[aO,cy,or_false] at h;rcases h with rfl|rfl
 .exact OC
 .exact NC) (by decide+kernel)
theorem Rf:aE 9999999999999999999999999999999999999983:=cN 2 [(149927568276670622397029177,1)] (λqe h=>by
 simp only[aO,cy,or_false] at h;subst h;exact KL) (by decide+kernel)
end PC
namespace L2
open PC
def fK(p:Int):Prop:=2<=p/\∀d:Int,0<d->d∣p->d=1\/d=p
theorem dU(h:aE n):fK (n:Int):=by
 refine⟨by have:=h.1;omega,λd d0 hd=>?_⟩;obtain⟨k,rfl⟩:=CO (Cr d0);rcases h.2 k (Int.natCast_dvd_natCast.mp hd) with e|e
 .left;rw[e];rfl
 .right;rw[e]
theorem Kn(h2:2<=p)(h:vR p):fK p:=by
 obtain⟨n,rfl⟩:=CO (show 0<=p by omega);refine dU (G2 ∅ λe e1 e2 e3=>?_);refine h (e:Int) ∅ (by rw[<-lx];exact Int.ofNat_le.mpr e2) ?_;have:=congrArg (Nat.cast:Nat->Int) e3;simpa using this
theorem Mv:∀p∈sM,fK p:=by
 intro p hp;simp only[sM,aO,cy,or_false] at hp;rcases hp with rfl|rfl|rfl|rfl|rfl|rfl|rfl|rfl|rfl|rfl|rfl|rfl|rfl|rfl|rfl|rfl|rfl|rfl|rfl|rfl|rfl|rfl
 .exact dU Bf
 .exact dU R6
 .exact dU Ui
 .exact dU zO
 .exact dU Bf
 .exact dU ND
 .exact dU PM
 .exact dU N3
 .exact dU Mp
 .exact dU LR
 .exact dU RD
 .exact dU LQ
 .exact dU Q8
 .exact dU Oz
 .exact dU QG
 .exact dU Qy
 .exact dU Uo
 .exact dU LV
 .exact dU OE
 .exact dU PV
 .exact dU S4
 .exact dU Rf
def Jq:Sp:=λvs H Q _=>∃p b:Int,vs=[.int p, .int b]/\fK p/\p<10^40/\b%p≠0/\∀u:Int,0<=u->u<p->(∃k,u*b=1+p*k)->Q (.int u) H
def AB:Sp:=λvs H Q _=>∃p a b:Int,vs=[.int p, .int a, .int b]/\fK p/\p<10^40/\b%p≠0/\ -(10^61)<=a/\a<=10^61/\∀x:Int,0<=x->x<p->(∃k,b*x-a=p*k)->Q (.int x) H
end L2
namespace L2
theorem af.three{a b c:PyData}{vs:List V}(h:af nb H [a,b,c] vs):∃x y z,vs=[x,y,z]/\ah nb H a x/\ah nb H b y/\ah nb H c z:=by
 unfold af at h;obtain⟨x,ys,rfl,h1,h⟩:=h;unfold af at h;obtain⟨y,zs,rfl,h2,h⟩:=h;unfold af at h;obtain⟨z,ws,rfl,h3,h⟩:=h;unfold af at h;subst h;exact⟨x,y,z,rfl,h1,h2,h3⟩
theorem Ev.over{Φ:Pd}(h:Av G ρ t λes=>∃p a b:Int,es.map (·.2)=[.int p, .int a, .int b]/\fK p/\p<10^40/\b%p≠0/\ -(10^61)<=a/\a<=10^61/\∀x:Int,0<=x->x<p->(∃k,b*x-a=p*k)->Φ true (.int x)):
  Ev G ρ (gh AB [] E0 t) Φ:=λnb σ H Q W z=>
 h nb σ H _ W λes vs H1 ⟨p,a,b,e,h1,h2,h3,h4,h5,q⟩ s1 J=>by
  have hd:=J.all (f:=false) (λz=>by cases z);rw[e] at hd;obtain⟨x,y,w,rfl,d1,d2,c⟩:=hd.three;rw[d1.bM,d2.bM,c.bM];exact⟨p,a,b,rfl,h1,h2,h3,h4,h5,λx S C r=>z true _ H1 _ (q x S C r) s1 (.int x)⟩
theorem Qs{a b:Int}(hp:fK p)(h:p∣a*b)(ha:¬p∣a):p∣b:=by
 have p2:=hp.1;have g1:((fv a p:Nat):Int)∣p:=iB ..;have g2:((fv a p:Nat):Int)∣a:=kl ..;have g0:0<((fv a p:Nat):Int):=by
  have:fv a p≠0:=λz=>by have:=(GA.mp z).2;omega
  omega
 rcases hp.2 _ g0 g1 with e|e
 .have c:fu p.natAbs a.natAbs:=by
   show p4 p.natAbs a.natAbs=1;have:fv a p=1:=∅
   rw[Nat.gcd_comm];exact this
  have h':p.natAbs∣b.natAbs*a.natAbs:=by rw[rA,<-Bq];exact uh.mpr h
  exact uh.mp (c.dvd_of_dvd_mul_right h')
 .rw[e] at g2;exact absurd g2 ha
theorem LG{a b:Int}(ha:0<=a)(c:a<p)(hb:0<=b)(d:b<p)(h:p∣a-b):a=b:=by
 obtain⟨k,e⟩:=h;rcases An k 0 with z|z|z
 .have:p*k<=p*(-1):=yD ∅ ∅;omega
 .subst z;omega
 .have:p*1<=p*k:=yD ∅ ∅;omega
section
variable{G:Gx}{ρ:Rh}{Φ:Pd}{te:TE}{t:TA}{i n:Nat}{f:Bool}{ds:List PyData}{Θ:List PyData->Prop}
theorem Ev.Km(h:Ev G ρ te λ_ x=>∃n:Int,x= .int n/\2<=n/\n<=10002/\∀r:Int,fK r->r<10^40->Φ true (.int r)):Ev G ρ (gh ya [] E0 (aV te bI)) Φ:=λnb σ H Q W z=>
 h nb σ H _ W λf v H1 d ⟨n,e,h1,h2,p⟩ s1 hv=>by
  subst e;exact⟨n,by rw[hv.bM];rfl,h1,h2,λr H' b C N l=>z true _ H' _ (p r (Kn C l) ∅) (s1.trans (.same (W.step s1).aj b)) (.int r)⟩
theorem Ev.str{x:Str}(h:Φ true (.str x)):Ev G ρ (tC (.str x)) Φ:=λnb σ H Q W z=>z true _ H _ h (.refl W.aj) (by unfold ah;rfl)
end
theorem Eu.fin{b L lt t:Int}(h:Eu p b L lt 0 t)(hp:fK p)(hb:b%p≠0):∃k,lt%p*b=1+p*k:=by
 obtain⟨g1,g2⟩:=h.dv L (Int.dvd_refl L) (Int.dvd_zero L);have m1:=ig b (show p≠0 by have:=hp.1;omega);have m2:=gV b (show 0<p by have:=hp.1;omega);have T:L=1:=by
  rcases hp.2 L h.l0 g1 with e|e
  .exact e
  .exfalso;rw[e] at g2;have:=yG ∅ g2;omega
 obtain⟨k,hk⟩:=h.lc;have e:=kc lt p;refine⟨-k-lt/p*b,?_⟩;have e2:lt%p=lt-p*(lt/p):=∅
 rw[e2,su,ku,p0,iY];omega
noncomputable def sol(p b a:Int):Int:=open Classical in if h:∃x,0<=x/\x<p/\∃k,b*x-a=p*k then km h else 0
theorem Am{b a x:Int}(hp:fK p)(hb:b%p≠0)(h0:0<=x)(h1:x<p)(hx:∃k,b*x-a=p*k):x=sol p b a:=by
 have ex:∃x,0<=x/\x<p/\∃k,b*x-a=p*k:=⟨x,h0,h1,hx⟩;unfold sol;rw[dif_pos ex];obtain⟨g0,g1,k',hk'⟩:=Ih ex;generalize km ex=y at*;obtain⟨k,hk⟩:=hx;refine LG h0 h1 g0 g1 (Qs hp (a:=b) ⟨k-k',?_⟩ λz=>hb (C4 z));rw[ku,ku];omega
theorem JT{b a:Int}(hp:0<p):0<=sol p b a/\sol p b a<p:=by
 unfold sol;split
 .rename_i h
  obtain⟨g0,g1,_⟩:=Ih h;exact⟨g0,g1⟩
 .omega
noncomputable def c7(wd:Wo)(prs:au):au:=prs.filter λpr=>wd[pr.1.toNat]?==some none
theorem C0:c7 wd (prs++[pr])=if wd[pr.1.toNat]?=some none then c7 wd prs++[pr] else c7 wd prs:=by
 unfold c7;rw[hY];by_cases c:wd[pr.1.toNat]?=some none;·rw[if_pos c,C2 (by rw[c];rfl)];rfl
 .rw[if_neg c,Dv (by simpa using c)];simp
noncomputable def bK(p:Int)(prs:au)(rest:Int)(wd:Wo):Option (Int×Int):=match c7 wd prs with
 |[pr]=>some (pr.1,sol p pr.2 (rest-bH prs wd%p))
 |_=>none
noncomputable def Ht:Option (Int×Int)->PyData
 |none=> .none
 |some pr=>ru pr
def zI(p:Int)(prs:au):Prop:=∀pr∈prs,pr.2%p≠0
def gc(p:Int)(cs:List au)(m:Nat):Prop:=fK p/\p<10^40/\cs.length<=1000/\∀prs∈cs,prs.length<=1000/\BC prs m/\zI p prs
theorem gc.at{c:Int}(h:gc p cs m)(h0:0<=c)(h1:c<cs.length):∃prs,cs[c.toNat]?=some prs/\cs.getD c.toNat []=prs/\prs.length<=1000/\BC prs m/\zI p prs:=by
 have hc:c.toNat<cs.length:=∅
 refine⟨cs[c.toNat],aA hc,?_,h.2.2.2 _ (dP hc)⟩;rw[bq,aA hc];rfl
noncomputable abbrev aZ:=Int×Int×Int
noncomputable abbrev j7(m:aZ):PyData:= .tuple [.int m.1, .int m.2.1, .int m.2.2]
noncomputable def rM(p:Int)(cs:List au)(wd:Wo)(m:aZ):PyData:=
 if m.2.1<0\/(cs.length:Int)<=m.2.1 then .str "check" else match bK p (cs.getD m.2.1.toNat []) 0 wd with
 |none=> .str "place"
 |some (a,x)=>if a≠m.1 then .str "place" else if x≠m.2.2 then .str "letter" else .none
noncomputable def rn(wd:Wo)(ms:List aZ):Wo:=ms.foldl (λw m=>w.set m.1.toNat (some m.2.2)) wd
theorem putAll_snoc{ms:List aZ}{m:aZ}:rn wd (ms++[m])=(rn wd ms).set m.1.toNat (some m.2.2):=by
 unfold rn;rw[i1];rfl
def Pf(p:Int)(cs:List au)(wd:Wo)(ms:List aZ)(j:Nat):Prop:=∃m,ms[j]?=some m/\rM p cs (rn wd (ms.take j)) m= .none
noncomputable def outs(p:Int)(cs:List au)(w:Wo):List Nat:=(a3 cs.length).filter λc=>(bK p (cs.getD c []) 0 w).isSome
theorem xV(h:pr∈c7 wd prs):pr∈prs/\wd[pr.1.toNat]?=some none:=by
 unfold c7 at h;have:=dQ.mp h;exact⟨this.1,by simpa using this.2⟩
theorem zE{rest:Int}{a x:Int}(hp:0<p)(h:bK p prs rest wd=some (a,x)):∃pr∈prs,pr.1=a/\wd[a.toNat]?=some none/\0<=x/\x<p:=by
 unfold bK at h;split at h
 .rename_i pr e
  cases h;have:=xV (wd:=wd) (prs:=prs) (pr:=pr) (by rw[e];simp);exact⟨pr,this.1,rfl,this.2,JT hp⟩
 .cases h
theorem uD{k:Int}(h0:0<=k)(h1:k<n):gF n k=some k.toNat:=by
 unfold gF;rw[if_pos h0,if_pos h1]
theorem kO{ms:List aZ}:(rn wd ms).length=wd.length:=by
 unfold rn;induction ms generalizing wd with
 |nil=>rfl
 |cons m r ih=>rw[List.foldl_cons,ih,eG]
theorem jo{K:PySem.W.Frag}{l:dk}{tl:TE}(g:X.K=K)(hl:PE X l tl):PI X tg l (qV K tl):=by subst g;exact Sq hl
def lD(p:Int)(cs:List au)(wd:Wo)(ms:List aZ):Prop:=∀j<ms.length,Pf p cs wd ms j
theorem UN{m:aZ}(h:rM p cs wd m= .none):0<=m.2.1/\m.2.1<cs.length/\bK p (cs.getD m.2.1.toNat []) 0 wd=some (m.1,m.2.2):=by
 unfold rM at h;split at h;·cases h
 rename_i c
 split at h;·cases h
 rename_i a x e
 split at h;·cases h
 rename_i f
 split at h;·cases h
 rename_i b
 have f:a=m.1:=∅
 have b:x=m.2.2:=∅
 subst f b;exact⟨∅,∅,e⟩
theorem CT{a x:Int}(h:bK p prs 0 wd=some (a,x)):∃pr,c7 wd prs=[pr]/\pr.1=a/\x=sol p pr.2 (0-bH prs wd%p):=by
 unfold bK at h;split at h
 .rename_i pr e
  cases h;exact⟨pr,e,rfl,rfl⟩
 .cases h
theorem Mt{a c x:Int}(h0:0<=c)(h1:c<cs.length)(h:bK p (cs.getD c.toNat []) 0 wd=some (a,x)):rM p cs wd (a,c,x)= .none:=by
 unfold rM;rw[if_neg (by show¬(c<0\/(cs.length:Int)<=c);omega)];show(match bK p (cs.getD c.toNat []) 0 wd with|none=>_|some (k,x')=>_)=_;rw[h];simp
noncomputable def cnt(wd:Wo):Nat:=wd.countP λo=>o.isNone
theorem Jb:∀{wd:Wo} {k:Nat} {x:Int},wd[k]?=some none->cnt (wd.set k (some x))+1=cnt wd
  |[],k,x,h=>by simp at h
  | o :: wd, 0, x, h => by
    simp at h;subst h;simp[cnt]
  | o :: wd, k + 1, x, h => by
    have ih:=Jb (wd:=wd) (k:=k) (x:=x) (by simpa using h);unfold cnt at ih⊢;rw[List.set_cons_succ,ko,ko];omega
theorem El{p:Int}{cs:List au}{wd:Wo}{ms:List aZ}(hp:0<p)(h1:lD p cs wd ms):∀j,j<=ms.length->cnt (rn wd (ms.take j))+j=cnt wd
  |0,_=>by simp[rn]
  | j + 1, hj => by
    have ih:=El hp h1 j ∅;obtain⟨m,e1,e2⟩:=h1 j ∅;rw[rr e1,putAll_snoc];obtain⟨c0,c1,e3⟩:=UN e2;obtain⟨pr,g1,g2,U,_⟩:=zE hp e3;have:=Jb (x:=m.2.2) U;omega
theorem Sy(wd:Wo):cnt wd<=wd.length:=List.countP_le_length
def Agree(os:List Int)(wd:Wo):Prop:=∀(i:Nat) (x:Int),wd[i]?=some (some x)->os[i]?=some x
theorem JE{os:List Int}{wd:Wo}(hl:wd.length=os.length)(ha:Agree os wd):∀{prs:au},(∀pr∈prs,0<=pr.1/\pr.1<wd.length)->
    bH prs (os.map some)=bH prs wd+((c7 wd prs).map λq=>q.2*os.getD q.1.toNat 0).sum
  |[],_=>by simp[bH,c7]
  | pr :: prs, h => by
    have ih:=JE hl ha (prs:=prs) λq hq=>h q (cB _ hq);obtain⟨h0,h1⟩:=h pr (cQ ..);have k1:pr.1.toNat<wd.length:=∅
    have k2:pr.1.toNat<os.length:=∅
    rw[xQ,xQ,ih,DR (w:=os) (aA k2)];have b:os.getD pr.1.toNat 0=os[pr.1.toNat]:=by rw[bq,aA k2];rfl
    cases e:wd[pr.1.toNat] with
    | none =>
      have e2:wd[pr.1.toNat]?=some none:=by rw[aA k1,e]
      have e3:c7 wd (pr::prs)=pr::c7 wd prs:=by unfold c7;rw[C2 (by rw[e2];rfl)]
      have e4:iW wd pr=0:=by unfold iW;rw[e2]
      rw[e3,bu,jk,e4,b];omega
    | some x =>
      have e2:wd[pr.1.toNat]?=some (some x):=by rw[aA k1,e]
      have e3:c7 wd (pr::prs)=c7 wd prs:=by unfold c7;rw[Dv (by rw[e2];simp)]
      have e4:iW wd pr=pr.2*x:=by unfold iW;rw[e2]
      have e5:=ha _ _ e2;rw[aA k2] at e5;cases e5;rw[e3,e4];omega
section
variable{G:Gx}{ρ:Rh}{Φ:Pd}{ta tb te:TE}{E:DE}{K:PySem.W.Frag}
end
noncomputable def wm(es:List Fd):Bool:=es.all λe=>e.1||iV e.2
section
variable{G:Gx}{ρ:Rh}{Φ:Pd}{t:TA}{te:TE}
theorem iO.Gi{nb:aw->Prop}{H:Hp}:∀{es:List Fd} {vs:List V} {f:Bool},iO G nb H es vs->(f=true->wm es=true)->af (G.S nb f) H (es.map (·.2)) vs
  |[],_,_,h,_=>by unfold iO at h;subst h;exact .nil
  | e :: es, _, f, h, hf => by
    obtain⟨v,ws,rfl,h1,h2⟩:=h;have D:f=true->(e.1||iV e.2)=true/\wm es=true:=λz=>by
      have:=hf z;unfold wm at this;rw[n5,ez] at this;exact this
    refine .cons ?_ (h2.Gi λz=>(D z).2);cases O:iV e.2 with
    |true=>exact h1.kr O
    |false=>exact h1.av (bJ (λz=>by have:=(D z).1;rw[O,nC] at this;exact this) λ_ z=>z)
theorem Ev.UG(h:Av G ρ t λes=>es.length<=10000/\Φ (wm es) (.tuple (es.map (·.2)))):Ev G ρ (pe t) Φ:=λnb σ H Q W z=>
 h nb σ H _ W λes vs H1 ⟨hl,p⟩ s1 J=>⟨dZ (by rw[J.len];exact hl) ⋯,λa ha=>z _ _ _ _ p (s1.trans (.same (W.step s1).aj (cP ha)))
  (.tup ((W.step s1).fresh ha) aY ((J.Gi λz=>z).keep (aP.of (cP ha))))⟩
end
section
variable{κ:Type}[DecidableEq κ]
noncomputable def fY(kvs:List (κ×V))(k:κ):Option V:=(kvs.find? λa=>decide (a.1=k)).map (·.2)
noncomputable def putK(kvs:List (κ×V))(k:κ)(v:V):List (κ×V):=
 if(kvs.any λa=>decide (a.1=k))=true then kvs.map (λa=>if a.1=k then(a.1,v) else a) else kvs++[(k,v)]
theorem Rx{k:κ}:fY ([]:List (κ×V)) k=none:=rfl
theorem vq{p:κ×V}{r:List (κ×V)}{k:κ}(e:p.1=k):fY (p::r) k=some p.2:=by simp[fY,lO,e]
theorem xy{p:κ×V}{r:List (κ×V)}{k:κ}(e:¬p.1=k):fY (p::r) k=fY r k:=by simp[fY,lO,e]
theorem xH(k:κ):∀kvs:List (κ×V),(kvs.any λa=>decide (a.1=k))=(fY kvs k).isSome
  |[]=>rfl
  | p :: r => by
    rw[lQ];by_cases e:p.1=k;· simp only[vq e,decide_eq_true e,yk,Option.isSome_some]
    · rw[xy e,decide_eq_false e,nL];exact xH k r
theorem TH(kvs:List (κ×V))(k:κ)(v:V):(putK kvs k v).length<=kvs.length+1:=by
 unfold putK;split;·rw[ao];omega
 .rw[fq,cH,List.length_nil];omega
theorem gz.tL{o:Option V}{u:Option ae}(r:gz o u):o.isSome=u.isSome:=by
  cases o with
  | none => cases u with
    |none=>rfl
    |some _=>exact(show False from r).elim
  | some _ => cases u with
    |none=>exact(show False from r).elim
    |some _=>rfl
theorem gz.getD{o:Option V}{u:Option ae}{d:V}{d':ae}(r:gz o u)(rd:RelV d d'):RelV (o.getD d) (u.getD d'):=by
  cases o with
  | none => cases u with
    |none=>exact rd
    |some _=>exact(show False from r).elim
  | some _ => cases u with
    |none=>exact(show False from r).elim
    |some _=>exact r
theorem KV.val{kvs:List (κ×V)}{vs:List (κ×ae)}(r:KV kvs vs)(k:κ):gz (fY kvs k) (i2 vs k):=by
  unfold KV at r;induction r with
  |nil=>exact cn
  | @cons p q ps c h t ih =>
    obtain⟨h1,h2⟩:=h;by_cases e:p.1=k
    · have e':q.1=k:=h1.symm.trans e
      have b:i2 (q::c) k=some q.2:=by simp[i2,lO,e']
      rw[vq e,b];exact h2
    · have e':¬q.1=k:=λz=>e (h1.trans z)
      have b:i2 (q::c) k=i2 c k:=by simp[i2,lO,e']
      rw[xy e,b];exact ih
theorem KV.any{kvs:List (κ×V)}{vs:List (κ×ae)}(r:KV kvs vs)(k:κ):(kvs.any λa=>decide (a.1=k))=vs.any λa=>decide (a.1=k):=by
 unfold KV at r;induction r with
 |nil=>rfl
 |cons h t ih=>rw[lQ,lQ,ih,h.1]
theorem KV.repl{kvs:List (κ×V)}{vs:List (κ×ae)}(r:KV kvs vs)(k:κ){y:V}{u:ae}(d:RelV y u):
    KV (kvs.map λa=>if a.1=k then(a.1,y) else a) (vs.map λa=>if a.1=k then(a.1,u) else a):=by
  unfold KV at r⊢;induction r with
  |nil=>exact .nil
  | @cons p q ps c h t ih =>
    rw[bu,bu];refine .cons ?_ ih;obtain⟨h1,h2⟩:=h;by_cases e:p.1=k;· rw[if_pos e,if_pos (h1.symm.trans e)];exact⟨h1,d⟩
    · rw[if_neg e,if_neg (λz=>e (h1.trans z))];exact⟨h1,h2⟩
theorem KV.put{kvs:List (κ×V)}{vs:List (κ×ae)}(r:KV kvs vs)(k:κ){y:V}{u:ae}(d:RelV y u):KV (putK kvs k y) (stored vs k u):=by
 unfold putK stored;rw[r.any k];by_cases e:(vs.any λa=>decide (a.1=k))=true;·rw[if_pos e,if_pos e];exact r.repl k d
 .rw[if_neg e,if_neg e];exact Paired.snoc r ⟨rfl,d⟩
theorem KV.keys{kvs:List (κ×V)}{vs:List (κ×ae)}(r:KV kvs vs):kvs.map (·.1)=vs.map (·.1):=by
 unfold KV at r;induction r with
 |nil=>rfl
 |cons h t ih=>rw[bu,bu,ih,h.1]
theorem KV.length{kvs:List (κ×V)}{vs:List (κ×ae)}(r:KV kvs vs):kvs.length=vs.length:=Paired.length r
end
theorem nT{P:bc}{k:Key}(r:RelV (kV k) u):(gR P w).is k u=true:=by
 cases k with
 |inl i=>obtain⟨t,e⟩:=(show∃t,u=eP i t from r);subst e;exact RC P w i t
 |inr x=>obtain⟨t,e⟩:=(show∃t,u=fH x t from r);subst e;exact K8 P w x t
theorem Jg{P:bc}{w:bw}:∀{ks:List Key} {us:List ae},Vals (ks.map kV) us->ItemsAre (gR P w) ks us
  |[],_,r=>by rw[lC] at r;cases r;exact .nil
  | k :: ks, _, r => by
    rw[bu] at r;cases r with
    |cons h t=>exact .cons (nT h) (Jg t)
abbrev KT(H:Hp):List (List Key×V)->List (List Key×aw×ae)->Prop:=Paired λp q=>p.1=q.1/\H q.2.1=some (.tup (p.1.map kV))/\RelV p.2 q.2.2
theorem KT.val{kvs:List (List Key×V)}{xs:List (List Key×aw×ae)}(r:KT H kvs xs)(k:List Key):gz (fY kvs k) ((ra xs k).map (·.2)):=by
  induction r with
  |nil=>exact cn
  | @cons p q ps c h t ih =>
    obtain⟨h1,_,h2⟩:=h;by_cases e:p.1=k
    · have e':q.1=k:=h1.symm.trans e
      have b:ra (q::c) k=some q.2:=by simp[ra,lO,e']
      rw[vq e,b];exact h2
    · have e':¬q.1=k:=λz=>e (h1.trans z)
      have b:ra (q::c) k=ra c k:=by simp[ra,lO,e']
      rw[xy e,b];exact ih
section
variable{P:bc}{w:bw}{H:Hp}{h:dc}{a:aw}
theorem GZ{u:HO}(ok:cY P w H h)(e:Rd H a u):bS P w H h a u:=e.ok ok
theorem oN(ok:cY P w H h)(e:Rd H a (.dK kvs)):kvs.length<=sizeLine/\(a==dC)=false/\∃vs,KV kvs vs/\h.DictOf (gR P w) a vs:=
 show bS P w H h a (.dK kvs) from GZ ok e
theorem OT(ok:cY P w H h)(e:H a=some (.dK kvs)):kvs.length<=sizeLine/\(a==dC)=false/\∃vs,KV kvs vs/\h.DictOf (gR P w) a vs:=oN ok (.inl e)
theorem BV(ok:cY P w H h)(e:H a=some (.tup (ks.map kV))):(k4 (gR P w)).is h ks a:=by
 obtain⟨_,its,r,o,h1,h2,n,h3⟩:=(show bS P w H h a (.tup (ks.map kV)) from ok a _ e);exact⟨o,its.toArray,n,h1,h2,h3,by simpa using Jg r⟩
theorem HA{kvs:List (List Key×V)}(ok:cY P w H h)(e:Rd H a (.dT kvs)):kvs.length<=sizeLine/\(a==dC)=false/\
    ∃xs,KT H kvs xs/\h.DictOfH (k4 (gR P w)) a xs:=by
  obtain⟨z,y,xs,r,o,es,ep,h1,h2,h3,h4,h5⟩:=(show bS P w H h a (.dT kvs) from GZ ok e);refine⟨z,y,xs,r,o,es,ep,h1,h2,h3,h4,λx hx=>?_,h5⟩;have all:∀{l:List (List Key×V)} {m:List (List Key×aw×ae)},KT H l m->∀x∈m,(k4 (gR P w)).is h x.1 x.2.1:=by
    intro l m q;induction q with
    |nil=>intro x hx;exact nomatch hx
    | @cons p q ps c hq t ih =>
      intro x hx;rcases aO.mp hx with e|hx
      · subst e
        exact BV ok (by rw[<-hq.1];exact hq.2.1)
      · exact ih x hx
  exact all r x hx
end
def oM(H:Hp)(a:aw)(y:V)(r:Option V):Prop:=
 (∃kvs k,Rd H a (.dK kvs)/\y=kV k/\r=fY kvs k)\/∃kvs k b,Rd H a (.dT kvs)/\y= .ref b/\H b=some (.tup (k.map kV))/\r=fY kvs k
theorem oM.k{H:Hp}{a:aw}{kvs:List (Key×V)}{k:Key}(e:H a=some (.dK kvs)):oM H a (kV k) (fY kvs k):= .inl ⟨kvs,k, .inl e,rfl,rfl⟩
section
variable{X:Cx}{pins:List (aw×Obj)}{σ:qr}{H:Hp}{s:ax}{a:aw}{y v:V}{u r:ae}{o:Option V}{A:cj}{E:ae->ax->Prop}
theorem Inv.big(I:Inv X pins σ H s):dC<s.heap.objs.size:=by
 have h:a4<s.heap.objs.size:=(I.mod.glob.keeps I.bk).lt;exact Nat.lt_trans ⋯ h
theorem Se(F:A.units+1<ph)(I:Inv X pins σ H s)(g:oM H a y o)(d:RelV y u)(h:∀s',Inv X pins σ H s'->Q (.bool o.isSome) s'):
  wpAny (bg X.prog X.w) A (cc .In u (.ref a)) Q E s:=by
 rcases g with ⟨kvs,k,e,ey,l⟩|⟨kvs,k,b,e,ey,eb,l⟩
 .subst ey;obtain⟨z,hd,vs,c,dd⟩:=oN I.hok e;refine wpAny_in_of (nT d) hd dd.mapOf ?_;rw[<-(c.val k).tL,<-l];exact h _ (I.tok _)
 .subst ey;cases (show u=bj b from d);obtain⟨z,hd,xs,c,dd⟩:=HA I.hok e;refine wpAny_in_heap (hZ F) (BV I.hok eb) hd dd ?_;have q:=(c.val k).tL;rw[zb] at q;rw[<-q,<-l];exact h _ (I.tok _)
theorem J8(F:A.units+1<ph)(I:Inv X pins σ H s)(g:oM H a y o)(d:RelV y u)(h:∀s',Inv X pins σ H s'->Q (.bool (!o.isSome)) s'):
  wpAny (bg X.prog X.w) A (cc .NotIn u (.ref a)) Q E s:=by
 rcases g with ⟨kvs,k,e,ey,l⟩|⟨kvs,k,b,e,ey,eb,l⟩
 .subst ey;obtain⟨z,hd,vs,c,dd⟩:=oN I.hok e;refine wpAny_notIn_of (nT d) hd dd.mapOf ?_;rw[<-(c.val k).tL,<-l];exact h _ (I.tok _)
 .subst ey;cases (show u=bj b from d);obtain⟨z,hd,xs,c,dd⟩:=HA I.hok e;refine wpAny_notIn_heap (hZ F) (BV I.hok eb) hd dd ?_;have q:=(c.val k).tL;rw[zb] at q;rw[<-q,<-l];exact h _ (I.tok _)
theorem N7{g:HO}(I:Inv X pins σ H s)(d:qj (H a))(O:eL a s.heap h')(he:∃q,h'.get? a=some q)(new:bS X.prog X.w (upd H a g) h' a g):
  Inv X pins σ (upd H a g) {s with heap:=h',toks:=t'}:=
 I.write (x:=a) (e:=a) d (.inl rfl) (λb q hb z=>(O.2 b hb).trans z) he new
theorem Ry{P:bc}{vs:List (Key×ae)}(z:kvs.length<=sizeLine)(hd:(a==dC)=false)(c:KV kvs vs)(dd:h'.DictOf (gR P w) a vs):
  bS P w H' h' a (.dK kvs):=⟨z,hd,vs,c,dd⟩
end
theorem QH{P:bc}(h:dc)(hb:dC<h.objs.size):bS P w H (h.push {cls:= .type "dict",data:= .dict #[]}) h.objs.size (.dK []):=
 ⟨iE _,beq_eq_false_iff_ne.mpr (bX (cJ hb)),[], .nil,rb h⟩
def xX:TE:=λ_ H Q=>∀p,H p=none->Q (.ref p) (upd H p (.dK []))
section
variable{X:Cx}{pos:Pos}
theorem CZ:PE X (.Dict [] [] pos) xX:=λpins s σ H Q I h=>
 wpAny_Dict_empty ⟨.ref s.heap.objs.size,_,I.laid (a:=s.heap.objs.size) (o:= .dK []) (t':=s.toks) (λ_ _ q=>dB _ q) (bh _) (QH s.heap I.big),rfl,h _ (I.hok.fresh (bh _))⟩
end
end L2
variable{ms:List L2.aZ}
/-THE LAST THEOREM (shape;LID,My.*are yours):
   My.Adr:a structure of the addresses that your layer names (classes,functions);My.Txt K t:a structure (Prop) of the equations over K;
   My.txt_mk:{K} {implicit addresses ..} (e1:nsIn K a4 "law"=some (some (.ref f))) (e2:K.lookup f=some ⟨oc,od, .func (fnOf "law" "law" params body scope dV kV doc pm an cdv ct),sl⟩) (e3:codeIn K cdv "law"=true) .. :∃t,My.Txt K t
(the tactic k_is has no namespace:write k_is)-/
namespace L2
section
variable{prog:bc}{w:bw}{A:cj}{E:ae->ax->Prop}{s:ax}
theorem LC{r d:aw}{P:Nat->ae->Prop}{f:dc->Prop}{Q:List ae->ax->Prop}(K:PySem.W.KdlSrc prog w T r d n P f)(D:A.handled=none)(hok:f s.heap)(hn:n<=sizeLine)
  (g:∀h' tk' items,(∀b o,s.heap.get? b=some o->h'.get? b=some o)->s.heap.objs.size<=h'.objs.size->items.length=n->(∀(i:Nat) v,items[i]?=some v->P i v)->Q items {s with heap:=h',toks:=tk'}):wpAny (bg prog w) A (collect (.ref r)) Q E s:=by
 obtain⟨h,ld⟩:=K.there _ hok;unfold collect;refine ar (wpAny_runValue (eF PySem.F.entry_proto_collect ?_));rw[sF PySem.F.plain_proto_collect _];show wpAny _ A.in1 (newList []>>=λl=>again (.builtin "list.__iadd__" ⟨[l, .ref r],[]⟩)) _ _ s;refine ar (eR ?_);refine a0 ⟨h6 G9 _,eF PySem.F.entry_list_iadd ?_⟩;rw[sF G9 _];have c:(s.heap.push ({cls:= .type "list",data:= .seq ([]:List ae).toArray}:Obj)).get? s.heap.objs.size=some {cls:= .type "list",data:= .seq ([]:List ae).toArray}:=gH _ rfl;show wpAny _ A.in1 (cq (.ref s.heap.objs.size) (.ref r) (.ref s.heap.objs.size)) _ _ {s with heap:=s.heap.push ({cls:= .type "list",data:= .seq ([]:List ae).toArray}:Obj)}
 refine PySem.W.kdl_extend (A:=A) (R:=λr s'=>match r with
    | .ok (.ret v)=>wpAny (bg prog w) A (match v with| .ref x=>(do match(<-load x).data with| .seq xs _=>pure xs.toList|_=>unsupported "internal:collect")|_=>unsupported "internal:collect") Q E s'
    | .ok _=>False
    | .error e=>E e s') (s:={s with heap:=s.heap.push ({cls:= .type "list",data:= .seq ([]:List ae).toArray}:Obj)}) K D (K.keep _ _ hok λb _ o e=>dB _ e) s.heap.objs.size (Cb h) (Cb ld) _ _ c (λh' L a c' hk N m=>?_) hn
 refine ar (wpAny_load N (a0 ?_));refine g h' L a.toList (λb o e=>hk b o (cJ (bz e)) (dB _ e)) (lH (bz N)) (by rw[gZ];exact m.1) λi v e=>m.2 i v (by rw[<-wK];exact e)
theorem NV{vs:List (Key×ae)}{ms:List Int}(D:A.handled=none)(lo:(a==dC)=false)(hd:s.heap.DictOf (gR prog w) a vs)(hk:vs.map (·.1)=ms.map cm)(g:ms.length<64)
    (h:∀h' d (l:aw) (out:List ae) (ns:List Int) (e:Nat),(∀b o,s.heap.get? b=some o->h'.get? b=some o)->s.heap.objs.size<=l->h'.get? l=some (bp "list" out.toArray e)->ft out ns->ns.Pairwise (· <= ·)->ns.Perm ms->
      Q (.ref l) {s with heap:=h',toks:=d}):wpAny (bg prog w) A (call (.builtin "sorted") [.ref a]) Q E s:=by
  obtain⟨ep,hat⟩:=hd.dictAt;have j:vs.length=ms.length:=by have:=congrArg hF hk;simpa using this
  refine BI lL jO j0 (j1 _) ?_;unfold Builtin.«sorted»;refine ar (m:=m3 "sorted" 1 1 _) (a0 (ar ?_));refine LC (A:=A.in1) (PySem.W.kdl_dict lo) D hat (by rw[j];exact dZ (lH g) ⋯) λh1 y items k1 k2 r f=>?_;have hI:ft items ms:=by
    have key:∀(its:List ae) (us:List (Key×ae)) (ms:List Int),us.map (·.1)=ms.map cm->its.length=us.length->(∀(i:Nat) v,its[i]?=some v->∃k x,us[i]?=some (k,x)/\(gR prog w).is k v=true)->ft its ms:=by
      intro its;induction its with
      | nil =>
        intro us ms e l _;cases us with
        | nil => cases ms with
          |nil=>exact .nil
          |cons _ _=>cases e
        |cons _ _=>cases l
      | cons v its ih =>
        intro us ms e l hp;cases us with
        |nil=>cases l
        | cons u us => cases ms with
          |nil=>cases e
          | cons m ms =>
            have e1:u.1=cm m:=by injection e
            have e2:us.map (·.1)=ms.map cm:=by injection e
            obtain⟨k,x,J,q2⟩:=hp 0 v rfl;have J:u=(k,x):=by simpa using J
            subst J;have e1:k=cm m:=e1;subst e1;obtain⟨t,rfl⟩:=ib (k:=m) (v:=v) q2;exact .cons m t (ih us ms e2 (by simpa using l) λi v q=>by simpa using hp (i+1) v (by simpa using q))
    exact key items vs ms hk r f
  have hlen:items.length=ms.length:=by rw[r,j]
  refine ar (et ?_);have c:(h1.push (bp "list" items.toArray 0)).get? h1.objs.size=some (bp "list" items.toArray 0):=gH _ rfl;refine ar (cx (fx hu ⟨_,c,rfl⟩ gL (list_sort_tree c hI ∅ λout p a1 a2 n=>⟨_,rfl,?_⟩) (hB _)));obtain⟨e,he⟩:=sortedHeap_at (out:=out) c;refine a0 ⟨_,rfl,h _ y h1.objs.size out.toList p e (λb o q=>?_) k2 (by simpa using he) a1 n a2⟩;have lb:=bz (k1 b o q);rw[sortedHeap_old (cJ lb) (by rw[sf];exact qD lb)];exact dB _ (k1 b o q)
end
def CJ:List V->Hp->VK->Prop:=λxs H Q=>∃a,∃kvs:List (Key×V),∃ms:List Int,xs=[.ref a]/\Rd H a (.dK kvs)/\kvs.map (·.1)=ms.map cm/\ms.length<64/\
 ∀l (J:List Int),H l=none->J.Pairwise (· <= ·)->J.Perm ms->Q (.ref l) (upd H l (.lst (J.map V.int)))
theorem Sh(hc:X.calm=true):gQ X (.builtin "sorted") CJ:=by
 intro pins s σ H xs us Q I rv h;obtain⟨a,kvs,ms,rfl,p,hk,g,q⟩:=h;obtain⟨u,rfl,D⟩:=vals1 rv;cases D;obtain⟨z,hd,vs,c,dd⟩:=oN I.hok p;refine NV (I.ok.hd hc) hd dd (by rw[<-c.keys];exact hk) g λh' d l out ns e kp hl f hI pw b=>?_;have new:bS X.prog X.w (upd H l (.lst (ns.map V.int))) h' l (.lst (ns.map V.int)):=by
  refine⟨?_,out,e,Dr hI,f⟩;rw[ao,b.length_eq];exact dZ (lH g) ⋯
 exact⟨.ref l,_,I.laid (t':=d) kp hl new,rfl,q _ _ (I.hok.fresh hl) pw b⟩
section
variable{X:Cx}
def oH:R2:=λx y H Q=>∃a kvs k v,x= .ref a/\y=kV k/\Rd H a (.dK kvs)/\fY kvs k=some v/\Q v H
theorem Bl:kh X oH:=by
 intro value slice pins s σ H x y v u Q I rx ry h hs;obtain⟨a,kvs,k,z,rfl,rfl,p,hv,q⟩:=h;cases rx;obtain⟨hz,hd,vs,c,dd⟩:=oN I.hok p;have hT:=dd.typeIs (s:=s);obtain⟨K,hw,d⟩:=gz.some_of (v:=z) (o:=i2 vs k) (by rw[<-hv];exact c.val k);unfold hU;refine ar ?_;rw[getitemInPython_of_ne hT.not_modules];refine ar (gN hT PySem.F.slot_dict_getitem.lookup ?_);have fin:wpAny (bg X.prog X.w) X.A (lr slice false (.ref a) u) (λr b=>wpAny (bg X.prog X.w) X.A (letTemporaryGo value (.ref a) r>>=λ_=>pure r) (EP X pins σ Q) X.xe b) X.xe s:=by
  rw[hs];refine wpAny_operating (wpAny_getItem_of (nT ry) dd.mapOf hw ?_);exact ar (wpAny_letTemporaryGo (a0 ⟨z,H,I.tok _,d,q⟩))
 first
  |exact a0 (ar fin)
  |exact ar (a0 (ar fin))
  |exact ar fin
def HL:V->V->V->Hp->(Hp->Prop)->Prop:=λo i v H Q=>∃a kvs k,o= .ref a/\i=kV k/\H a=some (.dK kvs)/\kvs.length<sizeLine/\Q (upd H a (.dK (putK kvs k v)))
theorem set_dict:AL X HL:=by
 intro pins s σ H o i v ov iv u Q I ro ri rv h;obtain⟨a,kvs,k,rfl,rfl,p,Vt,q⟩:=h;cases ro;obtain⟨z,hd,vs,c,dd⟩:=OT I.hok p;have hz:vs.length<=sizeLine:=by rw[<-c.length];exact z
 have hl:(putK kvs k v).length<=sizeLine:=by have:=TH kvs k v;omega
 refine wpAny_setItem_pairs (hsz:=hz) (nT ri) dd λh' b O=>?_;have he:∃q,h'.get? a=some q:=let ⟨q,_,_,hq,_⟩:=b;⟨q,hq⟩;exact⟨_,N7 I (by rw[p];exact cn) O he (Ry hl hd (c.put k rv) b),q⟩
def Ic:V->List V->Hp->VK->Prop:=λx vs H Q=>∃a kvs k d,x= .ref a/\vs=[kV k,d]/\Rd H a (.dK kvs)/\Q ((fY kvs k).getD d) H
theorem Sg:xK X "dict.get" Ic:=by
  intro pins s σ H x xs v us Q I rx rv h;obtain⟨a,kvs,k,d,rfl,rfl,p,q⟩:=h;cases rx;cases rv with
  | cons C N =>
    obtain⟨r,rfl,rd⟩:=vals1 N;obtain⟨z,hd,vs,c,dd⟩:=oN I.hok p;refine call_meetsIn DG dd.typeIs PySem.F.entry_dict_get (PySem.F.args_dict_get_3 _ _ _) (meets_dict_get_default (gR X.prog X.w) a (nT C) hd r) ⟨_,dd.mapOf,?_⟩;exact⟨_,H,I.tok _,(c.val k).getD rd,q⟩
end
noncomputable abbrev Cn:=List (Int×Int)
structure Ip(cs:Cn):Prop where
 lA:∀c∈cs,0<=c.1/\c.1<=12/\0<=c.2/\c.2<=10^7
 nd:(cs.map (·.1)).Nodup
 len:cs.length<=14
 pos:∃c∈cs,0<c.1/\0<c.2
noncomputable def CM:Cn->Rat->Rat
 |[],_=>0
 |c::r,v=>(if 0<c.1 then((c.1*c.2:Int):Rat)*v^(c.1.toNat-1) else 0)+CM r v
noncomputable def IB:Cn->Int
 |[]=>0
 |c::r=>c.1*c.2+IB r
noncomputable def Ir(cs:Cn)(v:Rat):Rat:=CM cs v/(IB cs:Int)
noncomputable def LF(l c:Cn)(s v:Rat):Rat:=s*Ir l (1-Ir c (1-v))
section
variable{l c:Cn}{s:Rat}(hl:Ip l)(hc:Ip c)(s0:0<=s)
include hl hc s0
end
noncomputable def Dh(x:Rat):Int:= -((-x).floor)
structure Gw where
 l:Cn
 c:Cn
 s:Rat
 u:Int
noncomputable def Gw.gr(g:Gw)(x:Int):Rat:=LF g.l g.c g.s ((x:Rat)/g.u)*g.u
noncomputable def Gw.lo(g:Gw):Nat->Int
 |0=>(g.s*g.u).floor
 |k+1=>(g.gr (g.lo k)).floor
noncomputable def Gw.hi(g:Gw):Nat->Int
 |0=>Dh (g.s*g.u)
 |k+1=>Dh (g.gr (g.hi k))
theorem boot_reversed:ed "reversed"=some (.type "reversed"):=by decide+kernel
def L3(K:PySem.W.Frag)(n:Nat)(t:gX):TG:=λv σ H Q=>∃a xs,v= .ref a/\aS K H a xs/\xs.length=n/\t xs σ H Q
theorem Gv.lst{G:Gx}{ρ:Rh}{f:Bool}{ds:List PyData}{K:PySem.W.Frag}{Θ:Rh->Prop}{n:Nat}{u:gX}(hl:ds.length=n)(h:jV G ρ u f ds Θ):Gv G ρ (L3 K n u) f (.list ds) Θ:=λnb σ H v Q W hv z=>by
 obtain⟨a,xs,rfl,m,hx,hd⟩:=hv.dY;exact⟨a,xs,rfl, .of hx,by rw[hd.length];exact hl,h nb σ H xs Q W hd z⟩
theorem Sv.par{ta:TA}{E:DE}(h:Av G ρ ta λes=>∃e1 e2:Fd,es=[e1,e2]/\E.nx ((ρ.set i (.d e1.1 e1.2)).set j (.d e2.1 e2.2))):Sv G ρ (Hf i j ta) E:=λnb σ H D W K=>
 h nb σ H _ W λes vs H1 ⟨e1,e2,g,q⟩ s1 hf=>by
  subst g;obtain⟨v,ws,rfl,h1,h2⟩:=hf;obtain⟨w,us,rfl,h3,h4⟩:=h2;unfold iO at h4;subst h4;exact⟨v,w,rfl,K.nx nb _ _ H1 q (((W.step s1).jA h1).jA h3)⟩
end L2
namespace L2
open PySem PySem.Spec PyProof.Rows PySem.W
section
variable{n:Nat}{cmp:Nat->Nat->(Bool->ax->Prop)->ax->Prop}{s:ax}
def VP(n:Nat)(p:Array Nat):Prop:=p.toList.Perm (a3 n)
theorem VP.of{p q:Array Nat}(h:VP n p)(z:q.Perm p):VP n q:=(Array.perm_iff_toList_perm.mp z).trans h
theorem VP.lt{p:Array Nat}(h0:0<n)(h:VP n p)(k:Nat):p.getD k 0<n:=by
 by_cases hk:k<p.size
 .have e:p.getD k 0=p[k]:=by simp[e0,hk]
  rw[e];have m:p[k]∈p.toList:=by simp
  exact dM.mp (h.mem_iff.mp m)
 .have e:p.getD k 0=0:=by simp[e0,hk]
  rw[e];exact h0
variable(h0:0<n)(hc:∀i j C,i<n->j<n->(∀b,C b s)->cmp i j C s)
include h0 hc
end
def yf(h:dc)(v:ae):Prop:=∃a o i j t u m,v= .ref a/\h.get? a=some o/\o.cls= .type "tuple" /\o.data= .seq #[.int i t, .int j u] m
section
variable{prog:bc}{w:bw}{A:cj}{E:ae->ax->Prop}{s:ax}
theorem Td{Q:SortKind->ax->Prop}(hp:∀v∈vs,yf s.heap v)(R:0<vs.length)(h:Q (lW true) s):wpAny M A (keyKind' vs.toArray) Q E s:=by
  obtain⟨fs,hf,hl,hT⟩:∃fs:List ae,KatTups s.heap vs fs/\fs.length=vs.length/\∀v∈fs,∃i t,v= .int i t:=by
    clear R h;induction vs with
    |nil=>exact⟨[], .nil,rfl,λ_ h=>nomatch h⟩
    | cons v r ih =>
      obtain⟨fs,h1,h2,h3⟩:=ih λx hx=>hp x (cB _ hx);obtain⟨a,o,i,j,t,u,m,rfl,g1,g2,U⟩:=hp v (cQ ..);refine⟨.int i t::fs, .cons g1 g2 U rfl h1,by simp[h2],λx hx=>?_⟩;rcases aO.mp hx with e|hx
      · exact⟨i,t,e⟩
      · exact h3 x hx
  refine kat_kind (T:= .type "int") hf ∅ (λv hv=>?_) ⋯ h;obtain⟨i,t,rfl⟩:=hT v hv;exact n7 rfl
end
section
variable{n:Nat}{key:Nat->Int}{cmp:Nat->Nat->(Bool->ax->Prop)->ax->Prop}{s:ax}
noncomputable def aW(key:Nat->Int)(p:Array Nat)(x:Nat):Int:=key (p.getD x 0)
def So(key:Nat->Int)(p:Array Nat)(b:Nat):Prop:=∀i j,i<=j->j<b->aW key p i<=aW key p j
def Ni(key:Nat->Int)(p:Array Nat)(b:Nat):Prop:=∀i j,i<=j->j<b->aW key p j<=aW key p i
theorem VP.size{p:Array Nat}(h:VP n p):p.size=n:=by
 have:=h.length_eq;rw[gI,gZ] at this;exact this
theorem mS(p:Array Nat)(x:Nat):aW key p x=key ((p[x]?).getD 0):=by unfold aW;rw[Array.getD_eq_getD_getElem?]
theorem AD{p:Array Nat}(hj:j<=p.size)(k:Nat):aW key (l3 p i j) k=if i<=k/\k<j then aW key p (i+j-1-k) else aW key p k:=by
 rw[mS,mS,mS];unfold l3;rw[getElem?_mirror_all hj k];split<;>rfl
theorem HH{p:Array Nat}{k d:Nat}(hk:k<p.size)(hd:d<=k)(x:Nat):aW key (bubble p k d) x=if x=k-d then aW key p k else if k-d<x/\x<=k then aW key p (x-1) else aW key p x:=by
 rw[mS,mS,mS,mS,getElem?_bubble hk d hd x];split;·rfl
 .split<;>rfl
theorem VP.rev{p:Array Nat}(h:VP n p)(i j:Nat):VP n (l3 p i j):=h.of (mirror_perm _ _ _ _)
theorem xS{p:Array Nat}(hj:j<=p.size)(he:∀a b,i<=a->a<j->i<=b->b<j->aW key p a=aW key p b)(k:Nat):aW key (l3 p i j) k=aW key p k:=by
 rw[AD hj];split;·exact he _ _ ∅ ∅ ∅ ∅
 .rfl
theorem PN{p:Array Nat}(hm:m<=p.size)(h:Ni key p m):So key (l3 p 0 m) m:=by
 intro i j hij hj;rw[AD hm,AD hm,if_pos ∅,if_pos ∅];exact h _ _ ∅ ∅
variable(h0:0<n)(hc:∀i j C,i<n->j<n->C (decide (key i<key j)) s->cmp i j C s)
include h0 hc
theorem AF{p:Array Nat}(hp:VP n p){Q:Nat->ax->Prop}:∀f m,1<=m->m+f<=n->So key p m->(∀r,m<=r->r<=m+f->So key p r->(r=m+f\/aW key p r<aW key p (r-1))->Q r s)->(kas_asc p f m).kasWp cmp Q s
  |0,m,_,_,hs,hQ=>hQ m (bh _) (bh _) hs (.inl rfl)
  | f + 1, m, m1, hm, hs, hQ => hc _ _ _ (hp.lt h0 _) (hp.lt h0 _) (by
    by_cases c:aW key p m<aW key p (m-1)
    · rw[show decide (key (p.getD m 0)<key (p.getD (m-1) 0))=true from decide_eq_true c]
      exact hQ m (bh _) ∅ hs (.inr c)
    · rw[show decide (key (p.getD m 0)<key (p.getD (m-1) 0))=false from decide_eq_false c]
      refine AF hp f (m+1) ∅ ∅ (λi j hij hj=>?_) λr C N l a=>hQ r ∅ ∅ l (a.elim (λz=> .inl ∅) .inr);by_cases e:j=m
      · subst e
        by_cases e2:i=j;· subst e2;exact kj _
        · have:=hs i (j-1) ∅ ∅
          omega
      · exact hs i j hij ∅)
theorem uP{Q:Array Nat×Nat×Nat->ax->Prop}:∀f p m q,VP n p->1<=m->m+f<=n->q+1<=m->Ni key p m->(∀a b,m-(q+1)<=a->a<m->m-(q+1)<=b->b<m->aW key p a=aW key p b)->
    (∀k M B,VP n k->m<=M->M<=m+f->B+1<=M->Ni key k M->(∀a b,M-(B+1)<=a->a<M->M-(B+1)<=b->b<M->aW key k a=aW key k b)->Q (k,M,B) s)->(kas_desc f p m q).kasWp cmp Q s
  |0,p,m,q,hp,m1,hm,hq,hn,he,hQ=>hQ p m q hp (bh _) (bh _) hq hn he
  | f + 1, p, m, q, hp, m1, hm, hq, hn, he, hQ => hc _ _ _ (hp.lt h0 _) (hp.lt h0 _) (by
    have hps:=hp.size;by_cases c:aW key p m<aW key p (m-1)
    · rw[show decide (key (p.getD m 0)<key (p.getD (m-1) 0))=true from decide_eq_true c]
      have hn1:Ni key p (m+1):=λi j hij hj=>by
        by_cases e:j=m
        · subst e
          by_cases e2:i=j;· subst e2;exact kj _
          · have:=hn i (j-1) ∅ ∅
            omega
        · exact hn i j hij ∅
      simp only[if_true];split
      · have hk:=xS (key:=key) (p:=p) (i:=m-(q+1)) (j:=m) ∅ he
        refine uP f _ _ _ (hp.rev _ _) ∅ ∅ ∅ (λi j hij hj=>by rw[hk,hk];exact hn1 i j hij hj) (λa b a1 a2 b1 b2=>by rw[show a=b by omega]) λk M B g1 g2 U t l u=>hQ k M B g1 ∅ ∅ t l u
      · exact uP f _ _ _ hp ∅ ∅ ∅ hn1 (λa b a1 a2 b1 b2=>by rw[show a=b by omega]) λk M B g1 g2 U t l u=>hQ k M B g1 ∅ ∅ t l u
    · rw[show decide (key (p.getD m 0)<key (p.getD (m-1) 0))=false from decide_eq_false c]
      simp only[kI,if_false];refine hc _ _ _ (hp.lt h0 _) (hp.lt h0 _) ?_;by_cases c2:aW key p (m-1)<aW key p m
      · rw[show decide (key (p.getD (m-1) 0)<key (p.getD m 0))=true from decide_eq_true c2]
        simp only[if_true];exact hQ p m q hp (bh _) ∅ hq hn he
      · rw[show decide (key (p.getD (m-1) 0)<key (p.getD m 0))=false from decide_eq_false c2]
        simp only[kI,if_false];have g:aW key p m=aW key p (m-1):=∅
        have hn1:Ni key p (m+1):=λi j hij hj=>by
          by_cases e:j=m
          · subst e
            by_cases e2:i=j;· subst e2;exact kj _
            · have:=hn i (j-1) ∅ ∅
              omega
          · exact hn i j hij ∅
        have hel:∀a,m-(q+1)<=a->a<m+1->aW key p a=aW key p (m-1):=λa a1 a2=>by
          by_cases e:a=m;· rw[e,g]
          · exact he a (m-1) a1 ∅ ∅ ∅
        refine uP f p (m+1) (q+1) hp ∅ ∅ ∅ hn1 (λa b a1 a2 b1 b2=>by rw[hel a ∅ a2,hel b ∅ b2]) λk M B g1 g2 U t l u=>hQ k M B g1 ∅ ∅ t l u)
theorem ER{p:Array Nat}(hp:VP n p){Q:Nat×Array Nat->ax->Prop}{m:Nat}(m1:1<=m)(hm:m<=n)(hn:Ni key p m)(g:∀m p,VP n p->m<=n->So key p m->Q (m,p) s):(kas_tail3 m n p).kasWp cmp Q s:=by
 unfold kas_tail3;rw[qY];have a:VP n (l3 p 0 m):=hp.of (mirror_perm _ _ _ _);have hps:=hp.size;exact AF h0 hc a (n-m) m m1 ∅ (PN ∅ hn) λr C N l _=>g r _ a ∅ l
theorem DS{p:Array Nat}(hp:VP n p){Q:Nat×Array Nat->ax->Prop}{m:Nat}(m1:1<=m)(hm:m+1<=n)(hn:Ni key p (m+1))(g:∀m p,VP n p->m<=n->So key p m->Q (m,p) s):(kas_descPart m n p).kasWp cmp Q s:=by
 unfold kas_descPart;rw[qY];refine uP h0 hc (n-(m+1)) p (m+1) 0 hp ∅ ∅ ∅ hn (λa b a1 a2 b1 b2=>by rw[show a=b by omega]) λk M B g1 g2 U t l u=>?_;have hps:=g1.size;dsimp only;split
 .have hk:=xS (key:=key) (p:=k) (i:=M-(B+1)) (j:=M) ∅ u;exact ER h0 hc (g1.rev _ _) ∅ ∅ (λi j hij hj=>by rw[hk,hk];exact l i j hij hj) g
 .exact ER h0 hc g1 ∅ ∅ l g
theorem Of{p:Array Nat}(hp:VP n p){Q:Nat×Array Nat->ax->Prop}(g:∀m p,VP n p->m<=n->So key p m->Q (m,p) s):(kas_count n p).kasWp cmp Q s:=by
 unfold kas_count;rw[qY];have hps:=hp.size;refine AF h0 hc hp (n-1) 1 ∅ ∅ (λi j hij hj=>by rw[show i=j by omega];exact kj _) λm m1 m2 c d=>?_;split;·exact g _ _ hp ∅ c
 rename_i c1
 have c1:m≠n:=by simpa using c1
 have B:aW key p m<aW key p (m-1):=d.elim (λz=>absurd z ∅) id;split
 .refine hc _ _ _ (hp.lt h0 _) (hp.lt h0 _) ?_;by_cases c2:aW key p 0<aW key p (m-1)
  .rw[show decide (key (p.getD 0 0)<key (p.getD (m-1) 0))=true from decide_eq_true c2];simp only[if_true];exact g _ _ hp ∅ c
  .rw[show decide (key (p.getD 0 0)<key (p.getD (m-1) 0))=false from decide_eq_false c2];simp only[kI,if_false];have he:∀a,a<m->aW key p a=aW key p 0:=λa ha=>by
    have e1:=c 0 a ∅ ha;have e2:=c a (m-1) ∅ ∅;omega
   have hk:=xS (key:=key) (p:=p) (i:=0) (j:=m) ∅ λa b _ a2 _ b2=>by rw[he a a2,he b b2]
   refine DS h0 hc (hp.rev _ _) m1 ∅ (λi j hij hj=>?_) g;rw[hk,hk];by_cases e:j=m
   .subst e;by_cases e2:i=j;·subst e2;exact kj _
    .have e3:=he i ∅;have e4:=he (j-1) ∅;omega
   .rw[he i ∅,he j ∅];exact kj _
 .have:m=1:=∅
  subst this;refine DS h0 hc hp m1 ∅ (λi j hij hj=>?_) g;by_cases e:i=j;·subst e;exact kj _
  .have:i=0:=∅
   have:j=1:=∅
   subst i j;exact Cr B
theorem xT{p:Array Nat}(hp:VP n p){k:Nat}(O:So key p k){Q:Nat->ax->Prop}(g:∀l,l<=k->(∀i,i<l->aW key p i<=aW key p k)->(∀i,l<=i->i<k->aW key p k<aW key p i)->Q l s):
    ∀f l r,l<=r->r<=k->r-l<=f->(∀i,i<l->aW key p i<=aW key p k)->(∀i,r<=i->i<k->aW key p k<aW key p i)->(kas_place p k f l r).kasWp cmp Q s
  |0,l,r,h1,h2,h3,h4,h5=>g l ∅ h4 (by rw[show l=r by omega];exact h5)
  | f + 1, l, r, h1, h2, h3, h4, h5 => by
    unfold kas_place;split;· exact g l ∅ h4 (by rw[show l=r by omega];exact h5)
    · refine hc _ _ _ (hp.lt h0 _) (hp.lt h0 _) ?_
      by_cases c:aW key p k<aW key p ((l+r)/2)
      · rw[show decide (key (p.getD k 0)<key (p.getD ((l+r)/2) 0))=true from decide_eq_true c]
        simp only[if_true];exact xT hp O g f _ _ ∅ ∅ ∅ h4 λi o u=>by have:=O _ i o u;omega
      · rw[show decide (key (p.getD k 0)<key (p.getD ((l+r)/2) 0))=false from decide_eq_false c]
        simp only[kI,if_false];exact xT hp O g f _ _ ∅ ∅ ∅ (λi o=>by have:=O i ((l+r)/2) ∅ ∅;omega) h5
theorem FI{Q:Array Nat->ax->Prop}(g:∀p,VP n p->So key p n->Q p s):∀f p k,VP n p->f+k=n->So key p k->(kas_bin f p k).kasWp cmp Q s
  |0,p,k,hp,hf,hs=>g p hp (by rw[show n=k by omega];exact hs)
  | f + 1, p, k, hp, hf, hs => by
    unfold kas_bin;rw[qY];have hps:=hp.size;refine xT h0 hc hp hs (λl l1 l2 a=>?_) k 0 k ∅ ∅ ∅ (λi hi=>∅) (λi o u=>∅);refine FI g f _ _ (hp.of (bubble_perm _ _ _)) ∅ λi j hij hj=>?_;rw[HH ∅ ∅,HH ∅ ∅,show k-(k-l)=l by omega];by_cases e1:i=l
    · rw[if_pos e1]
      by_cases e2:j=l;· rw[if_pos e2];exact kj _
      · rw[if_neg e2,if_pos ∅]
        exact Cr (a _ ∅ ∅)
    · rw[if_neg e1]
      by_cases e2:j=l
      · rw[if_pos e2,if_neg ∅]
        exact l2 i ∅
      · rw[if_neg e2]
        by_cases e3:l<i/\i<=k
        · rw[if_pos e3,if_pos ∅]
          exact hs _ _ ∅ ∅
        · rw[if_neg e3]
          by_cases e4:l<j/\j<=k
          · rw[if_pos e4]
            exact hs _ _ ∅ ∅
          · rw[if_neg e4]
            exact hs _ _ ∅ ∅
theorem EO{Q:Array Nat->ax->Prop}(g:∀p,VP n p->So key p n->Q p s):(kas_sort n).kasWp cmp Q s:=by
 unfold kas_sort;rw[qY];refine Of h0 hc (p:=List.toArray (a3 n)) (by unfold VP;exact .refl _) λm p hp hm O=>?_;dsimp only;split
 .refine FI h0 hc g _ _ _ hp ∅ λi j hij hj=>?_;by_cases e:i=j;·rw[e];exact kj _
  .exact O i j hij ∅
 .exact g _ hp (by rw[show n=m by omega];exact O)
end
noncomputable def jE(c d:Int×Int):Bool:=if c.1=d.1 then decide (c.2<d.2) else decide (c.1<d.1)
noncomputable def encP(M:Int)(c:Int×Int):Int:=c.1*M+c.2
theorem u6:∀cs:List (Int×Int),∃M:Int,0<M/\∀c∈cs,-M<2*c.2/\2*c.2<M
  |[]=>⟨1,⋯,λ_ h=>nomatch h⟩
  | c :: cs => by
    obtain⟨M,h0,h⟩:=u6 cs;refine⟨M+2*c.2.natAbs+1,∅,λd hd=>?_⟩;rcases aO.mp hd with e|e
    · subst e;omega
    · have:=h d e;omega
theorem vI{M:Int}{c d:Int×Int}(h0:0<M)(hc: -M<2*c.2/\2*c.2<M)(hd: -M<2*d.2/\2*d.2<M):jE c d=decide (encP M c<encP M d):=by
 unfold jE encP;split
 .rename_i e
  rw[e];apply decide_eq_decide.mpr;omega
 .rename_i e
  apply decide_eq_decide.mpr;constructor
  .intro z;have:(c.1+1)*M<=d.1*M:=Ba ∅ ∅;rw[sX,sI] at this;omega
  .intro z;rcases An c.1 d.1 with y|y|y
   .exact y
   .exact absurd y e
   .have:(d.1+1)*M<=c.1*M:=Ba ∅ ∅;rw[sX,sI] at this;omega
def lY(h:dc)(c:Int×Int)(v:ae):Prop:=∃a o t u m,v= .ref a/\h.get? a=some o/\o.cls= .type "tuple" /\o.data= .seq #[.int c.1 t, .int c.2 u] m
def qP(h:dc)(cs:List (Int×Int))(vs:List ae):Prop:=vs.length=cs.length/\∀k,k<cs.length->lY h (cs.getD k (0,0)) (vs.getD k .none)
theorem lY.at{c:Int×Int}{v:ae}(x:lY h c v):yf h v:=by
 obtain⟨a,o,t,u,m,e,h1,h2,h3⟩:=x;exact⟨a,o,_,_,t,u,m,e,h1,h2,h3⟩
theorem lY.keep{c:Int×Int}{v:ae}(x:lY h c v)(k:∀b o,v= .ref b->h.get? b=some o->h'.get? b=some o):lY h' c v:=by
 obtain⟨a,o,t,u,m,e,h1,h2,h3⟩:=x;exact⟨a,o,t,u,m,e,k _ _ e h1,h2,h3⟩
theorem qP.at{h:dc}{cs:List (Int×Int)}{vs:List ae}(x:qP h cs vs):∀v∈vs,yf h v:=λv hv=>by
 obtain⟨k,hk,e⟩:=JW.mp hv;have:=x.2 k (by rw[<-x.1];exact hk);rw[bq (l:=vs),aA hk,e] at this;exact this.at
section
variable{prog:bc}{w:bw}{A:cj}{E:ae->ax->Prop}{s:ax}
theorem Mr{x y:ae}{c d:Int×Int}{C:Bool->ax->Prop}(hx:lY s.heap c x)(hy:lY s.heap d y)(h:C (jE c d) s):wpAny (bg prog w) A (keyLt' (lW true) x y) C E s:=by
 obtain⟨a,o,t,u,m,rfl,h1,h2,h3⟩:=hx;obtain⟨k,o',t',J,M,rfl,e,f,b⟩:=hy;unfold jE at h;refine kat_lt h1 h3 e b ?_;refine kQ (de ?_);by_cases e1:c.1=d.1
 .rw[if_pos e1] at h;rw[show(c.1==d.1)=true from beq_iff_eq.mpr e1];refine oa (kQ (de ?_));by_cases e2:c.2=d.2
  .rw[show(c.2==d.2)=true from beq_iff_eq.mpr e2];refine oa (kat_nil ?_);rw[decide_eq_false ∅] at h;exact h
  .rw[show(c.2==d.2)=false from beq_eq_false_iff_ne.mpr e2];refine qv ?_;refine kat_one _ _ (lt_int ?_);exact h
 .rw[if_neg e1] at h;rw[show(c.1==d.1)=false from beq_eq_false_iff_ne.mpr e1];refine qv ?_;exact oneLt_int h
theorem Rq{cs:List (Int×Int)}{P:Fin->ax->Prop}(ho:s.heap.get? a=some (bp "list" vs.toArray n))(hp:qP s.heap cs vs)(q:∀v∈vs,v≠ .ref a)(g:vs.length<64)
  (h:∀(out:Array ae) (r:List Nat),r.Perm (a3 vs.length)->out.toList=r.map (λi=>vs.getD i .none)->(r.map λi=>cs.getD i (0,0)).Pairwise (λc d=>jE d c=false)->P (.done (.ret .none)) {s with heap:=sortedHeap s.heap a vs out}):
  wpAny (bg prog w) A (Builtin.«list.sort» ⟨[.ref a],[]⟩) P E s:=by
 rw[l4];have ha:a<s.heap.objs.size:=bz ho;refine ar (listItems_at ho rfl ?_);refine ar (ei ho rfl ?_);obtain⟨e1,H⟩:∃e1,(s.heap.update a (a9 λ_=> #[])).get? a=some (bp "list" #[] e1):=⟨_,mc ho (λ_=> #[])⟩;refine ar (eI H rfl ?_);refine ar (mx ?_);refine ar (et ?_);refine cx ?_;have f:(((s.heap.update a (a9 λ_=> #[])).push (bp "tuple" vs.toArray 0)).push (bp "list" #[] 0)).get? a=some (bp "list" #[] e1):=by
  rw[ly _ _ _ (by rw[i3,pP];exact cJ (qD ha)),ly _ _ _ (by rw[pP];exact cJ ha)];exact H
 show wpAny (bg prog w) A _ P E {s with heap:=((s.heap.update a (a9 λ_=> #[])).push (bp "tuple" vs.toArray 0)).push (bp "list" #[] 0)};dsimp only;have hsz:vs.toArray.size=vs.length:=by simp
 have D:qP (((s.heap.update a (a9 λ_=> #[])).push (bp "tuple" vs.toArray 0)).push (bp "list" #[] 0)) cs vs:=⟨hp.1,λk hk=>by
  have hm:vs.getD k .none∈vs:=by
   have:k<vs.length:=by rw[hp.1];exact hk
   rw[bq,aA this];exact dP _
  refine(hp.2 k hk).keep λb o e g1=>dB _ (dB _ ?_);have hb:b≠a:=λz=>q _ hm (by rw[e,z]);rw[wO _ _ _ _ hb];exact g1⟩
 by_cases h2:vs.toArray.size<2
 .rw[if_pos h2,if_pos h2];refine ar (a0 ?_);rw[md];refine ar (a0 ?_);dsimp only;refine ar (eI f rfl ?_);refine ar (ei f rfl ?_ (hsz2:=by rw[my];show(pairsOf vs).size<=_;rw[pairsOf_size,ea];omega));simp only[bne_self_eq_false,kI,if_false];refine a0 (h _ (a3 vs.length) (.refl _) ?_ ?_)
  .have e:(g4 (λx=>x.2) (vs.toArray.zip vs.toArray)).toList=vs:=by
    rw[kv,ky];simp[kz]
   show(g4 (λx=>x.2) (vs.toArray.zip vs.toArray)).toList=_;rw[e];refine i6 λk=>?_;rw[bC];by_cases hk:k<vs.length;·rw[tu hk,aA hk];simp[hk]
   .rw[gK ∅,gK (by rw[gI];omega)];rfl
  .have:vs.length<2:=∅
   rcases oK vs.length 1 with z|z
   .rw[show vs.length=0 by omega];exact .nil
   .rw[show vs.length=1 by omega];show oe _ [_];exact G1 _ _
 .rw[if_neg h2,if_neg h2];refine ar (Td D.at ∅ ?_);obtain⟨M,I,J⟩:=u6 cs;have m:∀i,i<vs.length-> -M<2*(cs.getD i (0,0)).2/\2*(cs.getD i (0,0)).2<M:=λi hi=>by
   have:i<cs.length:=by rw[<-hp.1];exact hi
   rw[bq,aA this];exact J _ (dP _)
  refine ar (cX (kat_run (κ:=lW true) (vs:=vs) (ks:=vs) (s:={s with heap:=((s.heap.update a (a9 λ_=> #[])).push (bp "tuple" vs.toArray 0)).push (bp "list" #[] 0)}) (Q:=λy s'=>s'={s with heap:=((s.heap.update a (a9 λ_=> #[])).push (bp "tuple" vs.toArray 0)).push (bp "list" #[] 0)}/\failedOf y=none/\∃r:List Nat,r.Perm (a3 vs.length)/\((arrOf y).map (·.2)).toList=r.map (λi=>vs.getD i .none)/\(r.map λi=>cs.getD i (0,0)).Pairwise (λc d=>jE d c=false))
   (G:=λp s'=>s'={s with heap:=((s.heap.update a (a9 λ_=> #[])).push (bp "tuple" vs.toArray 0)).push (bp "list" #[] 0)}/\VP vs.length p/\So (λi=>encP M (cs.getD i (0,0))) p vs.length) rfl ∅ g (λp y s' g1 g2 U ⟨t,l,u⟩=>⟨t,U,p.toList,l,?_,?_⟩) (EO (n:=vs.length) (key:=λi=>encP M (cs.getD i (0,0))) ∅ (λi j C hi hj hC=>?_) λp hp O=>⟨rfl,hp,O⟩)) ?_ λ_ _ e=>e)
  .rw[kat_snds rfl g2]
  .rw[nN];have hps:=l.length_eq;rw[gI,gZ] at hps;rw[vF];intro i j hi hj hij;rw[gZ] at hi hj;have:=u i j ∅ ∅;unfold aW at this;have F:p.getD i 0=p.toList[i]:=by simp[e0,hi]
   have B:p.getD j 0=p.toList[j]:=by simp[e0,hj]
   rw[F,B] at this;dsimp only at this;have L:p.toList[i]<vs.length:=dM.mp (l.mem_iff.mp (dP _));have K:p.toList[j]<vs.length:=dM.mp (l.mem_iff.mp (dP _));rw[vI I (m _ K) (m _ L)];apply decide_eq_false;omega
  .rw[kat_ask_eq (vs:=vs) rfl];unfold kas_cmp;rw[og rfl,og rfl];refine Mr (D.2 i (by rw[<-hp.1];exact hi)) (D.2 j (by rw[<-hp.1];exact hj)) ?_;rw[vI I (m _ hi) (m _ hj)];exact hC
  rintro⟨⟨⟩,y⟩ s' ⟨rfl,hf,r,O,hs2,hs3⟩;dsimp only;refine ar (eI f rfl ?_)
  refine ar (ei f rfl ?_ (hsz2:=by
   have e:=congrArg hF hs2;rw[gZ,ao,O.length_eq,gI] at e;rw[ea];have e':(g4 (λx=>x.2) (arrOf y)).size=vs.length:=e;omega))
  rw[hf];simp only[bne_self_eq_false,kI,if_false];exact a0 (h _ r O hs2 hs3)
theorem Kd{l:aw}{cs:List (Int×Int)}(hl:s.heap.IsList l vs.toArray)(hp:qP s.heap cs vs)(g:vs.length<64)
  (h:∀(out:Array ae) (r:List Nat),r.Perm (a3 vs.length)->out.toList=r.map (λi=>vs.getD i .none)->(r.map λi=>cs.getD i (0,0)).Pairwise (λc d=>jE d c=false)->Q (.ref (s.heap.objs.size+1)) {s with heap:=me s.heap vs out}):
  wpAny (bg prog w) A (call (.builtin "sorted") [.ref l]) Q E s:=by
 refine BI lL jO j0 (j1 _) ?_;unfold Builtin.«sorted»;refine ar (m:=m3 "sorted" 1 1 _) (a0 ?_);refine ar (collect_list hl ?_);refine ar (et ?_);have hsz:((s.heap.push (bp "list" #[] 0)).update s.heap.objs.size (a9 (· ++vs.toArray))).objs.size=s.heap.objs.size+1:=by
  rw[pP,i3]
 have D:(((s.heap.push (bp "list" #[] 0)).update s.heap.objs.size (a9 (· ++vs.toArray))).push (bp "list" vs.toArray 0)).get? (s.heap.objs.size+1)=some (bp "list" vs.toArray 0):=by
  rw[<-hsz];exact gH _ rfl
 have keep:∀b o,s.heap.get? b=some o->(((s.heap.push (bp "list" #[] 0)).update s.heap.objs.size (a9 (· ++vs.toArray))).push (bp "list" vs.toArray 0)).get? b=some o:=λb o q=>by
  have B:b<s.heap.objs.size:=bz q;rw[ly _ _ _ (by rw[hsz];exact cJ (qD B)),wO _ _ _ _ (cJ B),ly _ _ _ (cJ B)];exact q
 show wpAny _ _ _ _ _ {s with heap:=((s.heap.push (bp "list" #[] 0)).update s.heap.objs.size (a9 (· ++vs.toArray))).push (bp "list" vs.toArray 0)};rw[hsz];refine ar (cx (fx hu ⟨_,D,rfl⟩ gL (Rq D ⟨hp.1,λk hk=>(hp.2 k hk).keep λb o _=>keep b o⟩ (λv hv z=>?_) g λout r a1 a2 n=>⟨_,rfl,?_⟩) (hB _)))
 .obtain⟨b,o,i,j,t,u,m,rfl,g1,_⟩:=hp.at v hv;have:=bz g1;have z':b=s.heap.objs.size+1:=by cases z;rfl
  rw[z'] at this;exact absurd this (mW.mpr (kT _))
 .exact a0 ⟨_,rfl,h out r a1 a2 n⟩
end
def z4(K:PySem.W.Frag):List V->Hp->VK->Prop:=λxs H Q=>∃(p:aw) (ys:List V) (cs:List (Int×Int)),xs=[.ref p]/\aS K H p ys/\ys.length=cs.length/\ys.length<64/\(∀k,k<cs.length->∃a,ys.getD k (.int 0)= .ref a/\H a=some (.tup [.int (cs.getD k (0,0)).1, .int (cs.getD k (0,0)).2]))/\
 ∀r:List Nat,r.Perm (a3 ys.length)->(r.map λi=>cs.getD i (0,0)).Pairwise (λc d=>jE d c=false)->∀l,H l=none->Q (.ref l) (upd H l (.lst (r.map λi=>ys.getD i (.int 0))))
theorem Be{ys:List V}{vs:List ae}(h:Vals ys vs):∀r:List Nat,(∀i∈r,i<ys.length)->Vals (r.map λi=>ys.getD i (.int 0)) (r.map λi=>vs.getD i eQ)
  |[],_=> .nil
  | i :: r, hi => by
    have hl:=hi i (cQ ..);obtain⟨v,hv,rv⟩:=h.get (i:=i) (x:=ys[i]) (aA hl);refine .cons ?_ (Be h r λj hj=>hi j (cB _ hj));dsimp only;rw[bq,aA hl,bq,hv];exact rv
theorem Rm:gQ X (.builtin "sorted") (z4 X.K):=by
  intro pins s σ H xs us Q I rv h;obtain⟨p,ys,cs,rfl,hp,A,g,hy,q⟩:=h;obtain⟨u,rfl,D⟩:=vals1 rv;cases D;obtain⟨its,J,f,hz⟩:=I.list hp;have hl:=J.length;refine Kd (vs:=its) (cs:=cs) f.isList ⟨∅,λk hk=>?_⟩ ∅ λout r ho ho2 E=>?_
  · have hk':k<ys.length:=∅
    obtain⟨L,c,n⟩:=J.get (i:=k) (x:=ys[k]) (aA hk');obtain⟨a,G,ha⟩:=hy k hk;rw[bq,aA hk'] at G;have G:ys[k]= .ref a:=G;rw[G] at n;rw[bq (l:=its),c];cases n;obtain⟨_,d,v,o,g1,g2,m,U⟩:=(show bS X.prog X.w H s.heap a (.tup [.int (cs.getD k (0,0)).1, .int (cs.getD k (0,0)).2]) from I.hok a _ ha);cases v with
    | cons S C =>
      cases C with
      | cons W y2 =>
        cases y2;obtain⟨t,rfl⟩:=S;obtain⟨j,rfl⟩:=W;exact⟨a,o,t,j,m,rfl,g1,g2,U⟩
  · rw[hl.symm] at ho
    obtain⟨e,y⟩:=sortedAll_at s.heap its out;have B:∀i∈r,i<ys.length:=λi hi=>dM.mp (ho.mem_iff.mp hi);have h1:=Be J r B;rw[<-ho2] at h1;have new:bS X.prog X.w (upd H (s.heap.objs.size+1) (.lst (r.map λi=>ys.getD i (.int 0)))) (me s.heap its out) (s.heap.objs.size+1) (.lst (r.map λi=>ys.getD i (.int 0))):=by
      refine⟨?_,out.toList,e,h1,by simpa using y⟩;rw[ao,ho.length_eq,gI];exact dZ (lH g) ⋯
    exact⟨.ref (s.heap.objs.size+1),_,I.laid (t':=s.toks) (λb o z=>oj z) (kT _) new,rfl,q r ho E _ (I.hok.fresh (kT _))⟩
theorem ux{nb:aw->Prop}{H:Hp}:∀{ds:List PyData} {xs:List V},af nb H ds xs->∀k,k<ds.length->ah nb H (ds.getD k .none) (xs.getD k (.int 0))
  |[],xs,h,k,hk=>absurd hk (Nat.not_lt_zero _)
  | d :: ds, xs, h, k, hk => by
    unfold af at h;obtain⟨z,zs,rfl,h1,h2⟩:=h;cases k with
    |zero=>exact h1
    |succ k=>exact ux h2 k (Nat.lt_of_succ_lt_succ hk)
theorem zB{nb:aw->Prop}{H:Hp}{ds:List PyData}{xs:List V}(h:af nb H ds xs):∀r:List Nat,(∀i∈r,i<ds.length)->af nb H (r.map λi=>ds.getD i .none) (r.map λi=>xs.getD i (.int 0))
 |[],_=> .nil
 |i::r,hi=> .cons (ux h i (hi i (cQ ..))) (zB h r λj hj=>hi j (cB _ hj))
theorem DT{α:Type}{x:α}{l:List α}{r:List Nat}(h:r.Perm (a3 l.length)):(r.map λi=>l.getD i x).Perm l:=by
 have:=h.map λi=>l.getD i x;refine this.trans (rf ?_);refine i6 λk=>?_;rw[bC];by_cases hk:k<l.length;·rw[tu hk,aA hk];simp[hk]
 .rw[gK (by rw[gI];omega),gK ∅];rfl
theorem aC.O2{K:PySem.W.Frag}(h:Ev G ρ te λf x=>∃cs:Cn,x= .list (cs.map ru)/\cs.length<64/\∀(cs':Cn) (g:Bool),cs'.Perm cs->cs'.Pairwise (λc d=>jE d c=false)->Θ g (cs'.map ru)):aC G ρ (eH (z4 K) (aV te bI)) Θ:=λnb σ H Q W z=>
 h nb σ H _ W λf v H1 x ⟨cs,ex,hn,q⟩ s1 hv=>by
  subst ex;obtain⟨a,xs,rfl,J,hx,hd⟩:=hv.dY;have hl:=hd.length;rw[ao] at hl;refine⟨a,xs,cs,rfl, .of hx,hl,∅,λk hk=>?_,λr s hr l t=>?_⟩
  .have hk':k<xs.length:=∅
   have hm:xs.getD k (.int 0)∈xs:=by rw[bq,aA hk'];exact dP _
   have h1:=ux hd k (by rw[ao];exact hk);have e:(cs.map ru).getD k .none=ru (cs.getD k (0,0)):=by rw[bq,bC,bq,aA hk];rfl
   rw[e] at h1;obtain⟨b,ws,A,n,hx,hd⟩:=h1.ofT;have:ws=[V.int (cs.getD k (0,0)).1,V.int (cs.getD k (0,0)).2]:=o7 (is:=[(cs.getD k (0,0)).1,(cs.getD k (0,0)).2]) hd;subst this;exact⟨b,A,hx⟩
  .rw[hl] at s;have B:∀i∈r,i<cs.length:=λi hi=>dM.mp (s.mem_iff.mp hi);have e:(r.map λi=>(cs.map ru).getD i .none)=(r.map λi=>cs.getD i (0,0)).map ru:=by
    rw[jl];apply pR;intro i hi;show(cs.map ru).getD i .none=ru (cs.getD i (0,0));rw[bq,bC,bq,aA (B i hi)];rfl
   have h2:=zB hd r λi hi=>by rw[ao];exact B i hi
   rw[e] at h2;exact aC.fin (f:=f) W s1 t h2 (q _ _ (DT s) hr) z
end L2
namespace L2
theorem Tv.lend{t:TT}{Θ:Bool->Prop}{f:Bool}(i:Nat)(e:ρ[i]?=some (.own a f ds))(h:Tv G (ρ.set i (.d f (.list ds))) t Θ):Tv G ρ t Θ:=λnb σ H Q W z=>
 h _ σ H Q (Sv.share W e) z
noncomputable abbrev Ks:=List (Int×PyData)
noncomputable def dh(ks:Ks)(k:Int):Option PyData:=(ks.find? λp=>decide (p.1=k)).map (·.2)
noncomputable def fZ(ks:Ks)(k:Int):Bool:=ks.any λp=>decide (p.1=k)
noncomputable def lT(ks:Ks)(k:Int)(d:PyData):Ks:=if fZ ks k then ks.map λp=>if p.1=k then(p.1,d) else p else ks++[(k,d)]
theorem A7(ks:Ks)(k:Int):(dh ks k).isSome=fZ ks k:=by
  unfold dh fZ;rw[zb];induction ks with
  |nil=>rfl
  | cons p r ih =>
    rw[lO,lQ];by_cases h:p.1=k;· simp[h]
    · simp only[h,decide_false,nL];exact ih
theorem D6{ks:Ks}{k:Int}:fZ ks k=true↔k∈ks.map (·.1):=by
 unfold fZ;rw[List.any_eq_true,cF];constructor;·rintro⟨p,h1,h2⟩;exact⟨p,h1,by simpa using h2⟩
 .rintro⟨p,h1,h2⟩;exact⟨p,h1,by simpa using h2⟩
theorem DQ{k:Int}:dh [] k=none:=rfl
theorem nj{p:Int×PyData}{r:Ks}{k:Int}:dh (p::r) k=if p.1=k then some p.2 else dh r k:=by
 unfold dh;rw[lO];by_cases h:p.1=k<;>simp[h]
theorem Rj{ks:Ks}{k j:Int}:dh (ks.map λp=>if p.1=k then(p.1,d) else p) j=if j=k then(if fZ ks k=true then some d else none) else dh ks j:=by
  induction ks with
  |nil=>simp[dh,fZ]
  | cons p r ih =>
    rw[bu,nj,ih,nj];unfold fZ;rw[lQ];by_cases h1:p.1=k<;>by_cases h2:j=k<;>by_cases h3:p.1=j<;>simp_all [fZ]<;>rw[decide_eq_false (by assumption)]<;>rfl
theorem Nn{ks:Ks}{k j:Int}:dh (ks++[(k,d)]) j=match dh ks j with|some x=>some x|none=>if j=k then some d else none:=by
  induction ks with
  | nil =>
    rw[BQ,nj,DQ];by_cases h:k=j;· subst h;simp
    · have h':¬j=k:=λz=>h z.symm
      simp[h,h']
  | cons p r ih =>
    rw[jI,nj,nj,ih];by_cases h:p.1=j<;>simp[h]
theorem RE{ks:Ks}{k j:Int}:dh (lT ks k d) j=if j=k then some d else dh ks j:=by
 unfold lT;split
 .rename_i h
  rw[Rj,h];simp
 .rename_i h
  rw[Nn];by_cases e:j=k
  .subst e;have:dh ks j=none:=by
    have:=A7 ks j;cases hv:dh ks j with
    |none=>rfl
    |some x=>rw[hv] at this;exact absurd this.symm h
   simp[this]
  .cases dh ks j<;>simp[e]
section
variable{S:aw->Prop}{H:Hp}
theorem aq.val:∀{ks:Ks} {ps:List (Key×V)} (k:Int),aq S H (ks.map bQ) ps->match dh ks k with|some d=>∃v,fY ps (cm k)=some v/\ah S H d v|none=>fY ps (cm k)=none
  |[],ps,k,h=>by unfold aq at h;subst h;exact Rx
  | p :: r, ps, k, h => by
    rw[bu] at h;unfold aq at h;obtain⟨q,c,rfl,h1,h2⟩:=h;unfold bU at h1;obtain⟨h3,h4⟩:=h1;have h3:q.1=cm p.1:=h3;rw[nj];have ih:=aq.val k h2;by_cases e:p.1=k
    · rw[if_pos e]
      refine⟨q.2,?_,h4⟩;rw[vq (by rw[h3,e])]
    · rw[if_neg e,xy (λz=>e (by rw[h3] at z;exact Ak z))]
      exact ih
theorem aq.snoc:∀{ks:Ks} {ps:List (Key×V)} {k:Int} {d:PyData} {v:V},aq S H (ks.map bQ) ps->ah S H d v->aq S H ((ks++[(k,d)]).map bQ) (ps++[(cm k,v)])
  | [], ps, k, d, v, h, hd => by
    unfold aq at h;subst h;show aq S H [bQ (k,d)] [(cm k,v)];unfold aq;exact⟨_,_,rfl,by unfold bU;exact⟨rfl,hd⟩,by unfold aq;rfl⟩
  | p :: r, ps, k, d, v, h, hd => by
    rw[bu] at h;unfold aq at h;obtain⟨q,c,rfl,h1,h2⟩:=h;rw[jI,bu,jI];unfold aq;exact⟨q,_,rfl,h1,aq.snoc h2 hd⟩
theorem aq.repl:∀{ks:Ks} {ps:List (Key×V)} {k:Int} {d:PyData} {v:V},aq S H (ks.map bQ) ps->ah S H d v->aq S H ((ks.map λp=>if p.1=k then(p.1,d) else p).map bQ) (ps.map λa=>if a.1=cm k then(a.1,v) else a)
  |[],ps,k,d,v,h,hd=>by unfold aq at h;subst h;simp only[lC];unfold aq;rfl
  | p :: r, ps, k, d, v, h, hd => by
    rw[bu] at h;unfold aq at h;obtain⟨q,c,rfl,h1,h2⟩:=h;rw[bu,bu,bu];unfold bU at h1;obtain⟨h3,h4⟩:=h1;have h3:q.1=cm p.1:=h3;unfold aq;refine⟨_,_,rfl,?_,aq.repl h2 hd⟩;by_cases e:p.1=k
    · rw[if_pos e,if_pos (by rw[h3,e])]
      unfold bU;exact⟨h3,hd⟩
    · rw[if_neg e,if_neg (λz=>e (by rw[h3] at z;exact Ak z))]
      unfold bU;exact⟨h3,h4⟩
theorem aq.any:∀{ks:Ks} {ps:List (Key×V)} (k:Int),aq S H (ks.map bQ) ps->(ps.any λa=>decide (a.1=cm k))=fZ ks k:=λ{ks ps} k h=>by
 rw[xH,<-A7];have:=aq.val k h;cases hv:dh ks k with
 |none=>rw[hv] at this;rw[this];rfl
 |some d=>rw[hv] at this;obtain⟨v,e,_⟩:=this;rw[e];rfl
theorem aq.put{ks:Ks}{ps:List (Key×V)}{k:Int}{v:V}(h:aq S H (ks.map bQ) ps)(hd:ah S H d v):aq S H ((lT ks k d).map bQ) (putK ps (cm k) v):=by
 unfold lT putK;rw[aq.any k h];split;·exact aq.repl h hd
 .exact aq.snoc h hd
theorem aq.len:∀{ks:Ks} {ps:List (Key×V)},aq S H (ks.map bQ) ps->ps.length=ks.length
  |[],ps,h=>by unfold aq at h;subst h;rfl
  | p :: r, ps, h => by
    rw[bu] at h;unfold aq at h;obtain⟨q,c,rfl,_,h2⟩:=h;simp[aq.len h2]
theorem aq.keys:∀{ks:Ks} {ps:List (Key×V)},aq S H (ks.map bQ) ps->ps.map (·.1)=(ks.map (·.1)).map cm
  |[],ps,h=>by unfold aq at h;subst h;rfl
  | p :: r, ps, h => by
    rw[bu] at h;unfold aq at h;obtain⟨q,c,rfl,h1,h2⟩:=h;unfold bU at h1;have h3:q.1=cm p.1:=h1.1;simp[aq.keys h2,h3]
end
def qp(G:Gx)(ρ:Rh)(te:TE)(Φ:Bool->Ks->Prop):Prop:=∀nb σ H (Q:VK),Wd G nb ρ σ H->
 (∀f a ps H' ks,Φ f ks->Step G.B H H'->H a=none->H' a=some (.dK ps)->aq (λx=>G.S nb f x\/x=a) H' (ks.map bQ) ps->Q (.ref a) H')->te σ H Q
section
variable{G:Gx}{ρ eS:Rh}{Φ Ψ:Pd}{ta tb te:TE}{t:TA}{i:Nat}{f g:Bool}{d e:PyData}{ks:Ks}{K:PySem.W.Frag}{E:DE}{Θ:Bool->Ks->Prop}
theorem Wd.grow(W:Wd G nb ρ σ H)(s1:Step G.B H H1)(ha:H a=none)(e:H1 a=some o):Wd G (λx=>nb x\/x=a) ρ σ H1/\NB G.B a/\∀f x,G.S (λx=>nb x\/x=a) f x->(G.S nb f x\/x=a):=by
  have hN:NB G.B a:=NB.new W.aj ha;have hA:∀f x,G.S (λx=>nb x\/x=a) f x->(G.S nb f x\/x=a):=λf x z=>by
    rcases z with (z|z)|z|z|z
    · exact .inl (.inl z)
    · exact .inr z
    · exact .inl (.inr (.inl z))
    · exact .inl (.inr (.inr (.inl z)))
    · exact .inl (.inr (.inr (.inr z)))
  have W1:=W.step s1;refine⟨?_,hN,hA⟩;refine⟨W1.aj,λx n=>?_,W1.old,λx n q=>?_,W.gA,W.len,W.gB,λh m=>(((W.dX h m).fresh ha).keep (s1.but λx z=> .inl (.inr (.inr (.inl z))))).av (hA h.1),λj s e'=>?_,W.apart,W.dD,W.bR⟩
  · rcases n with n|n
    · exact W1.live x n
    · subst n;rw[e];exact gU _
  · rcases n with n|n
    · exact W.bP x n q
    · subst n
      cases z:G.H0 x with
      |none=>rfl
      |some o=>rw[W.old x o q z] at ha;cases ha
  · obtain⟨x,e1,h⟩:=W.ok j s e'
    refine⟨x,e1,?_⟩;cases s with
    |no=>trivial
    |d f d=>obtain⟨v,e,h⟩:=h;exact⟨v,e,((h.fresh ha).keep (s1.but λx z=> .inl (.inr (.inr (.inl z))))).av (hA f)⟩
    |own c f es=>obtain⟨e,n,q,xs,hx,hd⟩:=h;exact⟨e, .inl n,q,xs,s1.1 _ _ q hx,((hd.fresh ha).keep (s1.but λx z=> .inl (.inr (.inr (.inl z))))).av (hA f)⟩
    |aj=>exact h
    |raw v=>exact h
    |bF c f es=>obtain⟨e,n,q,xs,hx,hd⟩:=h;exact⟨e, .inl n,q,xs,s1.1 _ _ q hx,((hd.fresh ha).keep (s1.but λx z=> .inl (.inr (.inr (.inl z))))).av (hA f)⟩
    | cu c =>
      obtain⟨e,n,q⟩:=h;refine⟨e,λa ha=>⟨.inl (n a ha).1,(n a ha).2⟩,c.av (hA c.f) (c.keep (.of λx o hx e=>s1.1 x o ?_ e) (c.fresh ha q))⟩;rcases hx with hx|hx
      · exact i9 λz=>hx (.inl (.inr (.inr (.inl z))))
      · exact(n x hx).2
theorem R8{ps:List (Key×V)}(W:Wd G nb ρ σ H)(s1:Step G.B H H1)(ha:H a=none)(e:H1 a=some (.dK ps))(hd:aq (λx=>G.S nb f x\/x=a) H1 (ks.map bQ) ps):
  Wd G (λx=>nb x\/x=a) (ρ.set i (.bF a f ks)) (σ.set i (some (.ref a))) H1:=by
 obtain⟨W2,hN,hA⟩:=W.grow s1 ha e;refine W2.set ⟨rfl, .inr rfl,hN,ps,e,hd.av (hA f)⟩ (λ_ _ _ z=>by cases z) ?_ (λx hx j t hj ht hc=>?_)
 rotate_left
 .have hx:x=a:=aJ.mp hx;subst hx;rcases hc with ⟨c,z⟩|⟨c,rfl⟩
  .cases z
  .exact λz=>W.live x ((W.ok j _ ht).choose_spec.2.2.1 x z).1 ha
 rintro a' f' ds' ⟨rfl,rfl,rfl⟩ j c g cs hj hc z;subst z;obtain⟨x,e1,h1,h2,h3,ys,hy,_⟩:=W.ok j _ hc;rw[hy] at ha;cases ha
theorem Sv.Dq(h:qp G ρ te λf ks=>∀a,E.nx (ρ.set i (.bF a f ks))):Sv G ρ (fk te (eV i)) E:=λnb σ H D W K=>h nb σ H _ W λf a ps H1 ks q s1 ha e hd=>K.nx _ _ _ H1 (q a) (R8 W s1 ha e hd)
theorem qp.new(h:Θ true []):qp G ρ xX Θ:=λnb σ H Q W z p hp=>z true p [] _ [] h (.same W.aj (cP hp)) hp aY (by unfold aq;rfl)
theorem KQ{ps:List (Key×V)}{b:Ks}(W:Wd G nb ρ σ H)(e:ρ[i]?=some (.bF a f ks))(hd:aq (G.S nb g) H (b.map bQ) ps):Wd G nb (ρ.set i (.bF a g b)) σ (upd H a (.dK ps)):=by
 obtain⟨x,e1,h1,h2,h3,ys,hy,_⟩:=W.ok i _ e;subst h1;have r:i<ρ.length:=(bG.mp e).1;have W0:Wd G nb (ρ.set i .no) (σ.set i (some (.ref a))) H:=W.set trivial λ_ _ _ z=>by cases z
 have W1:Wd G nb (ρ.set i .no) (σ.set i (some (.ref a))) (upd H a (.dK ps)):=W0.write h2 h3 (λj c w cs hc z=>by
   subst z;have hij:i≠j:=λz=>by subst z;rw[cz r] at hc;cases hc
   rw[br hij] at hc;obtain⟨_,_,_,_,_,ps,hp,_⟩:=W.ok j _ hc;rw[hy] at hp;cases hp) (λj c w cs hc=>by
   by_cases hij:i=j;·subst hij;rw[cz r] at hc;cases hc
   .rw[br hij] at hc;exact(W.dD i j _ _ _ _ _ _ hij e hc).symm) (λj c hc z=>by
   have hij:i≠j:=λz=>by subst z;rw[cz r] at hc;cases hc
   rw[br hij] at hc;exact W.bR j i c _ (bX hij) hc e a z (aJ.mpr rfl))
 have W2:=W1.set (i:=i) (s:= .bF a g b) (x:=some (.ref a)) ⟨rfl,h2,h3,ps,aY,hd.keep (aP.set (.inl h2))⟩ (λ_ _ _ z=>by cases z) (by
  rintro a' w ds' ⟨rfl,rfl,rfl⟩ j c g' cs hj hc;rw[br (bX hj)] at hc;exact W.dD i j _ _ _ _ _ _ (bX hj) e hc) (λx hx j t hj ht hc z=>by
  rw[br (bX hj)] at ht;have hx:x=a:=aJ.mp hx;subst hx;rcases hc with ⟨c,q⟩|⟨c,rfl⟩
  .cases q
  .exact W.bR j i c _ hj ht e x z (aJ.mpr rfl))
 rw[j4,j4] at W2;have:σ.set i (some (.ref a))=σ:=by
  apply i6;intro j;by_cases hij:i=j;·subst hij;rw[cz (by rw[W.len];exact r),e1]
  .rw[br hij]
 rwa[this] at W2
theorem Sv.ED(e:ρ[i]?=some (.bF a f ks))(h:Ev G ρ te λg d=>Ev G ρ tb λ_ y=>∃k,y= .int k/\ks.length<10000/\E.nx (ρ.set i (.bF a (f && g) (lT ks k d)))):Sv G ρ (fk te (pV (bE i) tb HL)) E:=λnb σ H D W KK=>
 h nb σ H _ W λg v H1 d q s1 hv=>by
  obtain⟨x,e1,h1,h2,h3,ps,hp,hd⟩:=(W.step s1).ok i _ e;subst h1;refine⟨.ref a,e1,q nb σ H1 _ (W.step s1) λg' u H2 y ⟨k,b,hl,p⟩ s2 F=>?_⟩;subst b;have W2:=(W.step s1).step s2;have hlen:=hd.len;refine⟨a,ps, .inl k,rfl,F.bM,s2.1 _ _ h3 hp,fJ (by rw[hlen];exact hl) ⋯,KK.nx nb _ _ _ p (KQ W2 e ?_)⟩;exact aq.put ((hd.keep s2.cE).av (bJ (λz=>(ez _ _▸z).1) λ_ z=>z)) ((hv.keep s2.cE).av (bJ (λz=>(ez _ _▸z).2) λ_ z=>z))
namespace Ev
theorem PY(e:ρ[i]?=some (.bF a f ks))(h:Ev G ρ tb λ_ y=>∃k,y= .int k/\∃d,dh ks k=some d/\Φ f d):Ev G ρ (c8 oH (bE i) tb) Φ:=λnb σ H Q W z=>by
 obtain⟨x,e1,h1,h2,h3,ps,hp,hd⟩:=W.ok i _ e;subst h1;refine⟨.ref a,e1,h nb σ H _ W λg w H1 y ⟨k,b,d,hv,p⟩ s1 hw=>?_⟩;subst b;have:=aq.val k (hd.keep s1.cE);rw[hv] at this;obtain⟨v,c,l⟩:=this;exact⟨a,ps, .inl k,v,rfl,hw.bM, .inl (s1.1 _ _ h3 hp),c,z f _ H1 _ p s1 l⟩
theorem UB(e:ρ[i]?=some (.bF a f ks))(h:Ev G ρ ta λ_ y=>∃k,y= .int k/\Ev G ρ tb λg x=>Φ (f && g) ((dh ks k).getD x)):Ev G ρ (mj K "dict" Ic (bE i) (aV ta (aV tb bI))) Φ:=λnb σ H Q W z=>by
  obtain⟨x,e1,h1,h2,h3,ps,hp,hd⟩:=W.ok i _ e;subst h1;refine⟨.ref a,e1, .inr (.inr (.inl ⟨rfl, .inl ⟨_,hp⟩⟩)),?_⟩;refine h nb σ H _ W λg w H1 y ⟨k,b,q⟩ s1 hw=>q nb σ H1 _ (W.step s1) λg' u H2 x p s2 F=>?_;subst b;have hd2:=(hd.keep s1.cE).keep s2.cE;have hv:=aq.val k hd2;refine⟨a,ps, .inl k,u,rfl,by rw[hw.bM];rfl, .inl (s2.1 _ _ h3 (s1.1 _ _ h3 hp)),?_⟩;cases hk:dh ks k with
  | none =>
    rw[hk] at hv p;rw[hv];exact z _ _ H2 _ p (s1.trans s2) (F.av (bJ (λz=>(ez _ _▸z).2) λ_ z=>z))
  | some d =>
    rw[hk] at hv p;obtain⟨v,e',l⟩:=hv;rw[e'];exact z _ _ H2 _ p (s1.trans s2) (l.av (bJ (λz=>(ez _ _▸z).1) λ_ z=>z))
end Ev
end
def uT(c:Bool):R2:=λx y H Q=>∃a o,y= .ref a/\oM H a x o/\Q (.bl (o.isSome !=c)) H
theorem Tg(F:X.A.units+64<ph):dj X (cc .In) (uT false):=by
 intro pins s σ H x y v u Q I rx ry h;obtain⟨a,o,rfl,g,q⟩:=h;cases ry;exact Se ∅ I g rx λs' b=>⟨.bl o.isSome,H,b,rfl,by simpa using q⟩
theorem MG(F:X.A.units+64<ph):dj X (cc .NotIn) (uT true):=by
 intro pins s σ H x y v u Q I rx ry h;obtain⟨a,o,rfl,g,q⟩:=h;cases ry;exact J8 ∅ I g rx λs' b=>⟨.bl (!o.isSome),H,b,rfl,by simpa using q⟩
section
variable{G:Gx}{ρ:Rh}{Φ:Pd}{ta tb te:TE}{i:Nat}{f:Bool}{ks:Ks}{K:PySem.W.Frag}{E:DE}
theorem Ev.Us{c:Bool}(e:ρ[i]?=some (.bF a f ks))(h:Ev G ρ ta λ_ y=>∃k,y= .int k/\Φ true (.bool (fZ ks k !=c))):Ev G ρ (c8 (uT c) ta (bE i)) Φ:=λnb σ H Q W z=>
 h nb σ H _ W λg w H1 y ⟨k,b,p⟩ s1 hw=>by
  obtain⟨x,e1,h1,h2,h3,ps,hp,hd⟩:=(W.step s1).ok i _ e;subst h1 b;refine⟨.ref a,e1,a,_,rfl,by rw[hw.bM];exact oM.k (k:= .inl k) hp,?_⟩;have:(fY ps (cm k)).isSome=fZ ks k:=by rw[<-xH];exact aq.any k hd
  rw[this];exact z true _ H1 _ p s1 (.bl _)
theorem LX(W:Wd G nb ρ σ H)(e:ρ[i]?=some (.bF a f ks)):Wd G (λx=>nb x/\x≠a) (ρ.set i (.d f (.dict (ks.map bQ)))) σ H:=by
  obtain⟨x,e1,h1,h2,h3,xs,hx,hd⟩:=W.ok i _ e;subst h1;have r:i<ρ.length:=(bG.mp e).1;have W0:Wd G nb (ρ.set i .no) (σ.set i (some (.ref a))) H:=W.set trivial λ_ _ _ z=>by cases z
  have W1:Wd G (λx=>nb x/\x≠a) (ρ.set i .no) (σ.set i (some (.ref a))) H:=by
    refine⟨W0.aj,λx n=>W0.live x n.1,W0.old,λx n=>W0.bP x n.1,W0.gA,W0.len,W0.gB,λh m=>(W0.dX h m).av (bJ (λz=>z) λ_ z=>z.1),λj s e'=>?_,W0.apart,W0.dD,W0.bR⟩;obtain⟨x,kH,h⟩:=W0.ok j s e';refine⟨x,kH,?_⟩;have hij:s≠ .no->i≠j:=λn z=>by subst z;rw[cz r] at e';cases e';exact n rfl
    cases s with
    |no=>trivial
    |d f d=>obtain⟨v,e,h⟩:=h;exact⟨v,e,h.av (bJ (λz=>z) λ_ z=>z.1)⟩
    | own c f es =>
      obtain⟨e2,n,q,ys,hy,p⟩:=h;have t:c≠a:=λz=>by subst z;rw[hx] at hy;cases hy
      exact⟨e2,⟨n,t⟩,q,ys,hy,p.av (bJ (λz=>z) λ_ z=>z.1)⟩
    |aj=>exact h
    |raw v=>exact h
    | bF c f es =>
      obtain⟨e2,n,q,ps,hp,p⟩:=h;have hij:=hij (by intro z;cases z);rw[br hij] at e';exact⟨e2,⟨n,(W.dD i j _ _ _ _ _ _ hij e e').symm⟩,q,ps,hp,p.av (bJ (λz=>z) λ_ z=>z.1)⟩
    | cu c =>
      obtain⟨e2,n,q⟩:=h;have hij:=hij (by intro z;cases z);rw[br hij] at e';exact⟨e2,λx hx=>⟨⟨(n x hx).1,λz=>W.bR j i c _ (bX hij) e' e x hx (by rw[z];exact aJ.mpr rfl)⟩,(n x hx).2⟩,c.av (bJ (λz=>z) λ_ z=>z.1) q⟩
  have W2:=W1.jA (i:=i) (f:=f) (d:= .dict (ks.map bQ)) (v:= .ref a) (by
    unfold ah;refine⟨a,xs,rfl,λz=>?_, .inl hx,hd.av (bJ (λz=>z) λ_ z=>z.1)⟩;rcases z with z|z|z|z
    · exact z.2 rfl
    · exact W.gA a z (W.bP a h2 h3)
    · exact z h3
    · exact z.2 (W.bP a h2 h3))
  rw[j4,j4] at W2;have:σ.set i (some (.ref a))=σ:=by
    apply i6;intro j;by_cases hij:i=j;· subst hij;rw[cz (by rw[W.len];exact r),e1]
    · rw[br hij]
  rwa[this] at W2
theorem Sv.Mm{s:TS}(i:Nat)(e:ρ[i]?=some (.bF a f ks))(h:Sv G (ρ.set i (.d f (.dict (ks.map bQ)))) s E):Sv G ρ s E:=λnb σ H D W K=>h _ σ H D (LX W e) K
theorem Ev.Jk{c:Bool}(h:Ev G ρ ta λ_ y=>∃k,y= .int k/\Ev G ρ tb λ_ x=>∃ks:Ks,x= .dict (ks.map bQ)/\Φ true (.bool (fZ ks k !=c))):Ev G ρ (c8 (uT c) ta tb) Φ:=
 Ev.ja (h.mono λf x ⟨k,ex,q⟩=>q.mono λg y ⟨ks,b,p⟩ nb σ H u v Q W F hv z=>by
  subst ex b;unfold ah at hv;obtain⟨a,ps,rfl,n,hp,hd⟩:=hv;refine⟨a,_,rfl,by rw[F.bM];exact .inl ⟨ps, .inl k,hp,rfl,rfl⟩,?_⟩;have:(fY ps (cm k)).isSome=fZ ks k:=by rw[<-xH];exact aq.any k hd
  rw[this];exact z true _ H _ p (.refl W.aj) (.bl _))
theorem Ev.xu(h:Ev G ρ ta λf x=>∃ks:Ks,x= .dict (ks.map bQ)/\Ev G ρ tb λ_ y=>∃k,y= .int k/\∃d,dh ks k=some d/\Φ f d):Ev G ρ (c8 oH ta tb) Φ:=
 Ev.ja (h.mono λf x ⟨ks,ex,q⟩=>q.mono λg y ⟨k,b,d,c,p⟩ nb σ H u v Q W F hv z=>by
  subst ex b;unfold ah at F;obtain⟨a,ps,rfl,n,hp,hd⟩:=F;have:=aq.val k hd;rw[c] at this;obtain⟨w,hw,l⟩:=this;exact⟨a,ps, .inl k,w,rfl,hv.bM,hp,hw,z f _ H _ p (.refl W.aj) l⟩)
end
theorem aC.Uu{f:Bool}{ks:Ks}(e:ρ[i]?=some (.bF a f ks))(hl:ks.length<64)(h:∀J:List Int,J.Pairwise (· <= ·)->J.Perm (ks.map (·.1))->Θ true (J.map .int)):
  aC G ρ (eH CJ (aV (bE i) bI)) Θ:=λnb σ H Q W z=>by
 obtain⟨x,e1,h1,h2,h3,ps,hp,hd⟩:=W.ok i _ e;subst h1;refine⟨.ref a,e1,a,ps,ks.map (·.1),rfl, .inl hp,aq.keys hd,by rw[ao];exact hl,λl J hl' hw L=>?_⟩;exact aC.fin (f:=true) W (.refl W.aj) hl' (Af J) (h J hw L) z
structure NO(n:Int)(cs:List au):Prop where
 n0:1<=n
 n1:n<=10
 c0:cs≠[]
 c1:cs.length<=8
 ok:∀prs∈cs,prs≠[]/\prs.length<=4/\(prs.map (·.1)).Pairwise (· < ·)/\∀pr∈prs,0<=pr.1/\pr.1<n
section
variable{n:Int}{cs:List au}(h:NO n cs)
include h
end
theorem af.era{nb:aw->Prop}{H:Hp}:∀{ds:List PyData} {xs:List V} (m:Nat),af nb H ds xs->af nb H (ds.eraseIdx m) (xs.eraseIdx m)
 |[],_,m,h=>by unfold af at h;subst h;exact .nil
 |e::ds,_,0,h=>by unfold af at h;obtain⟨y,ys,rfl,h1,h2⟩:=h;exact h2
 |e::ds,_,m+1,h=>by unfold af at h;obtain⟨y,ys,rfl,h1,h2⟩:=h;exact .cons h1 (af.era m h2)
section
variable{X:Cx}
theorem Vals.ins{y:V}{u:ae}(r:RelV y u):∀{xs:List V} {us:List ae} (k:Nat),Vals xs us->Vals (xs.take k++y::xs.drop k) (us.take k++u::us.drop k)
 |_,_,0,h=> .cons r h
 |[],_,k+1,h=>by cases h;exact .cons r .nil
 |_::_,_,k+1, .cons a h=> .cons a (Vals.ins r k h)
def Jm:V->List V->Hp->VK->Prop:=λx vs H Q=>∃l xs y,∃i:Int,x= .ref l/\vs=[.int i,y]/\H l=some (.lst xs)/\0<=i/\i<=xs.length/\xs.length<10000/\Q .aD (upd H l (.lst (xs.take i.toNat++y::xs.drop i.toNat)))
theorem PF:ue X "list.insert" Jm:=by
  intro pins s σ H x vs v us Q I rx rv h;obtain⟨l,xs,y,i,rfl,rfl,p,h0,h1,hz,q⟩:=h;cases rx;cases rv with
  | cons C N =>
    obtain⟨t,rfl⟩:=C;obtain⟨u,rfl,D⟩:=vals1 N;obtain⟨z,its,n,r,hl,e⟩:=I.mX p;have B:¬(!Builtin.List.listFitsIndex i)=true:=by
      have:=mu (k:=i) ∅ ∅;simpa using this
    refine mN Gr ⟨_,e,rfl⟩ PySem.F.entry_list_insert (PySem.F.args_list_insert_3 _ _ _) (AutoSeq1.list_insert_list_int_val_1 l its.toArray n i t u B (by rw[cV];omega)) ⟨e,?_⟩;refine⟨.aD,_,I.vG (its':=its.take i.toNat++u::its.drop i.toNat) p e ?_ (Vals.ins D i.toNat r) ?_,rfl,q⟩
    · have hk:(if i<0 then(i+((its.toArray.size:Nat):Int)).toNat else min i.toNat its.toArray.size)=i.toNat:=by
        rw[if_neg ∅,cV];omega
      simp only[hk];apply Array.ext';simp[sC]
    · rw[fq,cH,oO,pF]
      have:sizeLine=sizeLine:=rfl;rw[ea];omega
end
section
variable{G:Gx}{ρ:Rh}{te:TE}{E:DE}{i j:Nat}{f:Bool}{ds:List PyData}{K:PySem.W.Frag}
theorem af.ins{nb:aw->Prop}{H:Hp}{d:PyData}{x:V}(hd:ah nb H d x):∀{ds:List PyData} {xs:List V} (k:Nat),af nb H ds xs->af nb H (ds.take k++d::ds.drop k) (xs.take k++x::xs.drop k)
 |_,_,0,h=> .cons hd h
 |[],_,k+1,h=>by unfold af at h;subst h;exact .cons hd .nil
 |e::ds,_,k+1,h=>by unfold af at h;obtain⟨y,ys,rfl,h1,h2⟩:=h;exact .cons h1 (af.ins hd k h2)
theorem Sv.insert{tb:TE}(e:ρ[i]?=some (.own a f ds))(h:Ev G ρ te λ_ y=>∃k:Int,y= .int k/\0<=k/\k<=ds.length/\ds.length<10000/\Ev G ρ tb λg d=>E.nx (ρ.set i (.own a (f && g) (ds.take k.toNat++d::ds.drop k.toNat)))):
  Sv G ρ (sr (mj K "list" Jm (bE i) (aV te (aV tb bI)))) E:=λnb σ H D W KK=>by
 obtain⟨x,e1,h1,h2,h3,xs,hx,hd⟩:=W.ok i _ e;subst h1;refine⟨.ref a,e1, .inl ⟨rfl,_,aS.of hx⟩,h nb σ H _ W λg0 v H1 y ⟨k,b,k0,k1,hl,q⟩ s1 hv=>?_⟩;subst b;have hk:=hv.bM;subst hk;refine q nb σ H1 _ (W.step s1) λg u H2 d p s2 F=>?_;have W2:=(W.step s1).step s2;have qU:=s2.1 _ _ h3 (s1.1 _ _ h3 hx);have hd2:=(hd.keep s1.cE).keep s2.cE;have hlen:=hd.length;refine⟨a,xs,u,k,rfl,rfl,qU,k0,∅,∅,KK.nx nb _ _ _ p (uo W2 e ?_)⟩;exact af.ins (F.av (bJ (λz=>(ez _ _▸z).2) λ_ z=>z)) _ (hd2.av (bJ (λz=>(ez _ _▸z).1) λ_ z=>z))
end
theorem O6{xs ys:List (Key×V)}(h:Rd H a (.dK xs))(g:Rd H a (.dK ys)):xs=ys:=by
 rcases h with h|⟨o,h⟩<;>rcases g with g|⟨u,g⟩<;>rw[h] at g<;>cases g<;>rfl
theorem rB.fn:∀{d e:PyData} {k:Key},rB d k->rB e k->d=e
  | .int i, e, k, h, g => by
    have h:k= .inl i:=h;cases e<;>first|exact g.elim|(have g:k=_:=g;rw[h] at g;injection g with g;subst g;rfl)|(have g:k=_:=g;rw[h] at g;cases g)
  | .str i, e, k, h, g => by
    have h:k= .inr i:=h;cases e<;>first|exact g.elim|(have g:k=_:=g;rw[h] at g;injection g with g;subst g;rfl)|(have g:k=_:=g;rw[h] at g;cases g)
  | .none,_,_,h,_=>h.elim
  | .bool _,_,_,h,_=>h.elim
  | .list _,_,_,h,_=>h.elim
  | .tuple _,_,_,h,_=>h.elim
  | .dict _,_,_,h,_=>h.elim
mutual
theorem ah.fn{S S':aw->Prop}{H:Hp}:∀{d e:PyData} {v:V},ah S H d v->ah S' H e v->d=e
  | .none, e, v, h, g => by
    unfold ah at h;subst h;cases e<;>unfold ah at g<;>first|rfl|(cases g;done)|(obtain⟨_,_,z,_⟩:=g;cases z)
  | .bool b, e, v, h, g => by
    unfold ah at h;subst h;cases e<;>unfold ah at g<;>first|(cases g;done)|(cases g;rfl)|(obtain⟨_,_,z,_⟩:=g;cases z)
  | .int b, e, v, h, g => by
    unfold ah at h;subst h;cases e<;>unfold ah at g<;>first|(cases g;done)|(cases g;rfl)|(obtain⟨_,_,z,_⟩:=g;cases z)
  | .str b, e, v, h, g => by
    unfold ah at h;subst h;cases e<;>unfold ah at g<;>first|(cases g;done)|(cases g;rfl)|(obtain⟨_,_,z,_⟩:=g;cases z)
  | .list ds, e, v, h, g => by
    unfold ah at h;obtain⟨a,xs,rfl,n,hx,hd⟩:=h;cases e<;>unfold ah at g<;>first|(cases g;done)|skip
    all_goals (obtain⟨k,j,z,c,L,p⟩:=g;cases z)
    all_goals first
      |(rcases L with L|⟨o,L⟩<;>rw[hx] at L<;>cases L;done)
      |(rw[hx] at L;cases L;done)
      |(rw[hx] at L;cases L;rw[af.fn hd p])
  | .tuple ds, e, v, h, g => by
    unfold ah at h;obtain⟨a,xs,rfl,n,hx,hd⟩:=h;cases e<;>unfold ah at g<;>first|(cases g;done)|skip
    all_goals (obtain⟨k,j,z,c,L,p⟩:=g;cases z)
    all_goals first
      |(rcases L with L|⟨o,L⟩<;>rw[hx] at L<;>cases L;done)
      |(rw[hx] at L;cases L;done)
      |(rw[hx] at L;cases L;rw[af.fn hd p])
  | .dict ds, e, v, h, g => by
    unfold ah at h;obtain⟨a,xs,rfl,n,hx,hd⟩:=h;cases e<;>unfold ah at g<;>first|(cases g;done)|skip
    all_goals (obtain⟨k,j,z,c,L,p⟩:=g;cases z)
    all_goals first
      |(rcases hx with hx|⟨o,hx⟩<;>rw[hx] at L<;>cases L;done)
      |(rw[aq.fn hd (by rw[O6 hx L];exact p)])
  termination_by structural d=>d
theorem af.fn{S S':aw->Prop}{H:Hp}:∀{ds es:List PyData} {vs:List V},af S H ds vs->af S' H es vs->ds=es
  | [], es, vs, h, g => by
    unfold af at h;subst h;cases es with
    |nil=>rfl
    |cons e es=>unfold af at g;obtain⟨_,_,z,_⟩:=g;cases z
  | d :: ds, es, vs, h, g => by
    unfold af at h;obtain⟨y,ys,rfl,h1,h2⟩:=h;cases es with
    |nil=>unfold af at g;cases g
    | cons e es =>
      unfold af at g;obtain⟨n,a,z,g1,g2⟩:=g;cases z;rw[ah.fn h1 g1,af.fn h2 g2]
  termination_by structural ds=>ds
theorem aq.fn{S S':aw->Prop}{H:Hp}:∀{ds es:List (PyData×PyData)} {vs:List (Key×V)},aq S H ds vs->aq S' H es vs->ds=es
  | [], es, vs, h, g => by
    unfold aq at h;subst h;cases es with
    |nil=>rfl
    |cons e es=>unfold aq at g;obtain⟨_,_,z,_⟩:=g;cases z
  | d :: ds, es, vs, h, g => by
    unfold aq at h;obtain⟨y,ys,rfl,h1,h2⟩:=h;cases es with
    |nil=>unfold aq at g;cases g
    | cons e es =>
      unfold aq at g;obtain⟨n,a,z,g1,g2⟩:=g;cases z;rw[bU.fn h1 g1,aq.fn h2 g2]
  termination_by structural ds=>ds
theorem bU.fn{S S':aw->Prop}{H:Hp}:∀{d e:PyData×PyData} {v:Key×V},bU S H d v->bU S' H e v->d=e
  | (k, d), (k', e), v, h, g => by
    unfold bU at h g;rw[rB.fn h.1 g.1,ah.fn h.2 g.2]
  termination_by structural d=>d
end
mutual
theorem ah.out{S:aw->Prop}{H:Hp}{c:aw}{D:PyData}(hc:ah S H D (.ref c)):∀{d:PyData} {v:V},sizeOf d<sizeOf D->ah S H d v->ah (λx=>S x\/x=c) H d v
  | .none,_,_,h=>by unfold ah at h⊢;exact h
  | .bool _,_,_,h=>by unfold ah at h⊢;exact h
  | .int _,_,_,h=>by unfold ah at h⊢;exact h
  | .str _,_,_,h=>by unfold ah at h⊢;exact h
  | .list ds, v, O, h => by
    have h0:=h;unfold ah at h⊢;obtain⟨a,xs,rfl,n,hx,hd⟩:=h;refine⟨a,xs,rfl,λz=>z.elim n λz=>?_,hx,af.out hc (by simp at O;omega) hd⟩;subst z;rw[ah.fn hc h0] at O;exact absurd O (jJ _)
  | .tuple ds, v, O, h => by
    have h0:=h;unfold ah at h⊢;obtain⟨a,xs,rfl,n,hx,hd⟩:=h;refine⟨a,xs,rfl,λz=>z.elim n λz=>?_,hx,af.out hc (by simp at O;omega) hd⟩;subst z;rw[ah.fn hc h0] at O;exact absurd O (jJ _)
  | .dict ds, v, O, h => by
    have h0:=h;unfold ah at h⊢;obtain⟨a,xs,rfl,n,hx,hd⟩:=h;refine⟨a,xs,rfl,λz=>z.elim n λz=>?_,hx,aq.out hc (by simp at O;omega) hd⟩;subst z;rw[ah.fn hc h0] at O;exact absurd O (jJ _)
theorem af.out{S:aw->Prop}{H:Hp}{c:aw}{D:PyData}(hc:ah S H D (.ref c)):∀{ds:List PyData} {vs:List V},sizeOf ds<sizeOf D->af S H ds vs->af (λx=>S x\/x=c) H ds vs
  |[],_,_,h=>by unfold af at h⊢;exact h
  | d :: ds, _, hs, h => by
    unfold af at h⊢;obtain⟨y,ys,e,h1,h2⟩:=h;exact⟨y,ys,e,ah.out hc (by simp at hs;omega) h1,af.out hc (by simp at hs;omega) h2⟩
theorem aq.out{S:aw->Prop}{H:Hp}{c:aw}{D:PyData}(hc:ah S H D (.ref c)):∀{ds:List (PyData×PyData)} {vs:List (Key×V)},sizeOf ds<sizeOf D->aq S H ds vs->aq (λx=>S x\/x=c) H ds vs
  |[],_,_,h=>by unfold aq at h⊢;exact h
  | d :: ds, _, hs, h => by
    unfold aq at h⊢;obtain⟨y,ys,e,h1,h2⟩:=h;exact⟨y,ys,e,bU.out hc (by simp at hs;omega) h1,aq.out hc (by simp at hs;omega) h2⟩
theorem bU.out{S:aw->Prop}{H:Hp}{c:aw}{D:PyData}(hc:ah S H D (.ref c)):∀{d:PyData×PyData} {v:Key×V},sizeOf d<sizeOf D->bU S H d v->bU (λx=>S x\/x=c) H d v
  | (k, d), _, O, h => by
    unfold bU at h⊢;exact⟨h.1,ah.out hc (by simp at O;omega) h.2⟩
end
def lI(G:Gx)(ρ:Rh)(te:TE)(Φ:PyData->Prop):Prop:=∀nb σ H (Q:VK),Wd G nb ρ σ H->(∀v H' d,Φ d->Step G.B H H'->ah (λa=>H a≠none) H' d v->Q v H')->te σ H Q
section
variable{G:Gx}{ρ:Rh}{ta tb te:TE}{t:TA}{E:DE}{i j k m:Nat}{f:Bool}{K:PySem.W.Frag}{Φ:PyData->Prop}
theorem Wd.L8(W:Wd G nb ρ σ H)(s:Step G.B H H1)(h:H a≠none):H1 a≠none:=λe=>h (W.none_of s e)
theorem lI.kR{F:DF}(hm:fm F)(e:ρ[i]?=some .aj)(h:Av G ρ t λes=>es.length+1=n/\F (es.map (·.2)) λf d=>f=true/\Φ d):lI G ρ (gh (gS n F) [] E0 (aV (bE i) t)) Φ:=λnb σ H Q W z=>by
 obtain⟨b,l,M,e1,B⟩:=W.rm e;refine⟨.ref b,e1,h nb σ H _ W λes vs H1 ⟨hl,p⟩ s1 J=>?_⟩;have W1:=W.step s1;show gS n F ((V.ref b::vs)++[]) H1 Q E0;rw[fT];have hb:∀f,G.S nb f b:=λf=> .inr (.inr (.inl λn=>n b l M rfl));refine⟨by rw[cH,J.len,hl],b,l,vs,G.S nb (iy es),es.map (·.2),rfl,W1.aj b l M,W1.gC,hb _,J.all λz=>z,hm _ _ _ p λf d ⟨hf,hp⟩ v H' bt c hd=>z v H' d hp (s1.trans (.vz M bt c)) (hd.av λa q=>?_)⟩;exact .inr ⟨hf,W.L8 s1 q⟩
theorem Wd.Rw{c:aw}(W:Wd G nb ρ σ H)(s1:Step G.B H H1)(h:ah (λa=>H a≠none) H1 (.list ds) (.ref c)):
  Wd G (λx=>nb x\/x=c) (ρ.set i (.own c true ds)) (σ.set i (some (.ref c))) H1:=by
 have h0:=h;obtain⟨c',xs,e,n,hx,hd⟩:=h.dY;cases e;have hc:H c=none:=i9 λz=>n z;refine Sv.AS W s1 hc hx ((af.out h0 (by simp) hd).av λx z=>?_);rcases z with z|z
 .exact .inl (W.gC x z)
 .exact .inr z
end
noncomputable def QZ(kK:List Int)(prs:au):Nat:=(prs.filter λpr=>decide (pr.1∈kK)).length
noncomputable def JA(cs:List au)(kK:List Int):Bool:=cs.all λprs=>decide (QZ kK prs≠1)
theorem MQ{K:PySem.W.Frag}{to:TE}(g:X.K=K)(h:PE X e (mj X.K T r to t)):PE X e (mj K T r to t):=by subst g;exact h
theorem JB{α:Type}{d:α}:∀{ds:List α} {r:Nat},ds[r]?=some d->(d::ds.eraseIdx r).Perm ds
 |x::ds,0,e=>by simp at e;subst e;exact .refl _
 |x::ds,r+1,e=>(rk x d _).trans ((JB (ds:=ds) (r:=r) (by simpa using e)).cons x)
 |[],r,e=>by simp at e
section
variable{G:Gx}{ρ:Rh}{t0:TE}{E:DE}{i0 j:Nat}{f:Bool}{K K2:PySem.W.Frag}
theorem Sv.QK(X:ρ[i0]?=some .aj)(B:ρ[j]?=some (.own a f ds))(hl:ds.length<=9000)(hlen:Ev G ρ t0 λ_ x=>x= .int ds.length)(h:∀J:List PyData,J.Perm ds->E.rt f (.list J)):
  Sv G ρ (lG (mP (wR (aV t0 bI)) (eV 0) p7 (mj K "list" JC (bE 2) (aV (gh j5 [] E0 (aV (bE 1) (aV (eH (fP K2) (aV (bE 2) bI)) bI))) bI)) [none,some i0,some j])) E:=λnb σ H D W KK=>by
 refine hlen nb σ H _ W λg v H1 x ex s1 hv=>?_;subst ex;rw[hv.bM];refine⟨ds.length,rfl,∅,∅,λacc m=>?_⟩;have hij:i0≠j:=λz=>by subst z;rw[X] at B;cases B
 have u:kE [none,some i0,some j] ρ=[.no, .aj, .own a f ds]:=by unfold kE;simp[X,B]
 have W0:Wd G nb [.no, .aj, .own a f ds] (L2.gm [none,some i0,some j] σ) H1:=by rw[<-u];exact(W.step s1).gm (by simp[hij])
 have W1:=W0.more m (o:= .lst []);have hN:=NB.new s1.2 m;have q:a≠acc:=(yY W0 m).1 2 a f ds rfl;rw[ic];refine R.Ao (λi σ H2=>∃(s0:Sl) (b es:List PyData) (xs:List V),(∀a f ds,s0≠ .own a f ds)/\(∀a f ds,s0≠ .bF a f ds)/\Wd G (λx=>nb x\/x=acc) [s0, .aj, .own a f b] σ H2/\H2 acc=some (.lst xs)/\af (G.S (λx=>nb x\/x=acc) f) H2 es xs/\(es++b).Perm ds/\es.length=i) ⟨.no,ds,[],[],(λ_ _ _ z=>by cases z),(λ_ _ _ z=>by cases z),W1,aY, .nil,by simp,rfl⟩ ?_ ?_
 .rintro i σ H2 hi ⟨s0,b,es,xs,hs0,hs1,W2,qU,hd2,hp,hel⟩;have hlen':=hp.length_eq;rw[fq] at hlen';have W3:=W2.jA (i:=0) (f:=true) (d:= .int (0+(i:Int))) (v:= .int (0+(i:Int))) (.int _);dsimp only[eV,p7];rw[if_pos rfl];obtain⟨x,e1,h1,h2,h3,ys,hy,I⟩:=W3.ok 2 _ rfl;subst h1;refine⟨.ref a,e1, .inl ⟨rfl,_,aS.of hy⟩,?_⟩;refine Ev.draw (i:=1) (Φ:=λ_ d=>∃r:Nat,d= .int (r:Int)/\r<b.length) rfl (Ev.JJ (i:=2) rfl ?_) _ _ _ _ W3 λg v H3 d ⟨r,F,hr⟩ U hv=>?_
  .refine⟨_,rfl,∅,by unfold Sm;omega,λr C N=>⟨r.toNat,?_,∅⟩⟩;rw[GN C]
  subst F;have hk:=hv.bM;subst hk;have W4:=W3.step U;have QI:=U.1 _ _ h3 hy;have uv:=U.1 _ _ hN qU;have Hx:=I.keep U.cE;have wC:=hd2.keep (U.cE (nb:=λx=>nb x\/x=acc) (f:=f));obtain⟨d,y⟩:∃d,b[r]?=some d:=⟨_,aA hr⟩;obtain⟨n,e,l⟩:=Hx.get y;have hml:r<ys.length:=(bG.mp e).1;have s:lh (r:Int) ys.length=some r:=by
   have:gF ys.length (r:Int)=some r:=by
    unfold gF;rw[if_pos ∅,if_pos ∅,ic]
   exact(yN this).1
  have W5:=Sv.uo W4 (i:=2) rfl (Hx.era r);have A:aP (G.S (λx=>nb x\/x=acc) f) H3 (upd H3 a (.lst (ys.eraseIdx r))):=aP.set (.inl h2);have L:(upd H3 a (.lst (ys.eraseIdx r))) acc=some (.lst xs):=by rw[bA (bX q)];exact uv
  refine⟨a,ys,(r:Int),r,n,rfl,rfl,QI,∅,∅,s,e,?_⟩;have o4:=hd2.length;refine⟨xs,L,fJ (show xs.length<10000 by omega) ⋯,?_⟩;have t:aP (G.S (λx=>nb x\/x=acc) f) (upd H3 a (.lst (ys.eraseIdx r))) (upd (upd H3 a (.lst (ys.eraseIdx r))) acc (.lst (xs++[n]))):=aP.set (.inl (.inr rfl))
  have W6:=W5.write (p:=acc) (o:= .lst (xs++[n])) (.inr rfl) hN (λk c w cs hc=>by
   match k with
   |0=>cases hc
   |1=>cases hc
   |2=>cases hc;exact q
   |k+3=>simp at hc) (λk c w cs hc=>by
   match k with
   |0=>cases hc
   |1=>cases hc
   |2=>cases hc
   |k+3=>simp at hc) (λk c hc=>by
   match k with
   |0=>cases hc
   |1=>cases hc
   |2=>cases hc
   |k+3=>simp at hc)
  refine⟨_,b.eraseIdx r,es++[d],xs++[n],?_,?_,W6,aY,af.snoc ((l.keep A).keep t) ((wC.keep A).keep t),?_,by simp[hel]⟩;·intro _ _ _ z;cases z
  .intro _ _ _ z;cases z
  .have:=JB y;rw[vL];exact((List.perm_append_left_iff es).mpr this).trans hp
 .rintro σ H2 ⟨s0,b,es,xs,hs0,hs1,W2,qU,hd2,hp,hel⟩;have hlen':=hp.length_eq;rw[fq] at hlen';have e9:b=[]:=qN.mp ∅;subst e9;rw[fT] at hp;refine KK.rt _ _ _ f _ H2 _ (h es hp) W2 (.lst (λz=>?_) qU (hd2.av (bJ (λz=>z) λ_ z=>z.elim)));have hn:=W2.bP acc (.inr rfl) hN;rcases z with z|z|z|z
  .exact z
  .exact W2.gA acc z hn
  .exact z hN
  .exact z.2 hn
end
structure FU(cs:List au)(kK g:List Int):Prop where
 sub:∃q:Int->Bool,g=kK.filter q
 out:JA cs g=true
 max:∀T:List Int,(∀x∈T,x∈kK)->JA cs T=true->∀x∈T,x∈g
theorem FU.mem{kK g:List Int}(h:FU cs kK g):∀x∈g,x∈kK:=λx hx=>by
 obtain⟨q,e⟩:=h.sub;rw[e] at hx;exact(dQ.mp hx).1
noncomputable def C7(row:List Int):Int:=match row.getLast? with|none=>0|some l=>l+1
noncomputable def Qg(n:Int)(row:List Int):List Int:=(a3 (n-C7 row).toNat).map λ(i:Nat)=>C7 row+(i:Int)
noncomputable def ext(n:Int)(row:List Int):List (List Int):=(Qg n row).map λp=>row++[p]
theorem Ca{c:Type}{φ:α->c}{l1 l2:List c}(h:l1.Perm l2):∀xs:List α,l2=xs.map φ->∃ys:List α,l1=ys.map φ/\ys.Perm xs:=by
  induction h with
  |nil=>intro xs e;exact⟨[],rfl,by cases xs<;>first|exact .nil|cases e⟩
  | cons x _ ih =>
    intro xs e;cases xs with
    |nil=>cases e
    | cons a xs =>
      obtain⟨e1,e2⟩:=qE e;obtain⟨ys,e3,p⟩:=ih xs e2;exact⟨a::ys,by rw[e3,e1];rfl,p.cons a⟩
  | swap x y l =>
    intro xs e
    match xs,e with
    | a :: b :: xs, e =>
      obtain⟨e1,e2⟩:=qE e;obtain⟨e3,e4⟩:=qE e2;exact⟨b::a::xs,by rw[e1,e3,e4];rfl, .swap a b xs⟩
  | trans _ _ f d =>
    intro xs e;obtain⟨ys,e1,k⟩:=d xs e;obtain⟨zs,e2,p2⟩:=f ys e1;exact⟨zs,e2,p2.trans k⟩
section
variable{G:Gx}{ρ:Rh}{Φ:Pd}{t:TA}{te:TE}
theorem Sv.Lu{E:DE}(h:lI G ρ te λd=>(∃ds,d= .list ds/\∀a,E.nx (ρ.set i (.own a true ds)))\/(iV d=true/\E.nx (ρ.set i (.d true d)))):Sv G ρ (fk te (eV i)) E:=λnb σ H D W K=>
 h nb σ H _ W λv H1 d hd st hv=>by
  rcases hd with ⟨ds,rfl,q⟩|⟨hs,q⟩
  .have h0:=hv;obtain⟨c,xs,rfl,_⟩:=hv.dY;exact K.nx _ _ _ _ (q c) (Wd.Rw (i:=i) W st h0)
  .exact K.nx nb _ _ _ q ((W.step st).jA (i:=i) (f:=true) (hv.kr hs))
end
noncomputable def co(prs:au)(j:Nat):Int:=(prs.map λpr=>if pr.1.toNat=j then pr.2 else 0).sum
def To(p:Int)(m:Nat)(prs:au):Prop:=(prs.map (·.1)).Nodup/\prs.length<=1000/\∀pr∈prs,0<=pr.1/\pr.1<m/\1<=pr.2/\pr.2<p
theorem lI.QX{f:Bool}(i:Nat)(e:ρ[i]?=some (.own a f ds))(h:lI G (ρ.set i (.d f (.list ds))) te Ψ):lI G ρ te Ψ:=λnb σ H Q W z=>h _ σ H Q (Sv.share W e) z
theorem gu{P:(aw->Prop)->Prop}{H:Hp}(Y:∀{S S':aw->Prop},(∀a,S' a->S a)->P S->P S')(hf:∀{S:aw->Prop} {p:aw},H p=none->P S->P λa=>S a\/a=p):∀{L:List aw} {S:aw->Prop},(∀a∈L,H a=none)->P S->P λa=>S a\/a∈L
 |[],S,_,h=>Y (λa z=>z.elim (λz=>z) λz=>by cases z) h
 | p :: L, S, hL, h => Y (λa z => by
   rcases z with z|z
   .exact .inl (.inl z)
   .rcases aO.mp z with z|z
    .exact .inr z
    .exact .inl (.inr z)) (hf (hL p (cQ ..)) (gu Y hf (L:=L) (λa m=>hL a (cB _ m)) h))
section
variable{G:Gx}{ρ:Rh}{nb:aw->Prop}{σ:qr}{H H1:Hp}{i:Nat}{L:List aw}{c c':Cu}{f:Bool}{d:PyData}{p:aw}{o:HO}{E:DE}
theorem Wd.Ec(W:Wd G nb ρ σ H)(s1:Step G.B H H1)(ha:∀a∈L,H a=none)(e:∀a∈L,H1 a≠none):Wd G (λx=>nb x\/x∈L) ρ σ H1/\(∀a∈L,NB G.B a)/\∀f x,G.S (λx=>nb x\/x∈L) f x->(G.S nb f x\/x∈L):=by
  have hN:∀a∈L,NB G.B a:=λa m=>NB.new W.aj (ha a m);have hA:∀f x,G.S (λx=>nb x\/x∈L) f x->(G.S nb f x\/x∈L):=λf x z=>by
    rcases z with (z|z)|z|z|z
    · exact .inl (.inl z)
    · exact .inr z
    · exact .inl (.inr (.inl z))
    · exact .inl (.inr (.inr (.inl z)))
    · exact .inl (.inr (.inr (.inr z)))
  have W1:=W.step s1;have K:∀{S:aw->Prop} {d:PyData} {v:V},ah S H d v->ah (λa=>S a\/a∈L) H d v:=λ{S d v} h=>gu (P:=λS=>ah S H d v) (λz h=>ah.av z h) (λhp h=>ah.fresh hp h) ha h;have M:∀{S:aw->Prop} {d:List PyData} {v:List V},af S H d v->af (λa=>S a\/a∈L) H d v:=λ{S d v} h=>gu (P:=λS=>af S H d v) (λz h=>af.av z h) (λhp h=>af.fresh hp h) ha h;have N:∀{S:aw->Prop} {d:List (PyData×PyData)} {v:List (Key×V)},aq S H d v->aq (λa=>S a\/a∈L) H d v:=λ{S d v} h=>gu (P:=λS=>aq S H d v) (λz h=>aq.av z h) (λhp h=>aq.fresh hp h) ha h;have J:∀{S:aw->Prop} {d:HD} {v:V},dH S H d v->dH (λa=>S a\/a∈L) H d v:=λ{S d v} h=>gu (P:=λS=>dH S H d v) (λz h=>dH.av h z) (λhp h=>dH.fresh h hp) ha h;refine⟨?_,hN,hA⟩;refine⟨W1.aj,λx n=>?_,W1.old,λx n q=>?_,W.gA,W.len,W.gB,λh m=>((J (W.dX h m)).keep (s1.but λx z=> .inl (.inr (.inr (.inl z))))).av (hA h.1),λj s e'=>?_,W.apart,W.dD,W.bR⟩
  · rcases n with n|n
    · exact W1.live x n
    · exact e x n
  · rcases n with n|n
    · exact W.bP x n q
    · cases z:G.H0 x with
      |none=>rfl
      |some o=>have:=ha x n;rw[W.old x o q z] at this;cases this
  · obtain⟨x,e1,h⟩:=W.ok j s e'
    refine⟨x,e1,?_⟩;cases s with
    |no=>trivial
    |d f d=>obtain⟨v,e,h⟩:=h;exact⟨v,e,((K h).keep (s1.but λx z=> .inl (.inr (.inr (.inl z))))).av (hA f)⟩
    |own c f es=>obtain⟨e,n,q,xs,hx,hd⟩:=h;exact⟨e, .inl n,q,xs,s1.1 _ _ q hx,((M hd).keep (s1.but λx z=> .inl (.inr (.inr (.inl z))))).av (hA f)⟩
    |aj=>exact h
    |raw v=>exact h
    |bF c f es=>obtain⟨e,n,q,xs,hx,hd⟩:=h;exact⟨e, .inl n,q,xs,s1.1 _ _ q hx,((N hd).keep (s1.but λx z=> .inl (.inr (.inr (.inl z))))).av (hA f)⟩
    | cu c =>
      obtain⟨e,n,q⟩:=h;refine⟨e,λa ha=>⟨.inl (n a ha).1,(n a ha).2⟩,c.av (hA c.f) (c.keep (.of λx o hx e=>s1.1 x o ?_ e) (gu (P:=λS=>c.P S H) (λz h=>c.av z h) (λhp h=>c.fresh hp h) ha q))⟩;rcases hx with hx|hx
      · exact i9 λz=>hx (.inl (.inr (.inr (.inl z))))
      · exact(n x hx).2
theorem nA.wZ{x:Option V}{s:Sl}(h:nA G nb H x s):∀a∈s.adr,nb a/\NB G.B a:=by
 cases s with
 |own a f ds=>intro x hx;rw[aJ.mp hx];exact⟨h.2.1,h.2.2.1⟩
 |bF a f ds=>intro x hx;rw[aJ.mp hx];exact⟨h.2.1,h.2.2.1⟩
 |cu c=>exact h.2.1
 |no=>intro _ z;cases z
 |d _ _=>intro _ z;cases z
 |aj=>intro _ z;cases z
 |raw _=>intro _ z;cases z
theorem Wd.Oe(W:Wd G nb ρ σ H)(s1:Step G.B H H1)(ha:∀a∈c.F,H a=none)(e:∀a∈c.F,H1 a≠none)(Y:c.P (λx=>G.S nb c.f x\/x∈c.F) H1):Wd G (λx=>nb x\/x∈c.F) (ρ.set i (.cu c)) (σ.set i (some c.v)) H1:=by
 obtain⟨W2,hN,hA⟩:=W.Ec s1 ha e;refine W2.set ⟨rfl,λa m=>⟨.inr m,hN a m⟩,c.av (hA c.f) Y⟩ (λ_ _ _ z=>by cases z) (λ_ _ _ z=>by cases z) (λx hx j t hj ht hc z=>?_);obtain⟨y,e1,h⟩:=W.ok j _ ht;exact W.live x (h.wZ x z).1 (ha x hx)
theorem Wd.GO(W:Wd G nb ρ σ H)(e:ρ[i]?=some (.cu c))(hp:p∈c.F)(hv:c'.v=c.v)(I:∀a∈c'.F,a∈c.F)(h:c'.P (G.S nb c'.f) (upd H p o)):Wd G nb (ρ.set i (.cu c')) σ (upd H p o):=by
 obtain⟨x,e1,h1,h2,h3⟩:=W.ok i _ e;subst h1;have r:i<ρ.length:=(bG.mp e).1;have W0:Wd G nb (ρ.set i .no) (σ.set i (some c.v)) H:=W.set trivial λ_ _ _ z=>by cases z
 have y:∀(j:Nat) s,(ρ.set i .no)[j]?=some s->s≠ .no->p∉s.adr:=λj s O hn=>by
  have hij:i≠j:=λz=>by subst z;rw[cz r] at O;cases O;exact hn rfl
  rw[br hij] at O;exact W.bR i j c s hij e O p hp
 have W1:Wd G nb (ρ.set i .no) (σ.set i (some c.v)) (upd H p o):=W0.write (h2 p hp).1 (h2 p hp).2 (λj a f ds O z=>y j _ O (by intro z;cases z) (aJ.mpr z.symm)) (λj a f ds O z=>y j _ O (by intro z;cases z) (aJ.mpr z.symm)) (λj c O=>y j _ O (by intro z;cases z))
 have W2:=W1.set (i:=i) (s:= .cu c') (x:=some c.v) ⟨by rw[hv],λa m=>h2 a (I a m),h⟩ (λ_ _ _ z=>by cases z) (λ_ _ _ z=>by cases z) (λx hx j t hj ht hc=>by
  rw[br (bX hj)] at ht;exact W.bR i j c t (bX hj) e ht x (I x hx))
 rw[j4,j4] at W2;have:σ.set i (some c.v)=σ:=by
  apply i6;intro j;by_cases hij:i=j;·subst hij;rw[cz (by rw[W.len];exact r),e1]
  .rw[br hij]
 rwa[this] at W2
end
noncomputable def vp(prs:au)(pl:Int):Option Int:=(prs.find? λpr=>decide (pr.1=pl)).map (·.2)
noncomputable def zH(p:Int)(c:Nat):Option Int->List (Int×Int)
 |some f=>[((c:Int),sol p f 1)]
 |none=>[]
noncomputable def Cm(p:Int)(cs:List au)(pl:Int)(i:Nat):List (Int×Int):=(a3 i).flatMap λc=>zH p c (vp (cs.getD c []) pl)
theorem Ou{pl:Int}{q:Int×Int}(hi:i<=cs.length)(h:q∈Cm p cs pl i):∃(c:Nat) (prs:au) (f:Int),cs[c]?=some prs/\c<i/\vp prs pl=some f/\q=((c:Int),sol p f 1):=by
  unfold Cm at h;obtain⟨c,hc,hq⟩:=qg.mp h;have hc:=dM.mp hc;have e:cs[c]?=some cs[c]:=aA ∅;rw[bq,e] at hq;cases hf:vp cs[c] pl with
  |none=>simp[zH,hf] at hq
  | some f =>
    have hq:q∈zH p c (vp cs[c] pl):=hq;rw[hf] at hq;exact⟨c,cs[c],f,e,hc,hf,aJ.mp hq⟩
noncomputable def qI(p:Int)(cs:List au)(ws:List Int)(pl:Int):List Int:=
 (Cm p cs pl cs.length).map λq=>(ws.getD pl.toNat 0-bH (cs.getD q.1.toNat []) (ws.map some)%p*q.2)%p
structure yP(p n:Int)(cs:List au):Prop where
 hp:fK p
 ir:p<10^40
 n0:1<=n
 n1:n<=400
 cl:cs.length<=400
 ok:∀prs∈cs,To p n.toNat prs
noncomputable def Dz(L:List Int)(w x:Int):Bool:=decide (x≠w) && decide (L.length<2*L.count x)
noncomputable def xF(L:List Int)(w:Int):List Int:=(L.filter (Dz L w)).take 1
@[reducible] noncomputable def iR(t:Int×Int×Int):PyData:= .tuple [.int t.1, .int t.2.1, .int t.2.2]
noncomputable def Fg(p:Int)(cs:List au)(ws:List Int)(i:Nat):List (Int×Int×Int):=(xF (qI p cs ws (i:Int)) (ws.getD i 0)).map λx=>((i:Int),ws.getD i 0,x)
noncomputable def rX(p:Int)(cs:List au)(ws:List Int)(m:Nat):List (Int×Int×Int):=(a3 m).flatMap (Fg p cs ws)
noncomputable def brk(p:Int)(cs:List au)(ws:List Int):Nat:=cs.countP λprs=>decide (bH prs (ws.map some)%p≠0)
noncomputable abbrev fE:=Int×Int×Int
theorem Lm(b:List fE):cK (.list (b.map iR))=true:=by
 have h:dr (b.map iR)<=1/\cf (b.map iR)=true:=by
  induction b with
  |nil=>simp[dr,cf]
  |cons a r ih=>simp[iR,dr,g5,cf,df,ih.2];have:=ih.1;omega
 unfold cK;simp only[df,g5,h.2,Bool.true_and];have:=h.1;simp;omega
theorem FD:cK (.list [])=true:=by with_unfolding_all rfl
theorem QU(b:List fE):(eA (.list (b.map iR)) (.list []) !=false)=decide (b=[]):=by
 cases b<;>simp[eA,oo]
structure iC(P:bc)(w:bw)(K:PySem.W.Frag)(mg:Str->Option ae)(base:dc)(C:aw)(m:Str)(k:Nat)(ps:List Str)(sp:Sp):Prop where
 cl:dO K C
 ex:∃f fd,bx P w K mg base bO k f fd ps sp/\Binds K fd ps []/\Meth K C m f
structure wF(P:bc)(w:bw)(K:PySem.W.Frag)(mg:Str->Option ae)(base:dc)(C:aw)(x:Str)(k:Nat)(ps:List Str)(sp:Sp):Prop where
 ex:∃f fd,bx P w K mg base bO k f fd ps sp/\Binds K fd ps []/\Mk K C f/\mg x=some (.ref C)
section
variable{X:Cx}{C:aw}{k:Nat}{ps:List Str}{sp:Sp}{x m:Str}{p pos apos:Pos}{e o:dk}{es:List dk}{ta:TE}{t:TA}
theorem P0{pl:Sem Bool}(c:iC X.prog X.w X.K X.mg X.base C m k ps sp)(he:PE X o ta)(hr:c5 k X.A)(ha:PA X (e::es) t)
  (d:ba (e::es) X.env=(false,eval e X.env)::ba es X.env:=by rfl) (B:(er pos (ba es X.env)).any (·.1)=false:=by rfl)
  (ht : eval (.Call (.Attribute o m apos) (e :: es) [] pos) X.env = (do
   let ov<-eval o X.env
   standAt apos.atName
   let (f,first)<-holding [ov] (gd ov m pl)
   nZ pos f first (er pos (ba (e::es) X.env)) (kJ pos (fo [] X.env))):=by rfl):
  PE X (.Call (.Attribute o m apos) (e::es) [] pos) (qR C m sp [] E0 ta t):=by
 obtain⟨f,fd,F,b,mm⟩:=c.ex;exact RK (pl:=pl) he c.cl mm F hr b .nil tQ ha d B ht
theorem lE{pl:Sem Bool}(c:iC X.prog X.w X.K X.mg X.base C m k ps sp)(he:PE X o ta)(hr:c5 k X.A)
  (ht : eval (.Call (.Attribute o m apos) [] [] pos) X.env = (do
   let ov<-eval o X.env
   standAt apos.atName
   let (f,first)<-holding [ov] (gd ov m pl)
   nZ pos f first (er pos (ba [] X.env)) (kJ pos (fo [] X.env))):=by rfl):
  PE X (.Call (.Attribute o m apos) [] [] pos) (qR C m sp [] E0 ta bI):=by
 obtain⟨f,fd,F,b,mm⟩:=c.ex;exact Pb (pl:=pl) he c.cl mm F hr b .nil tQ ht
theorem Jl(c:wF X.prog X.w X.K X.mg X.base C x k ps sp)(hr:c5 (k+1) X.A)(ha:PA X (e::es) t)(hg:Gl X x:=by rfl)
  (a:(x==("__debug__":Str))=false:=by decide) (he:ba (e::es) X.env=(false,eval e X.env)::ba es X.env:=by rfl) (B:(er pos (ba es X.env)).any (·.1)=false:=by rfl):
  PE X (.Call (.Name x p) (e::es) [] pos) (Bv C sp [] E0 t):=by
 obtain⟨f,fd,F,b,M,m⟩:=c.ex;exact LI M F hr hg m b .nil tQ ha a he B
end
section
variable{G:Gx}{ρ:Rh}{nb:aw->Prop}{σ:qr}{H H':Hp}{i:Nat}{c c':Cu}{E:DE}
theorem Wd.EZ(W:Wd G nb ρ σ H)(e:ρ[i]?=some (.cu c))(p:∀a o,a∉c.F->H a=some o->H' a=some o)(hv:c'.v=c.v)(I:∀a∈c'.F,a∈c.F\/H a=none\/(nb a/\NB G.B a/\∀(j:Nat) s,ρ[j]?=some s->a∉s.adr))(hl:∀a,a∈c.F\/a∈c'.F->H' a≠none)
    (h:c'.P (G.S (λx=>nb x\/x∈c'.F) c'.f) H'):Wd G (λx=>nb x\/x∈c'.F) (ρ.set i (.cu c')) σ H':=by
  obtain⟨X,e1,h1,h2,h3⟩:=W.ok i _ e;subst h1;have r:i<ρ.length:=(bG.mp e).1;obtain⟨L,T⟩:∃L,L=c'.F.filter λa=>(H a).isNone:=⟨_,rfl⟩;have ha:∀a∈L,H a=none:=λa m=>by
    rw[T,dQ] at m;exact tZ.mp m.2
  have Y:∀a∈c'.F,nb a\/a∈L:=λa m=>by
    rcases I a m with z|z|z
    · exact .inl (h2 a z).1
    · exact .inr (by rw[T];exact dQ.mpr ⟨m,tZ.mpr z⟩)
    · exact .inl z.1
  have hA:∀f x,G.S (λx=>nb x\/x∈c'.F) f x->(G.S nb f x\/x∈L):=λf x z=>by
    rcases z with (z|z)|z|z|z
    · exact .inl (.inl z)
    · exact(Y x z).elim (λz=> .inl (.inl z)) .inr
    · exact .inl (.inr (.inl z))
    · exact .inl (.inr (.inr (.inl z)))
    · exact .inl (.inr (.inr (.inr z)))
  have bt:∀f,aP (G.S (λx=>nb x\/x∈c'.F) f) H H':=λf a o n q=>p a o (λz=>n (.inl (.inl (h2 a z).1))) q;have K:∀{S:aw->Prop} {d:PyData} {v:V},ah S H d v->ah (λa=>S a\/a∈L) H d v:=λ{S d v} h=>gu (P:=λS=>ah S H d v) (λz h=>ah.av z h) (λhp h=>ah.fresh hp h) ha h;have M:∀{S:aw->Prop} {d:List PyData} {v:List V},af S H d v->af (λa=>S a\/a∈L) H d v:=λ{S d v} h=>gu (P:=λS=>af S H d v) (λz h=>af.av z h) (λhp h=>af.fresh hp h) ha h;have N:∀{S:aw->Prop} {d:List (PyData×PyData)} {v:List (Key×V)},aq S H d v->aq (λa=>S a\/a∈L) H d v:=λ{S d v} h=>gu (P:=λS=>aq S H d v) (λz h=>aq.av z h) (λhp h=>aq.fresh hp h) ha h;have J:∀{S:aw->Prop} {d:HD} {v:V},dH S H d v->dH (λa=>S a\/a∈L) H d v:=λ{S d v} h=>gu (P:=λS=>dH S H d v) (λz h=>dH.av h z) (λhp h=>dH.fresh h hp) ha h;have E:∀a∈c'.F,NB G.B a:=λa m=>(I a m).elim (λz=>(h2 a z).2) λz=>z.elim (λz=>NB.new W.aj z) λz=>z.2.1;have u:iP G.B H':=λb l A=>by
    obtain⟨ns,i0,c0,st,n,g1,g2,U⟩:=W.aj b l A;have hb:b∉c.F:=λz=>(h2 b z).2 b l A rfl;have t:l∉c.F:=λz=>by
      obtain⟨_,_,_,_,_,_,q2,_⟩:=W.gB b l A;rw[W.bP l (h2 l z).1 (h2 l z).2] at q2;cases q2
    exact⟨ns,i0,c0,st,n,p _ _ hb g1,p _ _ t g2,U⟩
  have y:∀(j:Nat) s,i≠j->ρ[j]?=some s->∀a∈s.adr,a∉c.F:=λj s hij O a m z=>W.bR i j c s hij e O a z m;refine⟨u,λa n=>?_,λa o n q=>?_,λa n q=>?_,W.gA,by rw[eG];exact W.len,W.gB,λh m=>((J (W.dX h m)).av (hA h.1)).keep (bt h.1),λj s e'=>?_,?_,?_,?_⟩
  · rcases n with n|n
    · by_cases z:a∈c.F
      · exact hl a (.inl z)
      · cases q:H a with
        |none=>exact absurd q (W.live a n)
        |some o=>rw[p a o z q];exact gU _
    · exact hl a (.inr n)
  · refine p a o (λz=>?_) (W.old a o n q)
    rw[W.bP a (h2 a z).1 n] at q;cases q
  · rcases n with n|n
    · exact W.bP a n q
    · rcases I a n with z|z|z
      · exact W.bP a (h2 a z).1 q
      · cases w:G.H0 a with
        |none=>rfl
        |some o=>rw[W.old a o q w] at z;cases z
      · exact W.bP a z.1 q
  · by_cases hij:i=j
    · subst hij
      rw[cz r] at e';cases e';exact⟨some c.v,e1,by rw[hv],λa m=>⟨.inr m,E a m⟩,h⟩
    · rw[br hij] at e'
      obtain⟨x,e2,q⟩:=W.ok j s e';refine⟨x,e2,?_⟩;have ap:=y j s hij e';cases s with
      |no=>trivial
      |d f d=>obtain⟨v,e,h⟩:=q;exact⟨v,e,((K h).av (hA f)).keep (bt f)⟩
      |own a f es=>obtain⟨e,n,q,xs,hx,hd⟩:=q;exact⟨e, .inl n,q,xs,p _ _ (ap a (aJ.mpr rfl)) hx,((M hd).av (hA f)).keep (bt f)⟩
      |aj=>exact q
      |raw v=>exact q
      |bF a f es=>obtain⟨e,n,q,xs,hx,hd⟩:=q;exact⟨e, .inl n,q,xs,p _ _ (ap a (aJ.mpr rfl)) hx,((N hd).av (hA f)).keep (bt f)⟩
      | cu c2 =>
        obtain⟨e,n,q⟩:=q;refine⟨e,λa ha=>⟨.inl (n a ha).1,(n a ha).2⟩,c2.keep (.of λx o hx e=>p x o ?_ e) (c2.av (hA c2.f) (gu (P:=λS=>c2.P S H) (λz h=>c2.av z h) (λhp h=>c2.fresh hp h) ha q))⟩;rcases hx with hx|hx
        · exact λz=>hx (.inl (.inl (h2 x z).1))
        · exact ap x hx
  all_goals
    intro j k
  · intro a f as c2 g cs hjk q1 q2
    have hj:i≠j:=λz=>by subst z;rw[cz r] at q1;cases q1
    have hk:i≠k:=λz=>by subst z;rw[cz r] at q2;cases q2
    rw[br hj] at q1;rw[br hk] at q2;exact W.apart j k a f as c2 g cs hjk q1 q2
  · intro a f as c2 g cs hjk q1 q2
    have hj:i≠j:=λz=>by subst z;rw[cz r] at q1;cases q1
    have hk:i≠k:=λz=>by subst z;rw[cz r] at q2;cases q2
    rw[br hj] at q1;rw[br hk] at q2;exact W.dD j k a f as c2 g cs hjk q1 q2
  · intro c2 s hjk q1 q2 a m z
    have Q:∀(j:Nat) s,i≠j->ρ[j]?=some s->∀a∈s.adr,a∉c'.F:=λj s hij O a m z=>by
      rcases I a z with w|w|w
      · exact y j s hij O a m w
      · obtain⟨x,_,q⟩:=W.ok j s O
        exact W.live a (q.wZ a m).1 w
      · exact w.2.2 j s O m
    by_cases hj:i=j
    · subst hj
      rw[cz r] at q1;cases q1;rw[br hjk] at q2;exact Q k s hjk q2 a z m
    · rw[br hj] at q1
      by_cases hk:i=k
      · subst hk
        rw[cz r] at q2;cases q2;exact Q j _ hj q1 a m z
      · rw[br hk] at q2
        exact W.bR j k c2 s hjk q1 q2 a m z
end
def aQ(G:Gx)(ρ:Rh)(te:TE)(Φ:Rh->Pd):Prop:=∀nb σ H (Q:VK),Wd G nb ρ σ H->(∀ay r f v H' d,Φ r f d->Wd G ay r σ H'->ah (G.S ay f) H' d v->Q v H')->te σ H Q
def ie(G:Gx)(ρ:Rh)(a:TT)(Φ:Rh->Bool->Prop):Prop:=∀nb σ H (Q:Bool->Hp->Prop),Wd G nb ρ σ H->(∀ay r b H',Φ r b->Wd G ay r σ H'->Q b H')->a σ H Q
def lq(G:Gx)(ρ:Rh)(ta:TA)(Φ:Rh->List Fd->Prop):Prop:=∀nb σ H (Q:List V->Hp->Prop),Wd G nb ρ σ H->(∀ay r es vs H',Φ r es->Wd G ay r σ H'->iO G ay H' es vs->Q vs H')->ta σ H Q
section
variable{G:Gx}{ρ:Rh}{Φ:Rh->Pd}{ta tb te:TE}{t:TA}{c u:TT}{i:Nat}{E:DE}{s s':TS}
theorem aQ.of(h:Ev G ρ te (Φ ρ)):aQ G ρ te Φ:=λnb σ H Q W z=>h nb σ H Q W λf v H' d q st hv=>z nb ρ f v H' d q (W.step st) hv
theorem lq.cons{Θ:Rh->List Fd->Prop}(h:aQ G ρ te λr f d=>Av G r t λes=>Θ r ((f,d)::es)):lq G ρ (aV te t) Θ:=λnb σ H Q W z=>
 h nb σ H _ W λay r f v H1 d k W1 J=>k ay σ H1 _ W1 λes vs H2 p2 s2 q2=>z ay r _ _ H2 p2 (W1.step s2) ⟨v,vs,rfl,J.keep s2.cE,q2⟩
theorem aQ.gv{F:DF}(hm:fm F)(h:lq G ρ t λr es=>es.length=n/\F (es.map (·.2)) λf d=>Φ r (f||iy es) d):aQ G ρ (gh (c6 n F) [] E0 t) Φ:=λnb σ H Q W z=>
 h nb σ H _ W λay r es vs H1 ⟨hl,p⟩ W1 J=>by
  rw[fT];refine⟨by rw[J.len,hl],G.S ay (iy es),es.map (·.2),W1.gC,J.all λz=>z,hm _ _ _ p λf d hp v H' b hd=>z ay r _ v H' d hp (W1.step (.same W1.aj b)) (hd.av λa q=>?_)⟩;cases f with
  |false=>rw[nL] at q;exact .inl q
  |true=>exact .inr ⟨rfl,W1.gC a q⟩
theorem aQ.Az(h:aQ G ρ ta λr _ x=>∃b,x= .bool b/\if b=true then aQ G r tb Φ else Φ r true (.bool false)):aQ G ρ (sG ta tb) Φ:=λnb σ H Q W z=>
 h nb σ H _ W λay r f v H1 d ⟨b,e,q⟩ W1 hv=>by
  subst e;refine⟨b,by unfold ah at hv;exact hv,?_⟩;cases b with
  |true=>rw[if_pos rfl] at q⊢;exact q ay σ H1 _ W1 z
  |false=>rw[if_neg cT] at q⊢;exact z ay r true _ H1 _ q W1 (.bl false)
theorem aQ.Ho(h:aQ G ρ ta λr _ x=>∃b,x= .bool b/\if b=true then Φ r true (.bool true) else aQ G r tb Φ):aQ G ρ (En ta tb) Φ:=λnb σ H Q W z=>
 h nb σ H _ W λay r f v H1 d ⟨b,e,q⟩ W1 hv=>by
  subst e;refine⟨b,by unfold ah at hv;exact hv,?_⟩;cases b with
  |false=>rw[if_neg cT] at q⊢;exact q ay σ H1 _ W1 z
  |true=>rw[if_pos rfl] at q⊢;exact z ay r true _ H1 _ q W1 (.bl true)
theorem aQ.MR(h:aQ G ρ ta λr _ x=>∃b,x= .bool b/\Φ r true (.bool !b)):aQ G ρ (Ds ta) Φ:=λnb σ H Q W z=>
 h nb σ H _ W λay r f v H1 d ⟨b,e,q⟩ W1 hv=>by
  subst e;exact⟨b,by unfold ah at hv;exact hv,z ay r true _ H1 _ q W1 (.bl _)⟩
theorem ie.m8{K:PySem.W.Frag}{Θ:Rh->Bool->Prop}(h:aQ G ρ te λr _ x=>∃b,x= .bool b/\Θ r b):ie G ρ (t7 K te) Θ:=λnb σ H Q W z=>
 h nb σ H _ W λay r f v H1 d ⟨b,e,q⟩ W1 hv=>by subst e;exact⟨b,by unfold ah at hv;subst hv;rfl,z ay r b H1 q W1⟩
theorem ie.or{Θ:Rh->Bool->Prop}(h:ie G ρ c λr b=>if b=true then Θ r true else ie G r u Θ):ie G ρ (yv c u) Θ:=λnb σ H Q W z=>
 h nb σ H _ W λay r b H1 q W1=>by
  cases b with
  |false=>rw[if_neg cT] at q⊢;exact q ay σ H1 _ W1 z
  |true=>rw[if_pos rfl] at q⊢;exact z ay r true H1 q W1
theorem ie.not{Θ:Rh->Bool->Prop}(h:ie G ρ c λr b=>Θ r (!b)):ie G ρ (Cy c) Θ:=λnb σ H Q W z=>h nb σ H _ W λay r b H1 q W1=>z ay r _ H1 q W1
namespace Sv
theorem tF(h:aQ G ρ te λr f d=>Gv G r g f d E.nx):Sv G ρ (fk te g) E:=λnb σ H D W K=>h nb σ H _ W λay r f v H1 d q W1 hv=>q ay σ H1 v _ W1 hv λC r p W'=>K.nx ay r C H1 p W'
theorem Kc(h:aQ G ρ te λr _ _=>E.nx r):Sv G ρ (sr te) E:=λnb σ H D W K=>h nb σ H _ W λay r f v H1 d q W1 hv=>K.nx ay r σ H1 q W1
theorem retS(h:aQ G ρ te λ_=>E.rt):Sv G ρ (lG te) E:=λnb σ H D W K=>h nb σ H _ W λay r f v H1 d q W1 hv=>K.rt ay r σ f v H1 d q W1 (hv.av (bJ (λz=>z) λ_ z=>z.elim))
theorem qO(h:aQ G ρ te λr f d=>∀nb v H,ah (G.S nb f) H d v->E.rw nb r v H):Sv G ρ (lG te) E:=λnb σ H D W K=>h nb σ H _ W λay r f v H1 d q W1 hv=>K.rw ay r σ v H1 (q ay v H1 hv) W1
theorem Tz(h:ie G ρ c λr b=>if b=true then Sv G r s E else Sv G r s' E):Sv G ρ (qy c s s') E:=λnb σ H D W K=>h nb σ H _ W λay r b H1 q W1=>by
 cases b with
 |true=>rw[if_pos rfl] at q⊢;exact q ay σ H1 D W1 K
 |false=>rw[if_neg cT] at q⊢;exact q ay σ H1 D W1 K
end Sv
end
structure mw(c c':Cu)(H H':Hp):Prop where
 v:c'.v=c.v
 f:c'.f=false
 sub:∀a∈c.F,a∈c'.F
 new:∀a∈c'.F,a∈c.F\/H a=none
 kp:∀a o,a∉c.F->H a=some o->H' a=some o
 lv:∀a∈c'.F,H' a≠none
abbrev CF:=Cu->List PyData->(Cu->Pd)->Prop
def kF(F:CF):Prop:=∀c ds (Φ Ψ:Cu->Pd),F c ds Φ->(∀c f d,Φ c f d->Ψ c f d)->F c ds Ψ
def dw(n:Nat)(F:CF):Sp:=λvs H Q _=>vs.length=n/\∃(nb:aw->Prop) (c:Cu) (ws:List V) (ds:List PyData),vs=c.v::ws/\gE nb H/\(∀a∈c.F,nb a)/\c.f=false/\c.P nb H/\af nb H ds ws/\
 F c ds λc' f d=>∀v H',mw c c' H H'->c'.P (λa=>nb a\/a∈c'.F) H'->ah (λa=>nb a\/a∈c'.F\/(f=true/\H a≠none)) H' d v->Q v H'
section
variable{G:Gx}{ρ:Rh}{Φ:Rh->Pd}{ta tb te:TE}{t:TA}{i:Nat}{E:DE}{c:Cu}{C:aw}{m:Str}{n:Nat}{F:CF}
theorem aQ.EG{Q:VK}{es:List Fd}{vs:List V}(hm:kF F)(e:ρ[i]?=some (.cu c))(W1:Wd G nb ρ σ H1)(J:iO G nb H1 es vs)(hl:es.length+1=n)(b:c.f=false)(p:F c (es.map (·.2)) λc' f d=>Φ (ρ.set i (.cu c')) f d)
  (z:∀ay r f v H' d,Φ r f d->Wd G ay r σ H'->ah (G.S ay f) H' d v->Q v H'):dw n F (c.v::(vs++[])) H1 Q E0:=by
 rw[fT];obtain⟨X,e1,h1,h2,h3⟩:=W1.ok i _ e;refine⟨by rw[cH,J.len,hl],G.S nb false,c,vs,es.map (·.2),rfl,W1.gC,λa m=> .inl (h2 a m).1,b,by rw[b] at h3;exact h3,J.all (f:=false) (λz=>by cases z),hm _ _ _ _ p λc' f d hp v H' to Y hd=>?_⟩;refine z _ _ f v H' d hp (W1.EZ (c':=c') e to.kp to.v (λa m=>(to.new a m).imp id .inl) (λa m=>m.elim (λm=>to.lv a (to.sub a m)) λm=>to.lv a m) (c'.av (λa y=>?_) Y)) (hd.av λa y=>?_)
 .rw[to.f] at y;rcases y with (y|y)|y|y|y
  .exact .inl (.inl y)
  .exact .inr y
  .exact .inl (.inr (.inl y))
  .exact .inl (.inr (.inr (.inl y)))
  .cases y.1
 .rcases y with (y|y)|y|y|y
  .exact .inl (.inl y)
  .exact .inr (.inl y)
  .exact .inl (.inr (.inl y))
  .exact .inl (.inr (.inr (.inl y)))
  .exact .inr (.inr ⟨y.1,W1.gC (f:=true) a (.inr (.inr (.inr ⟨rfl,y.2⟩)))⟩)
theorem aQ.kW(hm:kF F)(e:ρ[i]?=some (.cu c))(b:c.f=false)(hi:∀S H,c.P S H->∃a dx fs,c.v= .ref a/\H a=some (.ins C dx fs)/\fs.lookup m=none)
  (h:Av G ρ t λes=>es.length+1=n/\F c (es.map (·.2)) λc' f d=>Φ (ρ.set i (.cu c')) f d):aQ G ρ (qR C m (dw n F) [] E0 (bE i) t) Φ:=λnb σ H Q W z=>by
 obtain⟨X,e1,h1,h2,h3⟩:=W.ok i _ e;subst h1;obtain⟨a,dx,fs,g1,g2,U⟩:=hi _ _ h3;refine⟨c.v,e1,a,dx,fs,g1,g2,U,h nb σ H _ W λes vs H1 ⟨hl,p⟩ s1 J=>?_⟩;exact aQ.EG hm e (W.step s1) J hl b p z
theorem aQ.callC(hm:kF F)(e:ρ[i]?=some (.cu c))(b:c.f=false)(h:Av G ρ t λes=>es.length+1=n/\F c (es.map (·.2)) λc' f d=>Φ (ρ.set i (.cu c')) f d):aQ G ρ (gh (dw n F) [] E0 (aV (bE i) t)) Φ:=λnb σ H Q W z=>by
 obtain⟨X,e1,h1,h2,h3⟩:=W.ok i _ e;subst h1;refine⟨c.v,e1,h nb σ H _ W λes vs H1 ⟨hl,p⟩ s1 J=>?_⟩;exact aQ.EG hm e (W.step s1) J hl b p z
end
noncomputable def nM(F:List aw)(H:Hp)(nb:aw->Prop):Gx:=⟨none,λa=>if a∈F then none else H a,λa=>nb a/\a∉F,[]⟩
structure oB(c c':Cu):Prop where
 v:c'.v=c.v
 f:c'.f=false
 sub:∀a∈c.F,a∈c'.F
noncomputable def objE(G:Gx)(c:Cu)(Φ:Cu->Pd):DE where
 nx:=λρ=>∃c',ρ[0]?=some (.cu c')/\oB c c'/\Φ c' true .none
 rt:=λ_ _=>False
 rw:=λnb ρ v H=>∃c' f d,ρ[0]?=some (.cu c')/\oB c c'/\Φ c' f d/\ah (G.S nb f) H d v
section
variable{ρ:Rh}{t:TS}{N:List Str}{ws:List V}{ds:List PyData}{nb:aw->Prop}{H:Hp}{Q:VK}{Φ:Cu->Pd}{c:Cu}
theorem Sv.ou(hl:gE nb H)(I:∀a∈c.F,nb a)(hf:c.f=false)(Y:c.P nb H)(hd:af nb H ds ws)
    (D:∀c' f d v H',Φ c' f d->mw c c' H H'->c'.P (λa=>nb a\/a∈c'.F) H'->ah (λa=>nb a\/a∈c'.F\/(f=true/\H a≠none)) H' d v->Q v H')
    (u:ρ= .cu c::ds.map (Sl.d false)++be (N.length-(ds.length+1)) .no) (h:Sv (nM c.F H nb) ρ t (objE (nM c.F H nb) c Φ)):t {nx:=λ_ H'=>Q .aD H',rt:=Q} (start N (c.v::ws)) H:=by
  have hlen:=hd.length;have E:∀a,NB (nM c.F H nb).B a:=λa b l e=>by cases e
  have key:∀{ay r C H' c'} {f:Bool} {d:PyData} {v:V},Wd (nM c.F H nb) ay r C H'->r[0]?=some (.cu c')->oB c c'->Φ c' f d->ah ((nM c.F H nb).S ay f) H' d v->Q v H':=λ{ay r C H' c' f d v} W e up p hv=>by
    obtain⟨X,e1,h1,h2,h3⟩:=W.ok 0 _ e;have w:∀(f:Bool) a,nb a\/a∈c'.F\/(f=true/\H a≠none)->(nM c.F H nb).S ay f a:=λf a z=>by
      by_cases m:a∈c'.F;· exact .inl (h2 a m).1
      have M:a∉c.F:=λz=>m (up.sub a z);rcases z with z|z|z
      · exact .inr (.inl ⟨z,M⟩)
      · exact absurd z m
      · exact .inr (.inr (.inr ⟨z.1,by show(if a∈c.F then none else H a)≠none;rw[if_neg M];exact z.2⟩))
    refine D c' f d v H' p ⟨up.v,up.f,up.sub,λa m=>?_,λa o n q=>?_,λa m=>W.live a (h2 a m).1⟩ (c'.av (λa z=>by rw[up.f];exact w false a (z.elim .inl λz=> .inr (.inl z))) h3) (hv.av (w f))
    · have:=W.bP a (h2 a m).1 (h2 a m).2
      by_cases z:a∈c.F;· exact .inl z
      · exact .inr (by have q:(if a∈c.F then none else H a)=none:=this;rwa[if_neg z] at q)
    · exact W.old a o (E a) (by show(if a∈c.F then none else H a)=_;rw[if_neg n];exact q)
  refine h (λa=>a∈c.F) _ H _ ⟨λ_ _ z=>(by cases z),λa z=>hl a (I a z),λa o _ e=>?_,λa z _=>by show(if a∈c.F then none else H a)=none;rw[if_pos z],λa z=>?_,?_,λ_ _ z=>(by cases z),λ_ m=>(by cases m),λi s e=>?_,?_,?_,?_⟩ ⟨λay r C H' ⟨c',e,up,p⟩ W=>key W e up p .aD,λ_ _ _ _ q _=>q.elim,λ_ _ _ _ q _=>q.elim,λ_ _ _ _ _ _ _ q _ _=>q.elim,λay r C v H' ⟨c',f,d,e,up,p,hv⟩ W=>key W e up p hv⟩
  · have e:(if a∈c.F then none else H a)=some o:=e
    by_cases z:a∈c.F;· rw[if_pos z] at e;cases e
    · rwa[if_neg z] at e
  · show(if a∈c.F then none else H a)≠none
    rw[if_neg z.2];exact hl a z.1
  · rw[u];unfold start;simp[hlen]
  · rw[u] at e
    unfold start;have av:∀a,(nM c.F H nb).S (λa=>a∈c.F) false a->nb a:=λa z=>by
      rcases z with z|z|z|z
      · exact I a z
      · exact z.1
      · exact absurd (E a) z
      · cases z.1
    cases i with
    |zero=>simp at e;subst e;exact⟨some c.v,by simp,rfl,λa m=>⟨m,E a⟩,by rw[hf];exact c.av av Y⟩
    | succ i =>
      simp only[jI,jn,bu,cH] at e⊢;by_cases hi:i<ds.length
      · rw[eO (by rw[ao];exact hi)] at e
        obtain⟨v,d,hv,rfl,q⟩:=kG hd e;refine⟨some v,?_,v,rfl,q.av av⟩;rw[eO (by rw[ao,hlen];exact hi),bC,hv];rfl
      · rw[eE (by rw[ao];omega),dR] at e
        split at e
        · rename_i h'
          cases e;refine⟨none,?_,trivial⟩;rw[ao] at h';rw[eE (by rw[ao];omega),dR,if_pos (by rw[ao,hlen];exact h')]
        · cases e
  all_goals
    have sl:∀{i:Nat} {s:Sl},ρ[i+1]?=some s->s.adr=[]:=λ{i s} e1=>by
      rw[u] at e1;simp only[jI,jn] at e1;by_cases hi:i<ds.length
      · rw[eO (by rw[ao];exact hi)] at e1
        obtain⟨_,_,_,z,_⟩:=kG hd e1;subst z;rfl
      · rw[eE (by rw[ao];omega),dR] at e1
        split at e1;· cases e1;rfl
        · cases e1
    have s0:∀{s:Sl},ρ[0]?=some s->s= .cu c:=λ{s} e1=>by rw[u] at e1;simp at e1;exact e1.symm
  · intro i j a f as c2 g cs hij e1
    cases i with
    |zero=>cases s0 e1
    |succ i=>cases sl e1
  · intro i j a f as c2 g cs hij e1
    cases i with
    |zero=>cases s0 e1
    |succ i=>cases sl e1
  · intro i j c2 s hij e1 e2 a m
    cases i with
    | zero =>
      cases j with
      |zero=>exact absurd rfl hij
      |succ j=>rw[sl e2];exact λz=>by cases z
    | succ i =>
      have:=sl e1;rw[show Sl.adr (.cu c2)=c2.F from rfl] at this;rw[this] at m;cases m
end
theorem Kp.sub{S:aw->Prop}{F b:List aw}(k:Kp S F H H')(h:∀a∈b,a∈F):Kp S b H H':=⟨λa m=>k.own a (h a m),k.lst,k.tup,k.bF⟩
noncomputable def eT(a:aw)(ds:List PyData):Cu where
 v:= .ref a
 F:=[a]
 f:=false
 P:=λS H=>∃xs,H a=some (.lst xs)/\af S H ds xs
 keep:=λk ⟨xs,h,q⟩=>⟨xs,k.own _ (aJ.mpr rfl) _ h,af.kp k q⟩
 av:=λz ⟨xs,h,q⟩=>⟨xs,h,q.av z⟩
 fresh:=λz ⟨xs,h,q⟩=>⟨xs,h,q.fresh z⟩
inductive Fl where
 |d (d:PyData)|cu (c:Cu)
noncomputable def Fl.adr:Fl->List aw
 | .d _=>[]
 | .cu c=>c.F
def kC(S:aw->Prop)(H:Hp)(v:V):Fl->Prop
 | .d d=>ah S H d v
 | .cu c=>v=c.v/\c.P S H
noncomputable abbrev Fs:=List (Str×Fl)
def bL(S:aw->Prop)(H:Hp):Fs->List (Str×V)->Prop
 |[],vs=>vs=[]
 |f::fs,vs=>∃v ws,vs=(f.1,v)::ws/\kC S H v f.2/\bL S H fs ws
noncomputable def bZ(x dx:aw)(fs:Fs):List aw:=x::dx::fs.flatMap λf=>f.2.adr
theorem kC.map{S S':aw->Prop}{v:V}{fl:Fl}(h:kC S H v fl)(hd:∀d v,ah S H d v->ah S' H' d v)(hc:∀c,fl= .cu c->c.P S H->c.P S' H'):kC S' H' v fl:=by
 cases fl with
 |d d=>exact hd _ _ h
 |cu c=>exact⟨h.1,hc c rfl h.2⟩
theorem bL.map{S S':aw->Prop}{H H':Hp}:∀{fs:Fs} {vs:List (Str×V)},bL S H fs vs->(∀d v,ah S H d v->ah S' H' d v)->(∀f∈fs,∀c,f.2= .cu c->c.P S H->c.P S' H')->bL S' H' fs vs
 |[],_,h,_,_=>h
 |f::fs,_,⟨v,ws,e,h1,h2⟩,hd,hc=>⟨v,ws,e,h1.map hd (hc f (cQ ..)),bL.map h2 hd λg m=>hc g (cB _ m)⟩
theorem HF{x:aw}{fs:Fs}{f:Str×Fl}(h:f∈fs){a:aw}(m:a∈f.2.adr):a∈bZ x dx fs:=cB _ (cB _ (qg.mpr ⟨f,h,m⟩))
noncomputable def aU(C x dx:aw)(fs:Fs):Cu where
 v:= .ref x
 F:=bZ x dx fs
 f:=false
 P:=λS H=>(bZ x dx fs).Nodup/\H dx=some (.own x)/\fs.length<=900/\∃vs,H x=some (.ins C dx vs)/\bL S H fs vs
 keep:=λk ⟨n,h,l,vs,q,r⟩=>⟨n,k.own _ (by simp[bZ]) _ h,l,vs,k.own _ (by simp[bZ]) _ q,r.map (λd v z=>ah.kp k z) λf m c e z=>c.keep (k.sub λa y=>HF m (by rw[e];exact y)) z⟩
 av:=λz ⟨n,h,l,vs,q,r⟩=>⟨n,h,l,vs,q,r.map (λd v y=>y.av z) λf m c e y=>c.av z y⟩
 fresh:=λz ⟨n,h,l,vs,q,r⟩=>⟨n,h,l,vs,q,r.map (λd v y=>y.fresh z) λf m c e y=>c.fresh z y⟩
theorem bL.get{S:aw->Prop}{H:Hp}{f:Str}{fl:Fl}:∀{fs:Fs} {vs:List (Str×V)},bL S H fs vs->fs.lookup f=some fl->∃v,vs.lookup f=some v/\kC S H v fl
  |[],_,h,e=>by simp at e
  | (g, x) :: fs, _, ⟨v, ws, e, h1, h2⟩, q => by
    subst e;rw[eu] at q⊢;cases hb:(f==g) with
    |true=>rw[hb] at q;cases q;exact⟨v,rfl,h1⟩
    |false=>rw[hb] at q;exact bL.get h2 q
theorem bL.no{S:aw->Prop}{H:Hp}{f:Str}:∀{fs:Fs} {vs:List (Str×V)},bL S H fs vs->fs.lookup f=none->vs.lookup f=none
  |[],_,h,e=>by unfold bL at h;subst h;rfl
  | (g, x) :: fs, _, ⟨v, ws, e, h1, h2⟩, q => by
    subst e;rw[eu] at q⊢;cases hb:(f==g) with
    |true=>rw[hb] at q;cases q
    |false=>rw[hb] at q;exact bL.no h2 q
noncomputable def dI(f:Str)(v:Fl):Fs->Fs
 |[]=>[(f,v)]
 |(g,x)::r=>if g=f then(g,v)::r else(g,x)::dI f v r
theorem bL.put{S:aw->Prop}{H:Hp}{f:Str}{fl:Fl}{v:V}(hv:kC S H v fl):∀{fs:Fs} {vs:List (Str×V)},bL S H fs vs->bL S H (dI f fl fs) (eU f v vs)
  |[],_,h=>by unfold bL at h;subst h;exact⟨v,[],rfl,hv,rfl⟩
  | (g, x) :: fs, _, ⟨w, ws, e, h1, h2⟩ => by
    subst e;unfold dI eU;by_cases h:g=f;· rw[if_pos h,if_pos h];exact⟨v,ws,rfl,hv,h2⟩
    · rw[if_neg h,if_neg h];exact⟨w,_,rfl,h1,bL.put hv h2⟩
theorem bL.len{S:aw->Prop}{H:Hp}:∀{fs:Fs} {vs:List (Str×V)},bL S H fs vs->vs.length=fs.length
 |[],_,h=>by unfold bL at h;subst h;rfl
 |f::fs,_,⟨v,ws,e,h1,h2⟩=>by subst e;simp[bL.len h2]
theorem aU.is{x:aw}{fs:Fs}{m:Str}(hm:fs.lookup m=none):∀S H,(aU C x dx fs).P S H->∃a dx' vs,(aU C x dx fs).v= .ref a/\H a=some (.ins C dx' vs)/\vs.lookup m=none:=λS H ⟨n,h,l,vs,q,r⟩=>⟨x,dx,vs,rfl,q,r.no hm⟩
section
variable{G:Gx}{ρ:Rh}{Φ:Pd}{ta tb te:TE}{t:TA}{i:Nat}{E:DE}{C x dx l:aw}{fs:Fs}{K:PySem.W.Frag}{f m:Str}{d:PyData}{ds:List PyData}
theorem Wd.nR(W:Wd G nb ρ σ H)(e:ρ[i]?=some (.cu (aU C x dx fs))):∃vs,σ[i]?=some (some (.ref x))/\(∀a∈bZ x dx fs,nb a/\NB G.B a)/\(bZ x dx fs).Nodup/\H dx=some (.own x)/\fs.length<=900/\H x=some (.ins C dx vs)/\bL (G.S nb false) H fs vs:=by
 obtain⟨X,e1,h1,h2,n,h,l,vs,q,r⟩:=W.ok i _ e;subst h1;exact⟨vs,e1,h2,n,h,l,q,r⟩
theorem Ev.fld(e:ρ[i]?=some (.cu (aU C x dx fs)))(cl:dO K C)(J:fB K C f)(hl:fs.lookup f=some (.d d))(h:Φ false d):Ev G ρ (lR K (bE i) f) Φ:=λnb σ H Q W z=>by
 obtain⟨vs,e1,h2,n,h3,l,q,r⟩:=W.nR e;obtain⟨v,g1,g2⟩:=r.get hl;exact⟨.ref x,e1,x,C,dx,vs,v,rfl,q,cl,J,g1,z false v H d h (.refl W.aj) g2⟩
theorem lookup_mem{fl:Fl}:∀{fs:Fs},fs.lookup f=some fl->(f,fl)∈fs
  |[],h=>by simp at h
  | (g, y) :: r, h => by
    rw[eu] at h;cases hb:(f==g) with
    |true=>rw[hb] at h;cases h;rw[beq_iff_eq.mp hb];exact cQ ..
    |false=>rw[hb] at h;exact cB _ (lookup_mem h)
theorem ID{fl:Fl}(hl:fs.lookup f=some fl){a:aw}(m:a∈fl.adr):a∈bZ x dx fs:=HF (lookup_mem hl) m
theorem z3{Q:VK}{c:Cu}(W:Wd G nb ρ σ H)(e:ρ[i]?=some (.cu (aU C x dx fs)))(cl:dO K C)(J:fB K C f)(hl:fs.lookup f=some (.cu c))
  (z:(∀a∈c.F,nb a/\NB G.B a)->c.P (G.S nb false) H->Q c.v H):lR K (bE i) f σ H Q:=by
 obtain⟨vs,e1,h2,n,h3,len,q,r⟩:=W.nR e;obtain⟨v,g1,g2,U⟩:=r.get hl;exact⟨.ref x,e1,x,C,dx,vs,v,rfl,q,cl,J,g1,by rw[g2];exact z (λa m=>h2 a (ID hl m)) U⟩
theorem xP{fl pK:Fl}(h':pK.adr=fl.adr):∀{fs:Fs},fs.lookup f=some fl->((dI f pK fs).flatMap λg=>g.2.adr)=fs.flatMap λg=>g.2.adr
  |[],h=>by simp at h
  | (g, y) :: r, h => by
    unfold dI;rw[eu] at h;cases hb:(f==g) with
    | true =>
      rw[hb] at h;cases h
      rw[if_pos (beq_iff_eq.mp hb).symm,pB,pB,h']
    | false =>
      rw[hb] at h;rw[if_neg (λz=>by rw[z,beq_self_eq_true] at hb;cases hb),pB,pB,xP h' h]
theorem Ct{fl pK:Fl}:∀{fs:Fs},fs.lookup f=some fl->(dI f pK fs).length=fs.length
  |[],h=>by simp at h
  | (g, y) :: r, h => by
    unfold dI;rw[eu] at h;cases hb:(f==g) with
    |true=>rw[if_pos (beq_iff_eq.mp hb).symm];rfl
    | false =>
      rw[hb] at h;rw[if_neg (λz=>by rw[z,beq_self_eq_true] at hb;cases hb),cH,cH,Ct h]
theorem kC.wr{S:aw->Prop}{v:V}{fl:Fl}{p:aw}(N:S p)(hp:p∉fl.adr)(h:kC S H v fl):kC S (upd H p o) v fl:=
 h.map (λd v z=>z.keep (aP.set N)) λc e z=>c.keep (.of λa o' m q=>by
  rw[bA];·exact q
  .rintro rfl;rcases m with m|m
   .exact m N
   .rw[e] at hp;exact hp m) z
theorem bL.Ac{S:aw->Prop}{H:Hp}{p:aw}{o:HO}(N:S p):∀{fs:Fs} {vs:List (Str×V)},(p∉fs.flatMap λg=>g.2.adr)->bL S H fs vs->bL S (upd H p o) fs vs
  |[],_,_,h=>h
  | g :: fs, _, hp, ⟨v, ws, e, h1, h2⟩ => by
    rw[pB,ia] at hp;exact⟨v,ws,e,h1.wr N λz=>hp (.inl z),bL.Ac N (λz=>hp (.inr z)) h2⟩
theorem bL.wr{S:aw->Prop}{H:Hp}{p:aw}{o:HO}{c c':Cu}(N:S p)(hp:p∈c.F)(hv:c'.v=c.v)(hc:c'.P S (upd H p o)):∀{fs:Fs} {vs:List (Str×V)},(fs.flatMap λg=>g.2.adr).Nodup->fs.lookup f=some (.cu c)->bL S H fs vs->bL S (upd H p o) (dI f (.cu c') fs) vs
  |[],_,_,h,_=>by simp at h
  | (g, y) :: r, _, hn, h, ⟨v, ws, e, h1, h2⟩ => by
    unfold dI;rw[pB,zR] at hn;rw[eu] at h;cases hb:(f==g) with
    | true =>
      rw[hb] at h;cases h
      rw[if_pos (beq_iff_eq.mp hb).symm];exact⟨v,ws,e,⟨by rw[hv];exact h1.1,hc⟩,bL.Ac N (λz=>hn.2.2 p hp p z rfl) h2⟩
    | false =>
      rw[hb] at h;rw[if_neg (λz=>by rw[z,beq_self_eq_true] at hb;cases hb)];exact⟨v,ws,e,h1.wr N λz=>hn.2.2 p z p (qg.mpr ⟨_,lookup_mem h,hp⟩) rfl,bL.wr N hp hv hc hn.2.1 h h2⟩
theorem Wd.LW{c c':Cu}{p:aw}(W:Wd G nb ρ σ H)(e:ρ[i]?=some (.cu (aU C x dx fs)))(hl:fs.lookup f=some (.cu c))(hp:p∈c.F)(hv:c'.v=c.v)(I:c'.F=c.F)(h:c'.P (G.S nb false) (upd H p o)):
  Wd G nb (ρ.set i (.cu (aU C x dx (dI f (.cu c') fs)))) σ (upd H p o):=by
 obtain⟨vs,e1,h2,n,h3,len,q,r⟩:=W.nR e;have L:p∈bZ x dx fs:=ID hl hp;have N:G.S nb false p:= .inl (h2 p L).1;have hn:=n;unfold bZ at hn;obtain⟨n1,w⟩:=eW.mp hn;obtain⟨j,k⟩:=eW.mp w;have d:p∈fs.flatMap λg=>g.2.adr:=qg.mpr ⟨_,lookup_mem hl,hp⟩;have b:x≠p:=λz=>n1 (by rw[z];exact cB _ d);have l:dx≠p:=λz=>j (by rw[z];exact d);have u:bZ x dx (dI f (.cu c') fs)=bZ x dx fs:=by unfold bZ;rw[xP (fl:= .cu c) (pK:= .cu c') I hl]
 refine W.GO (c':=aU C x dx (dI f (.cu c') fs)) e L rfl (λa m=>by rw[show(aU C x dx (dI f (.cu c') fs)).F=bZ x dx fs from u] at m;exact m) ?_;exact⟨by rw[u];exact n,by rw[bA l];exact h3,by rw[Ct hl];exact len,vs,by rw[bA b];exact q,bL.wr N hp hv h k hl r⟩
theorem bL.CP{S:aw->Prop}{fl:Fl}{v:V}{p:aw}(N:S p)(hv:kC S (upd H p o) v fl){fs:Fs}{vs:List (Str×V)}(hp:p∉fs.flatMap λg=>g.2.adr)(h:bL S H fs vs):bL S (upd H p o) (dI f fl fs) (eU f v vs):=bL.put hv (bL.Ac N hp h)
theorem wH{fl:Fl}:∀{fs:Fs},fs.lookup f=none->dI f fl fs=fs++[(f,fl)]
  |[],_=>rfl
  | (g, y) :: r, h => by
    unfold dI;rw[eu] at h;cases hb:(f==g) with
    |true=>rw[hb] at h;cases h
    | false =>
      rw[hb] at h;rw[if_neg (λz=>by rw[z,beq_self_eq_true] at hb;cases hb),wH h];rfl
theorem Sv.Om(e:ρ[i]?=some (.cu (aU C x dx fs)))(cl:dO K C)(J:fB K C f)(hl:fs.lookup f=none\/∃d0,fs.lookup f=some (.d d0))(hlen:fs.length<900)(h:Ev G ρ te λ_ d=>E.nx (ρ.set i (.cu (aU C x dx (dI f (.d d) fs))))):Sv G ρ (AM K (bE i) te f) E:=λnb σ H D W KK=>
 h nb σ H _ W λj v H1 d q s1 hv=>by
  have W1:=W.step s1;obtain⟨vs,e1,h2,n,h3,len,p,r⟩:=W1.nR e;have A:G.S nb false x:= .inl (h2 x (by simp[bZ])).1;have hn:=n;unfold bZ at hn;obtain⟨n1,w⟩:=eW.mp hn;have k:dx≠x:=λz=>n1 (by rw[z];exact cQ ..);have hx:x∉fs.flatMap λg=>g.2.adr:=λz=>n1 (cB _ z);have u:bZ x dx (dI f (.d d) fs)=bZ x dx fs:=by
   unfold bZ;rcases hl with hl|⟨d0,hl⟩
   .rw[wH hl,DA];show _::_::(_++([]++[]))=_;rw[fT,fT]
   .rw[xP (fl:= .d d0) (pK:= .d d) rfl hl]
  have b:(dI f (.d d) fs).length<=900:=by
   rcases hl with hl|⟨d0,hl⟩
   .rw[wH hl,fq,o6];omega
   .rw[Ct hl];exact len
  refine⟨.ref x,e1,x,C,dx,vs,rfl,p,cl,J,by rw[r.len];omega,KK.nx nb _ _ _ q ?_⟩;refine W1.GO (c':=aU C x dx (dI f (.d d) fs)) e (by show x∈bZ x dx fs;simp[bZ]) rfl (λa m=>by rw[show(aU C x dx (dI f (.d d) fs)).F=bZ x dx fs from u] at m;exact m) ?_;refine⟨by rw[u];exact n,by rw[bA k];exact h3,b,_,aY,bL.CP A ?_ hx r⟩;exact(hv.av (bJ (λz=>by cases z) λ_ z=>z)).keep (aP.set A)
theorem Wd.NI{c:Cu}{vs:List (Str×V)}{l:aw}(W:Wd G nb ρ σ H)(s1:Step G.B H H1)(e:ρ[i]?=some (.cu (aU C x dx fs)))(hl:fs.lookup f=none)(hlen:fs.length<900)(t:c.F=[l])(VE:c.v= .ref l)(I:H l=none)(h:H1 l≠none)
  (Y:c.P (λa=>G.S nb false a\/a=l) H1) (p:H1 x=some (.ins C dx vs)):Wd G (λa=>(nb a\/a∈[l])\/a∈bZ x dx (fs++[(f, .cu c)])) (ρ.set i (.cu (aU C x dx (fs++[(f, .cu c)])))) σ (upd H1 x (.ins C dx (eU f c.v vs))):=by
 have R:∀a∈[l],H a=none:=λa m=>by rw[aJ.mp m];exact I
 obtain⟨Vr,X,U,_⟩:=W.nR e;have qh:l∉bZ x dx fs:=λz=>W.live l (U l z).1 I;obtain⟨W1,L,T⟩:=W.Ec s1 R (λa m=>by rw[aJ.mp m];exact h);obtain⟨Q,e1,h2,n,h3,len,K,r⟩:=W1.nR e;rw[p] at K;cases K;have hn:=n;unfold bZ at hn;obtain⟨n1,w⟩:=eW.mp hn;have k:dx≠x:=λz=>n1 (by rw[z];exact cQ ..);have hx:x∉fs.flatMap λg=>g.2.adr:=λz=>n1 (cB _ z);have D:l≠x:=λz=>qh (by rw[z];simp[bZ]);have E:x∈bZ x dx fs:=by simp[bZ]
 have u:bZ x dx (fs++[(f, .cu c)])=bZ x dx fs++[l]:=by
  unfold bZ;rw[DA];show _::_::(_++(c.F++[]))=_;rw[t]
  rfl
 have N:∀{a},G.S (λy=>(nb y\/y∈[l])\/y∈bZ x dx (fs++[(f, .cu c)])) false a->G.S (λy=>nb y\/y∈[l]) false a:=λ{a} z=>by
  rcases z with (z|z)|z|z|z
  .exact .inl z
  .rw[u,ia] at z;rcases z with z|z
   .exact .inl (h2 a z).1
   .exact .inl (.inr z)
  .exact .inr (.inl z)
  .exact .inr (.inr (.inl z))
  .exact .inr (.inr (.inr z))
 refine W1.EZ (c:=aU C x dx fs) (c':=aU C x dx (fs++[(f, .cu c)])) e (λa o J q=>?_) rfl (λa m=>?_) (λa m=>?_) ?_;·rw[bA (λz=>J (by rw[z];exact E))];exact q
 .rw[show(aU C x dx (fs++[(f, .cu c)])).F=bZ x dx fs++[l] from u,ia] at m;rcases m with m|m
  .exact .inl m
  .rw[aJ.mp m];refine .inr (.inr ⟨.inr (aJ.mpr rfl),L l (aJ.mpr rfl),λj s O z=>?_⟩);obtain⟨y,_,q⟩:=W.ok j s O;exact W.live l (q.wZ l z).1 I
 .by_cases z:a=x;·rw[z,aY];exact gU _
  .rw[bA z];rcases m with m|m
   .exact W1.live a (h2 a m).1
   .rw[show(aU C x dx (fs++[(f, .cu c)])).F=bZ x dx fs++[l] from u,ia] at m;rcases m with m|m
    .exact W1.live a (h2 a m).1
    .rw[aJ.mp m];exact h
 .refine⟨?_,by rw[bA k];exact h3,by rw[fq,o6];omega,_,aY,?_⟩
  .rw[u,zR];exact⟨n,by simp,λa m b M z=>qh (by rw[aJ.mp M] at z;rw[<-z];exact m)⟩
  .have A:G.S (λy=>nb y\/y∈[l]) false x:= .inl (h2 x E).1;have:=bL.CP (f:=f) (fl:= .cu c) (v:=c.v) (o:= .ins C dx (eU f c.v vs)) A ⟨rfl,c.keep (S:=G.S (λy=>nb y\/y∈[l]) false) (.of λa o m q=>?_) (c.av (λa z=>?_) Y)⟩ hx r
   .rw[wH hl] at this;exact this.map (λd v z=>z.av λa=>N) λg m c' e z=>c'.av (λa=>N) z
   .rw[bA];·exact q
    .rintro rfl;rcases m with m|m
     .exact m A
     .rw[t] at m;exact D (aJ.mp m).symm
   .rcases T false a z with z|z
    .exact .inl z
    .exact .inr (aJ.mp z)
theorem Sv.KZ(e:ρ[i]?=some (.cu (aU C x dx fs)))(cl:dO K C)(J:fB K C f)(hl:fs.lookup f=none)(hlen:fs.length<900)(h:aC G ρ te λ_ ds=>∀l,E.nx (ρ.set i (.cu (aU C x dx (fs++[(f, .cu (eT l ds))]))))):Sv G ρ (AM K (bE i) te f) E:=λnb σ H D W KK=>
 h nb σ H _ W λj l xs H1 ds q s1 I b hd=>by
  obtain⟨vs,e1,h2,n,h3,len,p,r⟩:=(W.step s1).nR e;refine⟨.ref x,e1,x,C,dx,vs,rfl,p,cl,J,by rw[r.len];omega,KK.nx _ _ _ _ (q l) (W.NI (c:=eT l ds) s1 e hl hlen rfl rfl I (by rw[b];exact gU _) ⟨xs,b,hd.av λa z=>?_⟩ p)⟩;rcases z with z|z
  .exact .inl (bJ (λw=>by cases w) (λ_ w=>w) a z)
  .exact .inr z
theorem Sv.Je{l:aw}(e:ρ[i]?=some (.cu (aU C x dx fs)))(cl:dO K C)(J:fB K C f)(hl:fs.lookup f=some (.cu (eT l ds)))(h:Ev G ρ te λ_ d=>Ev G ρ tb λ_ y=>∃k j,y= .int k/\gF ds.length k=some j/\E.nx (ρ.set i (.cu (aU C x dx (dI f (.cu (eT l (ds.set j d))) fs))))):Sv G ρ (fk te (pV (lR K (bE i) f) tb rJ)) E:=λnb σ H D W KK=>
 h nb σ H _ W λg v H1 d q s1 hv=>z3 (W.step s1) e cl J hl λI ⟨xs,hx,hd⟩=>q nb σ H1 _ (W.step s1) λg' u H2 y ⟨k,j,b,hj,p⟩ s2 F=>by
  subst b;have W2:=(W.step s1).step s2;have qh:=I l (aJ.mpr rfl);have N:G.S nb false l:= .inl qh.1;refine⟨l,xs,k,j,rfl,F.bM,s2.1 _ _ qh.2 hx,by rw[hd.length];exact hj,KK.nx nb _ _ _ p (W2.LW (c:=eT l ds) (c':=eT l (ds.set j d)) e hl (aJ.mpr rfl) rfl rfl ⟨_,aY,?_⟩)⟩;exact(af.set' ((hv.av (bJ (λz=>by cases z) λ_ z=>z)).keep s2.cE) j (hd.keep s2.cE)).keep (aP.set N)
theorem aC.Pw{l:aw}(e:ρ[i]?=some (.cu (aU C x dx fs)))(cl:dO K C)(J:fB K C f)(hl:fs.lookup f=some (.cu (eT l ds)))(h:Θ (eK ds) ds):aC G ρ (eH (iA K) (aV (lR K (bE i) f) bI)) Θ:=λnb σ H Q W z=>by
 show lR K (bE i) f σ H _;exact z3 W e cl J hl λI ⟨xs,hx,hd⟩=>⟨l,xs,rfl, .inl (.of hx),λp hp=>aC.fin (f:=false) W (.refl W.aj) hp hd (by rw[nL];exact h) z⟩
def jh(G:Gx)(ρ:Rh)(ta:TA)(Φ:List PyData->Prop):Prop:=∀nb σ H (Q:List V->Hp->Prop),Wd G nb ρ σ H->(∀ds vs H',Φ ds->Step G.B H H'->af (λa=>¬NB G.B a) H' ds vs->Q vs H')->ta σ H Q
theorem jh.nil{Θ:List PyData->Prop}(h:Θ []):jh G ρ bI Θ:=λnb σ H Q W z=>z [] [] H h (.refl W.aj) .nil
theorem jh.cons{Θ:List PyData->Prop}(h:Ev G ρ te λ_ d=>jh G ρ t λds=>Θ (d::ds)):jh G ρ (aV te t) Θ:=λnb σ H Q W z=>
 h nb σ H _ W λf v H1 d k s1 J=>k nb σ H1 _ (W.step s1) λds vs H2 p2 s2 q2=>z _ _ H2 p2 (s1.trans s2) (.cons ((J.av λa y=> .inr (.inr (.inl y))).keep (s2.but λ_ y=>y)) q2)
theorem jh.fld{Θ:List PyData->Prop}{l:aw}(e:ρ[i]?=some (.cu (aU C x dx fs)))(cl:dO K C)(J:fB K C f)(hl:fs.lookup f=some (.cu (eT l ds)))(h:jh G ρ t λes=>Θ (.list ds::es)):jh G ρ (aV (lR K (bE i) f) t) Θ:=λnb σ H Q W z=>by
 show lR K (bE i) f σ H _;exact z3 W e cl J hl λI ⟨xs,hx,hd⟩=>h nb σ H _ W λes vs H2 p2 s2 q2=>z _ _ H2 p2 s2 (.cons (.lst (λy=>y (I l (aJ.mpr rfl)).2) (s2.1 _ _ (I l (aJ.mpr rfl)).2 hx) ((hd.av λa y=> .inr (.inr (.inl y))).keep (s2.but λ_ y=>y))) q2)
theorem Ev.SY{F:DF}(hm:fm F)(h:jh G ρ t λds=>ds.length=n/\F ds λf d=>(f=true\/iV d=true)/\Φ true d):Ev G ρ (gh (c6 n F) [] E0 t) Φ:=λnb σ H Q W z=>
 h nb σ H _ W λds vs H1 ⟨hl,p⟩ s1 J=>by
  have W1:=W.step s1;rw[fT];refine⟨by rw[J.length,hl],λa=>¬NB G.B a,ds,λa y=>NB.kL W1.aj y,J,hm _ _ _ p λf d ⟨hf,hp⟩ v H' b hd=>z true v H' d hp (s1.trans (.same W1.aj b)) ?_⟩;rcases hf with hf|hf
  .exact hd.av λa y=> .inr ⟨hf,W1.gC (f:=true) a y⟩
  .exact hd.kr hf
theorem Sv.make{F:CF}(hm:kF F)(h:Av G ρ t λes=>es.length+1=n/\∀x dx,F (aU C x dx []) (es.map (·.2)) λc' _ d=>d= .none/\E.nx (ρ.set i (.cu c'))):Sv G ρ (fk (Bv C (dw n F) [] E0 t) (eV i)) E:=λnb σ H D W KK=>
 h nb σ H _ W λes vs H1 ⟨hl,p⟩ s1 J x dx hx k R=>by
  have W1:=W.step s1;have g:cR H1 (upd (upd H1 dx (.own x)) x (.ins C dx [])):=λa o e=>by
   rw[bA (gM e hx),bA (gM e k)];exact e
  have q:∀a,G.S nb false a->H1 a≠none:=λa y=>W1.gC a y;have K:af (λa=>G.S nb false a\/a∈[x,dx]) (upd (upd H1 dx (.own x)) x (.ins C dx [])) (es.map (·.2)) vs:=by
   have hq:=J.all (f:=false) λz=>by cases z
   generalize es.map (·.2)=dl at hq;refine af.keep (aP.of g) ?_
   exact gu (P:=λS=>af S H1 dl vs) (λz h=>af.av z h) (λhp h=>af.fresh hp h) (L:=[x,dx]) (λa m=>by
    rcases aO.mp m with m|m
    .rw[m];exact hx
    .rw[aJ.mp m];exact k) hq
  rw[fT];refine⟨by rw[cH,J.len,hl],λa=>G.S nb false a\/a∈[x,dx],aU C x dx [],vs,es.map (·.2),rfl,λa y=>?_,λa m=> .inr m,rfl,?_,K,hm _ _ _ _ (p x dx) λc' f d ⟨l,hp⟩ v H' to Y hd=>?_⟩
  .rcases y with y|y
   .cases e:H1 a with
    |none=>exact absurd e (q a y)
    |some o=>rw[g a o e];exact gU _
   .rcases aO.mp y with m|m
    .rw[m,aY];exact gU _
    .rw[aJ.mp m,bA R,aY];exact gU _
  .refine⟨by simp[bZ,bX R],by rw[bA R,aY],⋯,[],aY,rfl⟩
  .subst l;refine⟨hd.uI,?_⟩;have j:∀a∈c'.F,H1 a=none:=λa m=>by
    rcases to.new a m with y|y
    .rcases aO.mp y with m|m
     .rw[m];exact hx
     .rw[aJ.mp m];exact k
    .cases e:H1 a with
     |none=>rfl
     |some o=>rw[g a o e] at y;cases y
   have st:Step G.B H1 H':=by
    have b:cR H1 H':=λa o e=>to.kp a o (λm=>by
     rcases aO.mp m with m|m
     .rw[m,hx] at e;cases e
     .rw[aJ.mp m,k] at e;cases e) (g a o e)
    exact .same W1.aj b
   have:=W1.Oe (i:=i) (c:=c') st j to.lv (c'.av (λa y=>?_) Y)
   .rw[to.v] at this;exact KK.nx _ _ _ _ hp this
   .rw[to.f] at y;rcases y with y|y
    .exact .inl (.inl y)
    .exact .inr y
theorem aQ.tup{Φ:Rh->Pd}(h:lq G ρ t λr es=>es.length<=10000/\Φ r (iy es) (.tuple (es.map (·.2)))):aQ G ρ (pe t) Φ:=λnb σ H Q W z=>
 h nb σ H _ W λay r es vs H1 ⟨hl,p⟩ W1 J=>⟨dZ (by rw[J.len];exact hl) ⋯,λa ha=>z ay r _ _ _ _ p (W1.step (.same W1.aj (cP ha)))
  (.tup (W1.fresh ha) aY ((J.all λz=>z).keep (aP.of (cP ha))))⟩
end
noncomputable def cI(p:Int)(cs:List au)(wd:Wo):Nat->List aZ
  |0=>[]
  | i + 1 => match bK p (cs.getD i []) 0 wd with
    |some (a,x)=>if a∈(cI p cs wd i).map (·.1) then cI p cs wd i else cI p cs wd i++[(a,(i:Int),x)]
    |none=>cI p cs wd i
theorem mV{p:Int}{cs:List au}{wd:Wo}:∀i,((cI p cs wd i).map (·.1)).Nodup
  |0=>by simp[cI]
  | i + 1 => by
    unfold cI;split
    · split
      · exact mV i
      · rename_i a x e c
        rw[eN,zR];refine⟨mV i,by simp,λy hy z hz e=>c ?_⟩;simp at hz;rw[<-hz,<-e];exact hy
    · exact mV i
theorem se{p:Int}{cs:List au}{wd:Wo}{m:aZ}:∀{i},m∈cI p cs wd i->0<=m.2.1/\m.2.1<i/\bK p (cs.getD m.2.1.toNat []) 0 wd=some (m.1,m.2.2)/\∀c:Nat,(c:Int)<m.2.1->∀x,bK p (cs.getD c []) 0 wd≠some (m.1,x)
  |0,h=>by simp[cI] at h
  | i + 1, h => by
    have key:∀{c:Nat},(∃x,bK p (cs.getD c []) 0 wd=some (m.1,x))->c<i->m.1∈(cI p cs wd i).map (·.1):=λ{c} hx hc=>by
      clear h;induction i with
      |zero=>omega
      | succ i ih =>
        unfold cI;by_cases e:c=i
        · subst e
          obtain⟨x,hx⟩:=hx;rw[hx];dsimp only;split;· rename_i h;exact h
          · simp
        · have:=ih ∅
          split
          · split
            · exact this
            · rw[eN];exact mU _ this
          · exact this
    unfold cI at h;split at h
    · rename_i a x e
      split at h;· obtain⟨h1,h2,h3⟩:=se h;exact⟨h1,∅,h3⟩
      · rename_i c
        rcases ia.mp h with h|h
        · obtain⟨h1,h2,h3⟩:=se h;exact⟨h1,∅,h3⟩
        · simp at h
          subst h;refine⟨by simp,by simp;omega,by simpa using e,λc' C M L=>c ?_⟩;exact key ⟨M,L⟩ (by simpa using C)
    · obtain⟨h1,h2,h3⟩:=se h;exact⟨h1,∅,h3⟩
theorem E9{p:Int}{cs:List au}{wd:Wo}{c:Nat}{a x:Int}(hx:bK p (cs.getD c []) 0 wd=some (a,x)):∀{i},c<i->a∈(cI p cs wd i).map (·.1)
  |0,h=>∅
  | i + 1, h => by
    unfold cI;by_cases e:c=i
    · subst e
      rw[hx];dsimp only;split;· rename_i h;exact h
      · simp
    · have:=E9 hx (i:=i) ∅
      split
      · split
        · exact this
        · rw[eN];exact mU _ this
      · exact this
noncomputable def aG(p:Int)(cs:List au)(wd:Wo):List aZ:=(cI p cs wd cs.length).mergeSort λa b=>decide (a.1<=b.1)
theorem qt(p:Int)(cs:List au)(wd:Wo):(aG p cs wd).Perm (cI p cs wd cs.length):=nB _ _
theorem sL(p:Int)(cs:List au)(wd:Wo):(aG p cs wd).Pairwise λa b=>a.1<b.1:=by
 have h1:(aG p cs wd).Pairwise λa b=>decide (a.1<=b.1)=true:=EB (λa b c h1 h2=>by simp at h1 h2⊢;omega) (λa b=>by simp;omega) _;have h2:((aG p cs wd).map (·.1)).Nodup:=((qt p cs wd).map _).nodup_iff.mpr (mV _);have h3:(aG p cs wd).Pairwise λa b=>a.1≠b.1:=nN.mp h2;exact(h1.and h3).imp λ⟨a,b⟩=>by simp at a;omega
theorem tX:∀{a b:List aZ},(a.Pairwise λx y=>x.1<y.1)->(b.Pairwise λx y=>x.1<y.1)->a.Perm b->a=b
  |[],b,_,_,h=>by rw[List.nil_perm.mp h]
  |x::a,[],_,_,h=>by cases List.perm_nil.mp h
  | x :: a, y :: b, h1, h2, h => by
    obtain⟨S,C⟩:=xq.mp h1;obtain⟨W,y2⟩:=xq.mp h2;have e:x=y:=by
      rcases aO.mp (h.mem_iff.mp (cQ ..)) with e|e
      · exact e
      rcases aO.mp (h.symm.mem_iff.mp (cQ ..)) with e'|e'
      · exact e'.symm
      have:=W x e;have:=S y e';omega
    subst e;rw[tX C y2 h.cons_inv]
theorem PJ(h:ms.Perm (cI p cs wd cs.length))(O:(ms.map (·.1)).Pairwise (· <= ·)):ms=aG p cs wd:=by
 refine tX ?_ (sL p cs wd) (h.trans (qt p cs wd).symm);have h2:(ms.map (·.1)).Nodup:=(h.map _).nodup_iff.mpr (mV _);exact((nN.mp O).and (nN.mp h2)).imp λ⟨a,b⟩=>∅
theorem sZ{m:aZ}(h:m∈aG p cs wd):0<=m.2.1/\m.2.1<cs.length/\bK p (cs.getD m.2.1.toNat []) 0 wd=some (m.1,m.2.2)/\∀c:Nat,(c:Int)<m.2.1->∀x,bK p (cs.getD c []) 0 wd≠some (m.1,x):=se ((qt p cs wd).mem_iff.mp h)
theorem CQ{c:Nat}{a x:Int}(hc:c<cs.length)(h:bK p (cs.getD c []) 0 wd=some (a,x)):∃m∈aG p cs wd,m.1=a:=by
 have:=E9 h hc;obtain⟨m,hm,e⟩:=cF.mp this;exact⟨m,(qt p cs wd).mem_iff.mpr hm,e⟩
theorem UO(h:aG p cs wd=[]):outs p cs wd=[]:=by
 unfold outs;rw[List.filter_eq_nil_iff];intro c hc hs;obtain⟨⟨a,x⟩,e⟩:=xM.mp hs;obtain⟨m,hm,_⟩:=CQ (dM.mp hc) e;rw[h] at hm;cases hm
theorem Nr{a x:Int}(h:bK p prs 0 wd=some (a,x))(ha:∀m∈ms,m.1.toNat≠a.toNat)(hl:∀m∈ms,wd[m.1.toNat]?=some none)(h0:∀pr∈prs,0<=pr.1):bK p prs 0 (rn wd ms)=some (a,x):=by
  have keep:∀{ms:List aZ} {wd:Wo} {k:Nat},(∀m∈ms,m.1.toNat≠k)->(rn wd ms)[k]?=wd[k]?:=λ{ms}=>by
    induction ms with
    |nil=>intro wd k _;rfl
    | cons m r ih =>
      intro wd k hk;show(rn (wd.set m.1.toNat (some m.2.2)) r)[k]?=_;rw[ih λM hm'=>hk M (cB _ hm'),br (hk m (cQ ..))]
  obtain⟨pr,e1,e2,e3⟩:=CT h;have same:∀q∈prs,(rn wd ms)[q.1.toNat]?=wd[q.1.toNat]?:=λq hq=>keep λm hm z=>by
    have b:q∈c7 wd prs:=by
      unfold c7;exact dQ.mpr ⟨hq,by rw[<-z,hl m hm];rfl⟩
    rw[e1,aJ] at b;exact ha m hm (by rw[z,b,e2])
  have e4:c7 (rn wd ms) prs=c7 wd prs:=by
    unfold c7;exact i4 λq hq=>by rw[same q hq]
  have e5:bH prs (rn wd ms)=bH prs wd:=by
    unfold bH
    congr 1
    exact pR λq hq=>by unfold iW;rw[same q hq]
  unfold bK at h⊢;rw[e4,e5];exact h
theorem uq(wd:Wo)(a b:List aZ):rn wd (a++b)=rn (rn wd a) b:=by unfold rn;rw[i1]
theorem lD.cat{a b:List aZ}(h1:lD p cs wd a)(h2:lD p cs (rn wd a) b):lD p cs wd (a++b):=λj hj=>by
 by_cases h:j<a.length
 .obtain⟨m,e1,e2⟩:=h1 j h;refine⟨m,by rw[eO h];exact e1,?_⟩;rw[List.take_append_of_le_length ∅];exact e2
 .rw[fq] at hj;obtain⟨m,e1,e2⟩:=h2 (j-a.length) ∅;refine⟨m,by rw[eE ∅];exact e1,?_⟩;rw[List.take_append,sC ∅,uq];exact e2
theorem nX(hp:0<p){m:aZ}(h:m∈aG p cs wd)(h0:∀prs∈cs,∀pr∈prs,0<=pr.1/\pr.1<wd.length):0<=m.1/\m.1<wd.length/\wd[m.1.toNat]?=some none/\0<=m.2.2/\m.2.2<p:=by
 obtain⟨a1,a2,n,_⟩:=sZ h;obtain⟨pr,b1,b2,b3,b4,b5⟩:=zE hp n;have hc:m.2.1.toNat<cs.length:=∅
 rw[bq,aA hc] at b1;have:=h0 _ (dP hc) pr b1;rw[b2] at this;exact⟨this.1,this.2,b3,b4,b5⟩
theorem Hy(hp:0<p)(h0:∀prs∈cs,∀pr∈prs,0<=pr.1/\pr.1<wd.length):lD p cs wd (aG p cs wd):=λj hj=>by
 refine⟨_,aA hj,?_⟩;have hm:(aG p cs wd)[j]∈aG p cs wd:=dP hj;obtain⟨a1,a2,n,_⟩:=sZ hm;obtain⟨b1,b2,b3,b4,b5⟩:=nX hp hm h0;have L:∀m∈(aG p cs wd).take j,m∈aG p cs wd/\m.1.toNat≠(aG p cs wd)[j].1.toNat:=λm h=>by
  have hm':=yr h;refine⟨hm',λz=>?_⟩;obtain⟨c1,_⟩:=nX hp hm' h0;have B:m.1<(aG p cs wd)[j].1:=by
   obtain⟨i,hi,e⟩:=List.mem_take_iff_getElem.mp h;rw[<-e];exact vF.mp (sL p cs wd) i j ∅ hj ∅
  omega
 have hc:(aG p cs wd)[j].2.1.toNat<cs.length:=∅
 have a:∀pr∈cs.getD (aG p cs wd)[j].2.1.toNat [],0<=pr.1:=λpr h=>by
  rw[bq,aA hc] at h;exact(h0 _ (dP hc) pr h).1
 have:=Nr n (λm h=>(L m h).2) (λm h=>(nX hp (L m h).1 h0).2.2.1) a;exact Mt a1 a2 this
noncomputable def iN(p:Int)(cs:List au):Nat->Wo->List (List aZ)
 |0,_=>[]
 |k+1,wd=>if aG p cs wd=[] then[] else aG p cs wd::iN p cs k (rn wd (aG p cs wd))
theorem uf(hp:0<p)(h0:∀prs∈cs,∀pr∈prs,0<=pr.1/\pr.1<wd.length):cnt (rn wd (aG p cs wd))+(aG p cs wd).length=cnt wd:=by
 have:=El hp (Hy hp h0) (aG p cs wd).length (bh _);rwa[j3] at this
theorem C1{p:Int}{cs:List au}(hp:0<p):∀{k:Nat} {wd:Wo},(∀prs∈cs,∀pr∈prs,0<=pr.1/\pr.1<wd.length)->cnt wd<=k->iN p cs (k+1) wd=iN p cs k wd
  | 0, wd, h0, h => by
    have e:aG p cs wd=[]:=by
      cases e:aG p cs wd with
      |nil=>rfl
      | cons m r =>
        have:=uf hp h0;rw[e] at this;simp at this;omega
    unfold iN;rw[if_pos e];all_goals rfl
  | k + 1, wd, h0, h => by
    rw[iN]
    conv=>rhs;rw[iN]
    by_cases e:aG p cs wd=[];· rw[if_pos e,if_pos e]
    · rw[if_neg e,if_neg e]
      congr 1
      have:=uf hp h0;have hl:0<(aG p cs wd).length:=uO.mpr e;exact C1 hp (λprs hp pr hr=>by rw[kO];exact h0 prs hp pr hr) ∅
noncomputable def dm(p:Int)(cs:List au)(wd:Wo):List (List aZ):=iN p cs (cnt wd) wd
theorem TN(hp:0<p){wd:Wo}(h0:∀prs∈cs,∀pr∈prs,0<=pr.1/\pr.1<wd.length):∀{k:Nat},cnt wd<=k->iN p cs k wd=dm p cs wd:=λ{k} h=>by
 obtain⟨j,rfl⟩:∃j,k=cnt wd+j:=⟨k-cnt wd,∅⟩;clear h;induction j with
 |zero=>rfl
 |succ j ih=>rw[<-Nat.add_assoc,C1 hp h0 ∅,ih]
theorem oR(h:aG p cs wd=[]):dm p cs wd=[]:=by
 unfold dm;cases cnt wd with
 |zero=>rfl
 |succ k=>rw[iN,if_pos h]
theorem mE(hp:0<p)(h0:∀prs∈cs,∀pr∈prs,0<=pr.1/\pr.1<wd.length)(h:aG p cs wd≠[]):dm p cs wd=aG p cs wd::dm p cs (rn wd (aG p cs wd)):=by
 have hc:=uf hp h0;have hl:0<(aG p cs wd).length:=uO.mpr h;obtain⟨k,hk⟩:∃k,cnt wd=k+1:=⟨cnt wd-1,∅⟩;have e:dm p cs wd=iN p cs (k+1) wd:=by unfold dm;rw[hk]
 rw[e,iN,if_neg h,TN hp (λprs hp pr hr=>by rw[kO];exact h0 prs hp pr hr) ∅]
theorem Ja{p:Int}{cs:List au}(hp:0<p):∀{k:Nat} {wd:Wo},(∀prs∈cs,∀pr∈prs,0<=pr.1/\pr.1<wd.length)->cnt wd<=k->lD p cs wd (dm p cs wd).flatten/\aG p cs (rn wd (dm p cs wd).flatten)=[]/\∀r∈dm p cs wd,r≠[]
  | k, wd, h0, hk => by
    by_cases e:aG p cs wd=[]
    · rw[oR e]
      exact⟨λj hj=>by simp at hj,e,λr hr=>by cases hr⟩
    · have hl:0<(aG p cs wd).length:=uO.mpr e
      have hc:=uf hp h0;rw[mE hp h0 e];obtain⟨k,rfl⟩:∃k',k=k'+1:=⟨k-1,∅⟩;obtain⟨o,u,a⟩:=Ja hp (k:=k) (wd:=rn wd (aG p cs wd)) (λprs hp pr hr=>by rw[kO];exact h0 prs hp pr hr) ∅;refine⟨(Hy hp h0).cat o,?_,λr hr=>?_⟩
      · show aG p cs (rn wd (aG p cs wd++_))=[]
        rw[uq];exact u
      · rcases aO.mp hr with z|z
        · rw[z];exact e
        · exact a r z
noncomputable def gw(p:Int)(cs:List au)(wd:Wo):Wo:=rn wd (dm p cs wd).flatten
theorem QL(hp:0<p)(h0:∀prs∈cs,∀pr∈prs,0<=pr.1/\pr.1<wd.length):lD p cs wd (dm p cs wd).flatten/\aG p cs (gw p cs wd)=[]/\(∀r∈dm p cs wd,r≠[])/\outs p cs (gw p cs wd)=[]/\(gw p cs wd).length=wd.length:=by
 obtain⟨h1,h2,h3⟩:=Ja hp h0 (bh _);exact⟨h1,h2,h3,UO h2,kO⟩
theorem tD(h:aG p cs wd=[]):gw p cs wd=wd:=by unfold gw;rw[oR h];rfl
theorem Aw(hp:0<p)(h0:∀prs∈cs,∀pr∈prs,0<=pr.1/\pr.1<wd.length)(h:aG p cs wd≠[]):gw p cs wd=gw p cs (rn wd (aG p cs wd)):=by
 unfold gw;rw[mE hp h0 h];exact uq _ _ _
noncomputable abbrev dg(r:List aZ):PyData:= .list (r.map j7)
noncomputable def fX(nd:PyData)(l:aw)(wd:Wo):Fs:=[("net", .d nd),("letters", .cu (eT l (wd.map gx)))]
noncomputable abbrev kM(m:aZ):Int×PyData:=(m.1,j7 m)
theorem zp(ms:List aZ):(ms.map kM).map (·.1)=ms.map (·.1):=by rw[jl];rfl
theorem GD:∀{ms:List aZ} {m:aZ},(ms.map (·.1)).Nodup->m∈ms->dh (ms.map kM) m.1=some (j7 m)
  | x :: r, m, nd, h => by
    rw[bu,nj];rw[bu,eW] at nd;rcases aO.mp h with e|e
    · subst e;rw[if_pos rfl]
    · rw[if_neg (λz=>nd.1 (by rw[show x.1=m.1 from z];exact rZ e)),GD nd.2 e]
theorem Gg(hp:0<p)(h0:∀prs∈cs,∀pr∈prs,0<=pr.1/\pr.1<wd.length):∀{i},i<=cs.length->(cI p cs wd i).length<=wd.length:=λ{i} hi=>by
 have nd:=mV (p:=p) (cs:=cs) (wd:=wd) i;have:=MH (m:=wd.length) nd λk hk=>by
  obtain⟨m,hm,e⟩:=cF.mp hk;obtain⟨a1,a2,n,_⟩:=se hm;obtain⟨pr,b1,b2,_⟩:=zE hp n;have hc:m.2.1.toNat<cs.length:=∅
  rw[bq,aA hc] at b1;have:=h0 _ (dP hc) pr b1;omega
 rw[ao] at this;omega
theorem gc.rg(h:gc p cs m):∀prs∈cs,∀pr∈prs,0<=pr.1/\pr.1<m:=λprs hp pr hr=>⟨((h.2.2.2 prs hp).2.1 pr hr).1,((h.2.2.2 prs hp).2.1 pr hr).2.1⟩
theorem L5(hN:gc p cs wd.length)(hW:iU wd):iU (rn wd (aG p cs wd)):=by
  have key:∀{ms:List aZ} {wd:Wo},iU wd->(∀m∈ms,Sm m.2.2)->iU (rn wd ms):=λ{ms}=>by
    induction ms with
    |nil=>intro wd h _;exact h
    | cons m r ih =>
      intro wd h hm;refine ih (wd:=wd.set m.1.toNat (some m.2.2)) (λx hx=>?_) λM h'=>hm M (cB _ h');rcases EE hx with z|z
      · exact h x z
      · cases z;exact hm m (cQ ..)
  have p2:=hN.1.1;have ir:=hN.2.1;refine key hW λm hm=>?_;obtain⟨_,_,_,b4,b5⟩:=nX ∅ hm hN.rg;unfold Sm;omega
theorem MM(wd:Wo):eK (wd.map gx)=true:=by
 unfold eK;rw[qu];intro x hx;obtain⟨o,_,rfl⟩:=cF.mp hx;cases o<;>rfl
theorem HM(nd:PyData)(l:aw)(wd GC:Wo):dI "letters" (.cu (eT l (GC.map gx))) (fX nd l wd)=fX nd l GC:=by
 unfold fX dI;rw[if_neg (by decide+kernel)];unfold dI;rw[if_pos rfl]
theorem FP{p:Int}{cs:List au}:∀{k:Nat} {wd:Wo},(iN p cs k wd).length<=k
  |0,wd=>by simp[iN]
  | k + 1, wd => by
    rw[iN];split;· simp
    · simp[FP]
theorem RB:(dm p cs wd).length<=wd.length:=dZ FP (Sy wd)
theorem GI(ms:List aZ):cK (dg ms)=true:=Lm ms
theorem E7(ms:List aZ):eA (dg ms) (.list [])=decide (ms=[]):=by
 have:=QU ms;rw[zz] at this;exact this
noncomputable def gW(w:List Int)(i:Nat):Int:=w.getD i 0
theorem Lg{w:List Int}(h:pr.1.toNat<w.length):iW (w.map some) pr=pr.2*gW w pr.1.toNat:=by
 unfold gW;rw[bq,aA h];exact DR (aA h)
theorem qd{w:List Int}:∀{prs:au},(∀pr∈prs,pr.1.toNat<w.length)->bH prs (w.map some)=(prs.map λpr=>pr.2*gW w pr.1.toNat).sum
  |[],_=>rfl
  | pr :: r, h => by
    rw[xQ,Lg (h pr (cQ ..)),qd λq hq=>h q (cB _ hq),bu,jk]
theorem OJ{w:List Int}(h:i<w.length):w[i]?=some (gW w i):=by
 unfold gW;rw[bq,aA h];rfl
inductive Oi where
 |own (b:aw)|dat (x:PyData)
inductive OO where
 |lst (xs:List Oi)|tup (xs:List Oi)|bF (ks:List (Int×Oi))
noncomputable abbrev N8:=List (aw×OO)
def UX:TS:=λ_ _ _=>False
theorem Lq{st:eo}:PS X st UX:=λ_ _ _ _ _ _ h=>h.elim
end L2
namespace L2
open PySem PySem.Spec PyProof.Rows PySem.W
noncomputable def jL(c d:fE):Bool:=if c.1=d.1 then jE c.2 d.2 else decide (c.1<d.1)
noncomputable def rV(M N:Int)(c:fE):Int:=encP N (c.1,encP M c.2)
theorem ME(cs:List fE):∃M N:Int,∀c∈cs,∀d∈cs,jL c d=decide (rV M N c<rV M N d):=by
 obtain⟨M,I,J⟩:=u6 (cs.map (·.2));obtain⟨N,a,hN⟩:=u6 (cs.map λc=>(c.1,encP M c.2));refine⟨M,N,λc hc d hd=>?_⟩;have h1:=vI (M:=N) a (hN _ (rZ (f:=λc:fE=>(c.1,encP M c.2)) hc)) (hN _ (rZ (f:=λc:fE=>(c.1,encP M c.2)) hd));have h2:=vI (M:=M) I (J _ (rZ (f:=λc:fE=>c.2) hc)) (J _ (rZ (f:=λc:fE=>c.2) hd));unfold rV;rw[<-h1];unfold jL;rw[h2]
 rfl
def B8(h:dc)(v:ae):Prop:=∃a o i j k t u u2 m,v= .ref a/\h.get? a=some o/\o.cls= .type "tuple" /\o.data= .seq #[.int i t, .int j u, .int k u2] m
theorem Ng{Q:SortKind->ax->Prop}(hp:∀v∈vs,B8 s.heap v)(R:0<vs.length)(h:Q (lW true) s):wpAny M A (keyKind' vs.toArray) Q E s:=by
  obtain⟨fs,hf,hl,hT⟩:∃fs:List ae,KatTups s.heap vs fs/\fs.length=vs.length/\∀v∈fs,∃i t,v= .int i t:=by
    clear R h;induction vs with
    |nil=>exact⟨[], .nil,rfl,λ_ h=>nomatch h⟩
    | cons v r ih =>
      obtain⟨fs,h1,h2,h3⟩:=ih λx hx=>hp x (cB _ hx);obtain⟨a,o,i,j,k,t,u,u2,m,rfl,g1,g2,U⟩:=hp v (cQ ..);refine⟨.int i t::fs, .cons g1 g2 U rfl h1,by simp[h2],λx hx=>?_⟩;rcases aO.mp hx with e|hx
      · exact⟨i,t,e⟩
      · exact h3 x hx
  refine kat_kind (T:= .type "int") hf ∅ (λv hv=>?_) ⋯ h;obtain⟨i,t,rfl⟩:=hT v hv;exact n7 rfl
def lU(h:dc)(c:fE)(v:ae):Prop:=∃a o t u u2 m,v= .ref a/\h.get? a=some o/\o.cls= .type "tuple" /\o.data= .seq #[.int c.1 t, .int c.2.1 u, .int c.2.2 u2] m
def qJ(h:dc)(cs:List fE)(vs:List ae):Prop:=vs.length=cs.length/\∀k,k<cs.length->lU h (cs.getD k (0,0,0)) (vs.getD k .none)
theorem lU.at{c:fE}{v:ae}(x:lU h c v):B8 h v:=by
 obtain⟨a,o,t,u,u2,m,e,h1,h2,h3⟩:=x;exact⟨a,o,_,_,_,t,u,u2,m,e,h1,h2,h3⟩
theorem lU.keep{c:fE}{v:ae}(x:lU h c v)(k:∀b o,v= .ref b->h.get? b=some o->h'.get? b=some o):lU h' c v:=by
 obtain⟨a,o,t,u,u2,m,e,h1,h2,h3⟩:=x;exact⟨a,o,t,u,u2,m,e,k _ _ e h1,h2,h3⟩
theorem qJ.at{h:dc}{cs:List fE}{vs:List ae}(x:qJ h cs vs):∀v∈vs,B8 h v:=λv hv=>by
 obtain⟨k,hk,e⟩:=JW.mp hv;have:=x.2 k (by rw[<-x.1];exact hk);rw[bq (l:=vs),aA hk,e] at this;exact this.at
section
variable{prog:bc}{w:bw}{A:cj}{E:ae->ax->Prop}{s:ax}
theorem Ua{x y:ae}{c d:fE}{C:Bool->ax->Prop}(hx:lU s.heap c x)(hy:lU s.heap d y)(h:C (jL c d) s):wpAny (bg prog w) A (keyLt' (lW true) x y) C E s:=by
 obtain⟨a,o,t,u,u2,m,rfl,h1,h2,h3⟩:=hx;obtain⟨k,o',t',J,Vh,M,rfl,e,f,b⟩:=hy;unfold jL jE at h;refine kat_lt h1 h3 e b ?_;refine kQ (de ?_);by_cases e1:c.1=d.1
 .rw[if_pos e1] at h;rw[show(c.1==d.1)=true from beq_iff_eq.mpr e1];refine oa (kQ (de ?_));by_cases e2:c.2.1=d.2.1
  .rw[if_pos e2] at h;rw[show(c.2.1==d.2.1)=true from beq_iff_eq.mpr e2];refine oa (kQ (de ?_));by_cases e3:c.2.2=d.2.2
   .rw[show(c.2.2==d.2.2)=true from beq_iff_eq.mpr e3];refine oa (kat_nil ?_);rw[decide_eq_false ∅] at h;exact h
   .rw[show(c.2.2==d.2.2)=false from beq_eq_false_iff_ne.mpr e3];refine qv ?_;refine kat_one _ _ (lt_int ?_);exact h
  .rw[if_neg e2] at h;rw[show(c.2.1==d.2.1)=false from beq_eq_false_iff_ne.mpr e2];refine qv ?_;refine kat_one _ _ (lt_int ?_);exact h
 .rw[if_neg e1] at h;rw[show(c.1==d.1)=false from beq_eq_false_iff_ne.mpr e1];refine qv ?_;exact oneLt_int h
theorem Lz{cs:List fE}{P:Fin->ax->Prop}(ho:s.heap.get? a=some (bp "list" vs.toArray n))(hp:qJ s.heap cs vs)(q:∀v∈vs,v≠ .ref a)(g:vs.length<64)
  (h:∀(out:Array ae) (r:List Nat),r.Perm (a3 vs.length)->out.toList=r.map (λi=>vs.getD i .none)->(r.map λi=>cs.getD i (0,0,0)).Pairwise (λc d=>jL d c=false)->P (.done (.ret .none)) {s with heap:=sortedHeap s.heap a vs out}):
  wpAny (bg prog w) A (Builtin.«list.sort» ⟨[.ref a],[]⟩) P E s:=by
 rw[l4];have ha:a<s.heap.objs.size:=bz ho;refine ar (listItems_at ho rfl ?_);refine ar (ei ho rfl ?_);obtain⟨e1,H⟩:∃e1,(s.heap.update a (a9 λ_=> #[])).get? a=some (bp "list" #[] e1):=⟨_,mc ho (λ_=> #[])⟩;refine ar (eI H rfl ?_);refine ar (mx ?_);refine ar (et ?_);refine cx ?_;have f:(((s.heap.update a (a9 λ_=> #[])).push (bp "tuple" vs.toArray 0)).push (bp "list" #[] 0)).get? a=some (bp "list" #[] e1):=by
  rw[ly _ _ _ (by rw[i3,pP];exact cJ (qD ha)),ly _ _ _ (by rw[pP];exact cJ ha)];exact H
 show wpAny (bg prog w) A _ P E {s with heap:=((s.heap.update a (a9 λ_=> #[])).push (bp "tuple" vs.toArray 0)).push (bp "list" #[] 0)};dsimp only;have hsz:vs.toArray.size=vs.length:=by simp
 have D:qJ (((s.heap.update a (a9 λ_=> #[])).push (bp "tuple" vs.toArray 0)).push (bp "list" #[] 0)) cs vs:=⟨hp.1,λk hk=>by
  have hm:vs.getD k .none∈vs:=by
   have:k<vs.length:=by rw[hp.1];exact hk
   rw[bq,aA this];exact dP _
  refine(hp.2 k hk).keep λb o e g1=>dB _ (dB _ ?_);have hb:b≠a:=λz=>q _ hm (by rw[e,z]);rw[wO _ _ _ _ hb];exact g1⟩
 by_cases h2:vs.toArray.size<2
 .rw[if_pos h2,if_pos h2];refine ar (a0 ?_);rw[md];refine ar (a0 ?_);dsimp only;refine ar (eI f rfl ?_);refine ar (ei f rfl ?_ (hsz2:=by rw[my];show(pairsOf vs).size<=_;rw[pairsOf_size,ea];omega));simp only[bne_self_eq_false,kI,if_false];refine a0 (h _ (a3 vs.length) (.refl _) ?_ ?_)
  .have e:(g4 (λx=>x.2) (vs.toArray.zip vs.toArray)).toList=vs:=by
    rw[kv,ky];simp[kz]
   show(g4 (λx=>x.2) (vs.toArray.zip vs.toArray)).toList=_;rw[e];refine i6 λk=>?_;rw[bC];by_cases hk:k<vs.length;·rw[tu hk,aA hk];simp[hk]
   .rw[gK ∅,gK (by rw[gI];omega)];rfl
  .have:vs.length<2:=∅
   rcases oK vs.length 1 with z|z
   .rw[show vs.length=0 by omega];exact .nil
   .rw[show vs.length=1 by omega];show oe _ [_];exact G1 _ _
 .rw[if_neg h2,if_neg h2];refine ar (Ng D.at ∅ ?_);obtain⟨M,N,I⟩:=ME cs;have m:∀i,i<vs.length->cs.getD i (0,0,0)∈cs:=λi hi=>by
   have:i<cs.length:=by rw[<-hp.1];exact hi
   rw[bq,aA this];exact dP _
  refine ar (cX (kat_run (κ:=lW true) (vs:=vs) (ks:=vs) (s:={s with heap:=((s.heap.update a (a9 λ_=> #[])).push (bp "tuple" vs.toArray 0)).push (bp "list" #[] 0)}) (Q:=λy s'=>s'={s with heap:=((s.heap.update a (a9 λ_=> #[])).push (bp "tuple" vs.toArray 0)).push (bp "list" #[] 0)}/\failedOf y=none/\∃r:List Nat,r.Perm (a3 vs.length)/\((arrOf y).map (·.2)).toList=r.map (λi=>vs.getD i .none)/\(r.map λi=>cs.getD i (0,0,0)).Pairwise (λc d=>jL d c=false))
   (G:=λp s'=>s'={s with heap:=((s.heap.update a (a9 λ_=> #[])).push (bp "tuple" vs.toArray 0)).push (bp "list" #[] 0)}/\VP vs.length p/\So (λi=>rV M N (cs.getD i (0,0,0))) p vs.length) rfl ∅ g (λp y s' g1 g2 U ⟨t,l,u⟩=>⟨t,U,p.toList,l,?_,?_⟩) (EO (n:=vs.length) (key:=λi=>rV M N (cs.getD i (0,0,0))) ∅ (λi j C hi hj hC=>?_) λp hp O=>⟨rfl,hp,O⟩)) ?_ λ_ _ e=>e)
  .rw[kat_snds rfl g2]
  .rw[nN];have hps:=l.length_eq;rw[gI,gZ] at hps;rw[vF];intro i j hi hj hij;rw[gZ] at hi hj;have:=u i j ∅ ∅;unfold aW at this;have F:p.getD i 0=p.toList[i]:=by simp[e0,hi]
   have B:p.getD j 0=p.toList[j]:=by simp[e0,hj]
   rw[F,B] at this;dsimp only at this;have L:p.toList[i]<vs.length:=dM.mp (l.mem_iff.mp (dP _));have K:p.toList[j]<vs.length:=dM.mp (l.mem_iff.mp (dP _));rw[I _ (m _ K) _ (m _ L)];apply decide_eq_false;omega
  .rw[kat_ask_eq (vs:=vs) rfl];unfold kas_cmp;rw[og rfl,og rfl];refine Ua (D.2 i (by rw[<-hp.1];exact hi)) (D.2 j (by rw[<-hp.1];exact hj)) ?_;rw[I _ (m _ hi) _ (m _ hj)];exact hC
  rintro⟨⟨⟩,y⟩ s' ⟨rfl,hf,r,O,hs2,hs3⟩;dsimp only;refine ar (eI f rfl ?_)
  refine ar (ei f rfl ?_ (hsz2:=by
   have e:=congrArg hF hs2;rw[gZ,ao,O.length_eq,gI] at e;rw[ea];have e':(g4 (λx=>x.2) (arrOf y)).size=vs.length:=e;omega))
  rw[hf];simp only[bne_self_eq_false,kI,if_false];exact a0 (h _ r O hs2 hs3)
theorem Ri{l:aw}{cs:List fE}(hl:s.heap.IsList l vs.toArray)(hp:qJ s.heap cs vs)(g:vs.length<64)
  (h:∀(out:Array ae) (r:List Nat),r.Perm (a3 vs.length)->out.toList=r.map (λi=>vs.getD i .none)->(r.map λi=>cs.getD i (0,0,0)).Pairwise (λc d=>jL d c=false)->Q (.ref (s.heap.objs.size+1)) {s with heap:=me s.heap vs out}):
  wpAny (bg prog w) A (call (.builtin "sorted") [.ref l]) Q E s:=by
 refine BI lL jO j0 (j1 _) ?_;unfold Builtin.«sorted»;refine ar (m:=m3 "sorted" 1 1 _) (a0 ?_);refine ar (collect_list hl ?_);refine ar (et ?_);have hsz:((s.heap.push (bp "list" #[] 0)).update s.heap.objs.size (a9 (· ++vs.toArray))).objs.size=s.heap.objs.size+1:=by
  rw[pP,i3]
 have D:(((s.heap.push (bp "list" #[] 0)).update s.heap.objs.size (a9 (· ++vs.toArray))).push (bp "list" vs.toArray 0)).get? (s.heap.objs.size+1)=some (bp "list" vs.toArray 0):=by
  rw[<-hsz];exact gH _ rfl
 have keep:∀b o,s.heap.get? b=some o->(((s.heap.push (bp "list" #[] 0)).update s.heap.objs.size (a9 (· ++vs.toArray))).push (bp "list" vs.toArray 0)).get? b=some o:=λb o q=>by
  have B:b<s.heap.objs.size:=bz q;rw[ly _ _ _ (by rw[hsz];exact cJ (qD B)),wO _ _ _ _ (cJ B),ly _ _ _ (cJ B)];exact q
 show wpAny _ _ _ _ _ {s with heap:=((s.heap.push (bp "list" #[] 0)).update s.heap.objs.size (a9 (· ++vs.toArray))).push (bp "list" vs.toArray 0)};rw[hsz];refine ar (cx (fx hu ⟨_,D,rfl⟩ gL (Lz D ⟨hp.1,λk hk=>(hp.2 k hk).keep λb o _=>keep b o⟩ (λv hv z=>?_) g λout r a1 a2 n=>⟨_,rfl,?_⟩) (hB _)))
 .obtain⟨b,o,i,j,p,t,u,u2,m,rfl,g1,_⟩:=hp.at v hv;have:=bz g1;have z':b=s.heap.objs.size+1:=by cases z;rfl
  rw[z'] at this;exact absurd this (mW.mpr (kT _))
 .exact a0 ⟨_,rfl,h out r a1 a2 n⟩
end
def zA(K:PySem.W.Frag):List V->Hp->VK->Prop:=λxs H Q=>∃(p:aw) (ys:List V) (cs:List fE),xs=[.ref p]/\aS K H p ys/\ys.length=cs.length/\ys.length<64/\(∀k,k<cs.length->∃a,ys.getD k (.int 0)= .ref a/\H a=some (.tup [.int (cs.getD k (0,0,0)).1, .int (cs.getD k (0,0,0)).2.1, .int (cs.getD k (0,0,0)).2.2]))/\
 ∀r:List Nat,r.Perm (a3 ys.length)->(r.map λi=>cs.getD i (0,0,0)).Pairwise (λc d=>jL d c=false)->∀l,H l=none->Q (.ref l) (upd H l (.lst (r.map λi=>ys.getD i (.int 0))))
theorem Q4:gQ X (.builtin "sorted") (zA X.K):=by
  intro pins s σ H xs us Q I rv h;obtain⟨p,ys,cs,rfl,hp,A,g,hy,q⟩:=h;obtain⟨u,rfl,D⟩:=vals1 rv;cases D;obtain⟨its,J,f,hz⟩:=I.list hp;have hl:=J.length;refine Ri (vs:=its) (cs:=cs) f.isList ⟨∅,λk hk=>?_⟩ ∅ λout r ho ho2 E=>?_
  · have hk':k<ys.length:=∅
    obtain⟨L,c,n⟩:=J.get (i:=k) (x:=ys[k]) (aA hk');obtain⟨a,G,ha⟩:=hy k hk;rw[bq,aA hk'] at G;have G:ys[k]= .ref a:=G;rw[G] at n;rw[bq (l:=its),c];cases n;obtain⟨_,d,v,o,g1,g2,m,U⟩:=(show bS X.prog X.w H s.heap a (.tup [.int (cs.getD k (0,0,0)).1, .int (cs.getD k (0,0,0)).2.1, .int (cs.getD k (0,0,0)).2.2]) from I.hok a _ ha);cases v with
    | cons S C =>
      cases C with
      | cons W y2 =>
        cases y2 with
        | cons F z2 =>
          cases z2;obtain⟨t,rfl⟩:=S;obtain⟨j,rfl⟩:=W;obtain⟨M,rfl⟩:=F;exact⟨a,o,t,j,M,m,rfl,g1,g2,U⟩
  · rw[hl.symm] at ho
    obtain⟨e,y⟩:=sortedAll_at s.heap its out;have B:∀i∈r,i<ys.length:=λi hi=>dM.mp (ho.mem_iff.mp hi);have h1:=Be J r B;rw[<-ho2] at h1;have new:bS X.prog X.w (upd H (s.heap.objs.size+1) (.lst (r.map λi=>ys.getD i (.int 0)))) (me s.heap its out) (s.heap.objs.size+1) (.lst (r.map λi=>ys.getD i (.int 0))):=by
      refine⟨?_,out.toList,e,h1,by simpa using y⟩;rw[ao,ho.length_eq,gI];exact dZ (lH g) ⋯
    exact⟨.ref (s.heap.objs.size+1),_,I.laid (t':=s.toks) (λb o z=>oj z) (kT _) new,rfl,q r ho E _ (I.hok.fresh (kT _))⟩
theorem aC.Ux{K:PySem.W.Frag}(h:Ev G ρ te λf x=>∃cs:List fE,x= .list (cs.map iR)/\cs.length<64/\∀(cs':List fE) (g:Bool),cs'.Perm cs->cs'.Pairwise (λc d=>jL d c=false)->Θ g (cs'.map iR)):aC G ρ (eH (zA K) (aV te bI)) Θ:=λnb σ H Q W z=>
 h nb σ H _ W λf v H1 x ⟨cs,ex,hn,q⟩ s1 hv=>by
  subst ex;obtain⟨a,xs,rfl,J,hx,hd⟩:=hv.dY;have hl:=hd.length;rw[ao] at hl;refine⟨a,xs,cs,rfl, .of hx,hl,∅,λk hk=>?_,λr s hr l t=>?_⟩
  .have hk':k<xs.length:=∅
   have hm:xs.getD k (.int 0)∈xs:=by rw[bq,aA hk'];exact dP _
   have h1:=ux hd k (by rw[ao];exact hk);have e:(cs.map iR).getD k .none=iR (cs.getD k (0,0,0)):=by rw[bq,bC,bq,aA hk];rfl
   rw[e] at h1;obtain⟨b,ws,A,n,hx,hd⟩:=h1.ofT;have:ws=[V.int (cs.getD k (0,0,0)).1,V.int (cs.getD k (0,0,0)).2.1,V.int (cs.getD k (0,0,0)).2.2]:=o7 (is:=[(cs.getD k (0,0,0)).1,(cs.getD k (0,0,0)).2.1,(cs.getD k (0,0,0)).2.2]) hd;subst this;exact⟨b,A,hx⟩
  .rw[hl] at s;have B:∀i∈r,i<cs.length:=λi hi=>dM.mp (s.mem_iff.mp hi);have e:(r.map λi=>(cs.map iR).getD i .none)=(r.map λi=>cs.getD i (0,0,0)).map iR:=by
    rw[jl];apply pR;intro i hi;show(cs.map iR).getD i .none=iR (cs.getD i (0,0,0));rw[bq,bC,bq,aA (B i hi)];rfl
   have h2:=zB hd r λi hi=>by rw[ao];exact B i hi
   rw[e] at h2;exact aC.fin (f:=f) W s1 t h2 (q _ _ (DT s) hr) z
end L2
namespace L2
theorem Lf{a b:List Int}(h:a.Perm b):a.sum=b.sum:=by
 induction h with
 |nil=>rfl
 |cons x _ ih=>rw[jk,jk,ih]
 |swap x y l=>rw[jk,jk,jk,jk];omega
 |trans _ _ h1 h2=>exact h1.trans h2
theorem Ss{a b:au}{wd:List (Option Int)}(h:a.Perm b):bH a wd=bH b wd:=by unfold bH;exact Lf (h.map _)
section
variable{p n m:Int}{c1 c2 cs:List au}{u w:List Int}
theorem PL(a:yP p n cs)(hl:ws.length=n.toNat)(hw:∀x∈ws,0<=x/\x<p)(h:brk p cs ws=0):rX p cs ws n.toNat=[]:=by
  have hb:=List.countP_eq_zero.mp h;refine List.flatMap_eq_nil_iff.mpr λi hi=>?_;have hi:=dM.mp hi;unfold Fg;have b:xF (qI p cs ws (i:Int)) (ws.getD i 0)=[]:=by
    cases e:xF (qI p cs ws (i:Int)) (ws.getD i 0) with
    |nil=>rfl
    | cons x r =>
      exfalso;have hx:x∈xF (qI p cs ws (i:Int)) (ws.getD i 0):=by rw[e];exact cQ
      have IA:=dQ.mp (yr hx);have hg:=IA.2;unfold Dz at hg;rw[ez,decide_eq_true_eq] at hg;refine hg.1 ?_;have hm:=IA.1;unfold qI at hm;obtain⟨q,hq,rfl⟩:=cF.mp hm;obtain⟨c,prs,f,hc,_,_,rfl⟩:=Ou (bh _) hq;have hz:=hb prs (dz hc);have hz:bH prs (ws.map some)%p=0:=by simpa using hz
      show(ws.getD (i:Int).toNat 0-bH (cs.getD (c:Int).toNat []) (ws.map some)%p*sol p f 1)%p=_;rw[ic,ic,show cs.getD c []=prs by rw[bq,hc];rfl,hz,om,tH];have:=hw (ws.getD i 0) (by rw[bq,aA ∅];exact dP _);exact yW this.1 this.2
  rw[b];rfl
inductive Way(p:Int)(cs:List au)(n k:Nat)(ws:List Int):Prop
 |held (hb:brk p cs ws=0) (ht:rX p cs ws n=[])
 |rest (hb:brk p cs ws≠0) (ht:rX p cs ws n=[])
 |on (hb:brk p cs ws≠0) (ht:rX p cs ws n≠[])
theorem way(a:yP p n cs){ws:List Int}(hl:ws.length=n.toNat)(hw:∀x∈ws,0<=x/\x<p)(k:Nat):Way p cs n.toNat k ws:=by
 by_cases h1:brk p cs ws=0;·exact .held h1 (PL a hl hw h1)
 by_cases h2:rX p cs ws n.toNat=[];·exact .rest h1 h2
 .exact .on h1 h2
end
section
variable{X:Cx}
def BK(K:PySem.W.Frag):List V->Hp->VK->Prop:=λxs H Q=>∃p,∃ns:List Int,xs=[.ref p]/\aS K H p (ns.map V.int)/\ns≠[]/\∀M,M∈ns->(∀a∈ns,M<=a)->Q (.int M) H
theorem KP(hc:X.calm=true):gQ X (.builtin "min") (BK X.K):=by
 intro pins s σ H xs us Q I rv h;obtain⟨p,ns,rfl,hp,R,q⟩:=h;obtain⟨u,rfl,D⟩:=vals1 rv;cases D;obtain⟨its,J,f,hz⟩:=I.list hp;have hI:=D0 J;obtain⟨ys,e⟩:=hI.allInts.items;have c:ns=ys.toList.map (·.1):=by
  rw[<-hI.numsOf,<-nums_intItems,<-e]
 have hsz:0<ys.size:=by
  have h3:0<ns.length:=uO.mpr R;rw[c,ao,gZ] at h3;exact h3
 refine min_intList (I.ok.hd hc) (by rw[<-e];exact f.isList) hsz λv h' L hv kp=>?_;obtain⟨t,rfl⟩:=intItems_at hv;obtain⟨h1,h2⟩:=argBest_lt (numAt ys) (ys.size-1);refine⟨.int _,H,I.kept kp,⟨_,rfl⟩,q _ ?_ λa ha=>?_⟩;·rw[c,numAt_eq];exact getD_mem (by rw[ao,gZ];omega)
 .rw[c] at ha;obtain⟨j,hj,rfl⟩:=mem_getD ha;rw[ao,gZ] at hj;rw[<-numAt_eq];exact h2 j ∅
end
theorem Ev.Po{K:PySem.W.Frag}{Φ:Pd}(h:Ev G ρ te λ_ x=>∃ns:List Int,x= .list (ns.map .int)/\ns≠[]/\∀M,M∈ns->(∀a∈ns,M<=a)->Φ true (.int M)):Ev G ρ (eH (BK K) (aV te bI)) Φ:=λnb σ H Q W z=>
 h nb σ H _ W λf v H1 d ⟨ns,e,R,q⟩ s1 hv=>by
  subst e;obtain⟨a,xs,rfl,n,hx,hd⟩:=hv.dY;have:xs=ns.map V.int:=o7 hd;subst this;exact⟨a,ns,rfl, .of hx,R,λM m1 m2=>z true _ H1 _ (q M m1 m2) s1 (.int _)⟩
def Li(cs:List au):Prop:=cs.Pairwise λa b=>∀x y:Int,x≠y->x∈a.map (·.1)->y∈a.map (·.1)->x∈b.map (·.1)->y∈b.map (·.1)->False
structure Mb(p n:Int)(cs:List au)(ws:List Int):Prop where
 v:yP p n cs
 a:Li cs
 t:∀prs∈cs,bH prs (ws.map some)%p=0
 l:ws.length=n.toNat
 r:∀x∈ws,0<=x/\x<p
section
variable{p n:Int}{cs:List au}{ws xs O:List Int}{i:Nat}
theorem wr(h:Mb p n cs ws)(hi:i<n.toNat):0<=ws.getD i 0/\ws.getD i 0<p:=by
 have:=h.l;exact h.r _ (by rw[bq,aA ∅];exact dP _)
end
theorem MN(q:Nat->Bool)(k:Nat):(a3 (k+1)).filter q=(a3 k).filter q++if q k=true then[k] else[]:=by
 rw[List.range_succ,hY]
 congr 1
 rw[List.filter_cons,List.filter_nil]
theorem BX(f:ms.Pairwise λa b=>a.1<b.1)
  (h1:∀m∈ms,0<=m.2.1/\m.2.1<cs.length/\bK p (cs.getD m.2.1.toNat []) 0 wd=some (m.1,m.2.2)/\∀c:Nat,(c:Int)<m.2.1->∀x,bK p (cs.getD c []) 0 wd≠some (m.1,x))
  (h2:∀c:Nat,c<cs.length->∀a x,bK p (cs.getD c []) 0 wd=some (a,x)->a∈ms.map (·.1)):ms=aG p cs wd:=by
 have same:∀m M:aZ,m.1=M.1->(0<=m.2.1/\m.2.1<cs.length/\bK p (cs.getD m.2.1.toNat []) 0 wd=some (m.1,m.2.2)/\∀c:Nat,(c:Int)<m.2.1->∀x,bK p (cs.getD c []) 0 wd≠some (m.1,x))->(0<=M.2.1/\M.2.1<cs.length/\bK p (cs.getD M.2.1.toNat []) 0 wd=some (M.1,M.2.2)/\∀c:Nat,(c:Int)<M.2.1->∀x,bK p (cs.getD c []) 0 wd≠some (M.1,x))->m=M:=by
  rintro⟨a,c,x⟩ ⟨a',c',x'⟩ e ⟨q1,q2,q3,q4⟩ ⟨r1,r2,r3,r4⟩;dsimp only at*;subst e;have d:c=c':=by
   rcases An c c' with z|z|z
   .exact absurd q3 (r4 c.toNat ∅ x)
   .exact z
   .exact absurd r3 (q4 c'.toNat ∅ x')
  subst d;rw[q3] at r3;cases r3
  rfl
 refine tX f (sL p cs wd) ?_;have g:ms.Nodup:=f.imp λh z=>by rw[z] at h;omega
 have y:(aG p cs wd).Nodup:=(sL p cs wd).imp λh z=>by rw[z] at h;omega
 refine(List.perm_ext_iff_of_nodup g y).mpr λm=>⟨λhm=>?_,λhm=>?_⟩
 .have q:=h1 m hm;obtain⟨M,hm',e⟩:=CQ ∅ q.2.2.1;rw[same m M e.symm q (sZ hm')];exact hm'
 .have q:=sZ hm;obtain⟨M,hm',e⟩:=cF.mp (h2 m.2.1.toNat ∅ _ _ q.2.2.1);rw[<-same M m e (h1 M hm') q];exact hm'
noncomputable def aM(ws L:List Int):Wo:=(a3 ws.length).map λ(i:Nat)=>if(i:Int)∈L then none else some (ws.getD i 0)
section
variable{p n:Int}{d:Nat}{cs:List au}{ws L:List Int}
theorem fj:(aM ws L).length=ws.length:=by unfold aM;rw[ao,gI]
theorem jC(hi:i<ws.length):(aM ws L)[i]?=some (if(i:Int)∈L then none else some (ws.getD i 0)):=by
 unfold aM;rw[bC,tu hi]
 rfl
theorem Ow(hi:i<ws.length):(aM ws L)[i]?=some none↔(i:Int)∈L:=by
 rw[jC hi];by_cases c:(i:Int)∈L;·rw[if_pos c];exact⟨λ_=>c,λ_=>rfl⟩
 .rw[if_neg c];exact⟨(λz=>by cases z),λz=>absurd z c⟩
theorem uV:aM ws []=ws.map some:=by
 refine i6 λi=>?_;by_cases hi:i<ws.length;·rw[jC hi,if_neg (λh=>nomatch h),bC,aA hi,bq,aA hi];rfl
 .rw[gK (by rw[fj];omega),gK (by rw[ao];omega)]
theorem DU{x:Int}(h0:0<=x):(aM ws L).set x.toNat none=aM ws (L++[x]):=by
 refine i6 λi=>?_;by_cases hi:i<ws.length
 .rw[i5,jC hi,jC hi];by_cases c:x.toNat=i;·rw[if_pos c,if_pos (by rw[fj];omega),if_pos (iG _ (aJ.mpr ∅))]
  .rw[if_neg c];have:((i:Int)∈L++[x])↔(i:Int)∈L:=by
    rw[ia,aJ];exact⟨λz=>z.elim id λz=>∅, .inl⟩
   by_cases c2:(i:Int)∈L;·rw[if_pos c2,if_pos (this.mpr c2)]
   .rw[if_neg c2,if_neg (λz=>c2 (this.mp z))]
 .rw[gK (by rw[eG,fj];omega),gK (by rw[fj];omega)]
theorem QE:Agree ws (aM ws L):=λi x e=>by
 have hi:i<ws.length:=by have:=(bG.mp e).1;rw[fj] at this;exact this
 rw[jC hi] at e;by_cases c:(i:Int)∈L;·rw[if_pos c] at e;cases e
 .rw[if_neg c,bq,aA hi] at e;cases e;exact aA hi
theorem HB(h:∀pr∈prs,0<=pr.1/\pr.1<ws.length):c7 (aM ws L) prs=prs.filter λpr=>decide (pr.1∈L):=by
 unfold c7;refine i4 λpr hp=>?_;obtain⟨h0,h1⟩:=h pr hp;have hn:=Ow (ws:=ws) (L:=L) (i:=pr.1.toNat) ∅;rw[GN h0] at hn;rw[mH,beq_iff_eq,decide_eq_true_eq];exact hn
def only(cs:List au)(L:List Int)(x:Int)(c:Nat):Prop:=((cs.getD c []).filter λpr=>decide (pr.1∈L)).map (·.1)=[x]
theorem mC{c:Nat}{x:Int}(hN:gc p cs ws.length)(hr:∀x∈ws,0<=x/\x<p)(ht:∀prs∈cs,bH prs (ws.map some)%p=0)(hc:c<cs.length):(only cs L x c↔bK p (cs.getD c []) 0 (aM ws L)=some (x,ws.getD x.toNat 0))/\∀y,bK p (cs.getD c []) 0 (aM ws L)=some (x,y)->only cs L x c:=by
 obtain⟨prs,a⟩:∃prs,cs[c]?=some prs:=⟨_,aA hc⟩;have hg:cs.getD c []=prs:=by rw[bq,a];rfl
 have hm:=dz a;obtain⟨U,t,l⟩:=hN.2.2.2 prs hm;have V:∀pr∈prs,0<=pr.1/\pr.1<ws.length:=λpr h=>⟨(t pr h).1,(t pr h).2.1⟩;have key:∀y,bK p (cs.getD c []) 0 (aM ws L)=some (x,y)->only cs L x c:=λy hy=>by
  rw[hg] at hy;obtain⟨pr,e1,e2,_⟩:=CT hy;rw[HB V] at e1;unfold only;rw[hg,e1,<-e2]
  rfl
 refine⟨⟨λho=>?_,λh=>key _ h⟩,key⟩;unfold only at ho;rw[hg] at ho⊢;obtain⟨pr,e1,e2⟩:∃pr,(prs.filter λpr=>decide (pr.1∈L))=[pr]/\pr.1=x:=by
  generalize (prs.filter λpr=>decide (pr.1∈L))=r at ho
  match r,ho with
  |[pr],ho=>exact⟨pr,rfl,by simpa using ho⟩
 rw[<-HB (ws:=ws) V] at e1;have d:pr∈prs:=(xV (wd:=aM ws L) (by rw[e1];exact aJ.mpr rfl)).1;have hd:=JE (os:=ws) (wd:=aM ws L) fj QE (prs:=prs) λq hq=>by rw[fj];exact V q hq
 rw[e1] at hd;simp only[bu,lC,jk,BY,oL] at hd;have k2:pr.1.toNat<ws.length:=by have:=V pr d;omega
 have ho2:=hr _ (dP k2);have b:ws.getD pr.1.toNat 0=ws[pr.1.toNat]:=by rw[bq,aA k2];rfl
 rw[b] at hd;have hz:=ht prs hm;have es:ws[pr.1.toNat]=sol p pr.2 (0-bH prs (aM ws L)%p):=by
  refine Am hN.1 (l pr d) ho2.1 ho2.2 ?_;have d1:=kc (bH prs (aM ws L)) p;have d2:=kc (bH prs (ws.map some)) p;generalize bH prs (aM ws L)=S at*;generalize bH prs (ws.map some)=T at*;generalize ws[pr.1.toNat]=o at*;refine⟨T/p-S/p,?_⟩;rw[ku];generalize p*(T/p)=u at*;generalize p*(S/p)=v at*;omega
 unfold bK;rw[e1];show some (pr.1,_)=_;rw[<-es,<-b,e2]
theorem ON(hN:gc p cs ws.length)(hn:n=ws.length):aG p cs (ws.map some)=[]:=by
  have p2:=hN.1.1;have a:gc p cs (ws.map some).length:=by rw[ao];exact hN
  cases e:aG p cs (ws.map some) with
  |nil=>rfl
  | cons m ms =>
    have h:=nX (p:=p) (cs:=cs) (wd:=ws.map some) ∅ (m:=m) (by rw[e];exact cQ) a.rg;have h3:=h.2.2.1;rw[bC] at h3;cases z:ws[m.1.toNat]? with
    |none=>rw[z] at h3;cases h3
    |some x=>rw[z] at h3;cases h3
end
section
variable{prog:bc}{w:bw}{A:cj}{E:ae->ax->Prop}{h:dc}{g:Array kA}{d:Drawn}{t:Nat}{os:OsState}{a:aw}{o:Obj}{K:PySem.W.Frag}
 {nm q:Str} {C N:aw} {bs bm:List ae} {hdct:Bool} {sn:List Str} {sub:List ae} {ab:Bool} {col:Option Bool} {dd:Option aw} {k0 k1 k2 k3 k5:Option ae} {newId:String}
end
noncomputable def FF(cs:List Cu):List aw:=cs.flatMap (·.F)
theorem jg{cs:List Cu}:a∈FF cs↔∃c∈cs,a∈c.F:=by unfold FF;rw[qg]
def dW(ρ:Rh):List Nat->List Cu->Prop
 |[],[]=>True
 |i::is,c::cs=>ρ[i]?=some (.cu c)/\dW ρ is cs
 |_,_=>False
def fy:List Cu->List Cu->Prop
 |[],[]=>True
 |c::cs,c'::cs'=>oB c c'/\fy cs cs'
 |_,_=>False
noncomputable def fV(ρ:Rh):List Nat->List Cu->Rh
 |i::is,c::cs=>fV (ρ.set i (.cu c)) is cs
 |_,_=>ρ
structure nJ(B:Bg)(cs cs':List Cu)(H H':Hp):Prop where
 up:fy cs cs'
 new:∀a∈FF cs',a∈FF cs\/H a=none
 ap:cs'.Pairwise λc d=>∀a∈c.F,a∉d.F
 kp:∀a o,a∉FF cs->NB B a->H a=some o->H' a=some o
 aj:iP B H'
 lv:∀a∈FF cs',H' a≠none
theorem fy.len:∀{cs cs':List Cu},fy cs cs'->cs'.length=cs.length
 |[],[],_=>rfl
 |c::cs,c'::cs',h=>by rw[cH,cH,fy.len h.2]
 |[],_::_,h=>h.elim
 |_::_,[],h=>h.elim
theorem fy.at:∀{cs cs':List Cu},fy cs cs'->∀{k:Nat} {c c':Cu},cs[k]?=some c->cs'[k]?=some c'->oB c c'
 |c::cs,c'::cs',h,0,_,_,e1,e2=>by cases e1;cases e2;exact h.1
 |c::cs,c'::cs',h,k+1,_,_,e1,e2=>fy.at h.2 (by simpa using e1) (by simpa using e2)
 |[],_,_,_,_,_,e1,_=>by simp at e1
 |_::_,[],_,_,_,_,_,e2=>by simp at e2
theorem fy.sub{cs cs':List Cu}(h:fy cs cs'):∀a∈FF cs,a∈FF cs':=λa m=>by
 obtain⟨c,hc,ha⟩:=jg.mp m;obtain⟨k,hk⟩:=jr hc;have hl:=(bG.mp hk).1;have hk':=aA (l:=cs') (i:=k) (by rw[h.len];exact hl);exact jg.mpr ⟨_,dz hk',(h.at hk hk').sub a ha⟩
theorem fy.f{cs cs':List Cu}(h:fy cs cs'):∀c∈cs',c.f=false:=λc m=>by
 obtain⟨k,hk⟩:=jr m;have hl:=(bG.mp hk).1;exact(h.at (aA (by rw[<-h.len];exact hl)) hk).f
theorem dW.len{ρ:Rh}:∀{is:List Nat} {cs:List Cu},dW ρ is cs->is.length=cs.length
 |[],[],_=>rfl
 |_::is,_::cs,h=>by rw[cH,cH,dW.len h.2]
 |[],_::_,h=>h.elim
 |_::_,[],h=>h.elim
theorem dW.at{ρ:Rh}:∀{is:List Nat} {cs:List Cu},dW ρ is cs->∀{k i:Nat} {c:Cu},is[k]?=some i->cs[k]?=some c->ρ[i]?=some (.cu c)
 |_::is,_::cs,h,0,_,_,e1,e2=>by cases e1;cases e2;exact h.1
 |_::is,_::cs,h,k+1,_,_,e1,e2=>dW.at h.2 (by simpa using e1) (by simpa using e2)
 |[],_,_,_,_,_,e1,_=>by simp at e1
 |_::_,[],_,_,_,_,_,e2=>by simp at e2
theorem dW.vD:dW ρ [] []:=trivial
theorem dW.mk{is:List Nat}{c:Cu}{cs:List Cu}(h:ρ[i]?=some (.cu c))(t:dW ρ is cs):dW ρ (i::is) (c::cs):=⟨h,t⟩
theorem fy.vD:fy [] []:=trivial
theorem fy.mk{c c':Cu}{cs:List Cu}(h:oB c c')(t:fy cs cs'):fy (c::cs) (c'::cs'):=⟨h,t⟩
theorem PB{c:Cu}(h:c.f=false):∀x∈[c],x.f=false:=λx m=>by rw[aJ.mp m];exact h
theorem Fi:∀{ρ:Rh} {is:List Nat} {cs:List Cu},(fV ρ is cs).length=ρ.length
 |ρ,i::is,c::cs=>by unfold fV;rw[Fi,eG]
 |ρ,[],_=>by unfold fV;rfl
 |ρ,_::_,[]=>by unfold fV;rfl
theorem kq{j:Nat}:∀{ρ:Rh} {is:List Nat} {cs:List Cu},j∉is->(fV ρ is cs)[j]?=ρ[j]?
  | ρ, i :: is, c :: cs, h => by
    unfold fV;rw[kq λz=>h (cB _ z),br λz=>h (by rw[z];exact cQ)]
  |ρ,[],_,_=>by unfold fV;rfl
  |ρ,_::_,[],_=>by unfold fV;rfl
theorem HC:∀{ρ:Rh} {is:List Nat} {cs:List Cu},is.Nodup->is.length=cs.length->(∀i∈is,i<ρ.length)->∀{k i:Nat},is[k]?=some i->∃c,cs[k]?=some c/\(fV ρ is cs)[i]?=some (.cu c)
  | ρ, i0 :: is, c :: cs, nd, hl, hb, 0, i, e => by
    cases e;unfold fV;refine⟨c,rfl,?_⟩;rw[kq (eW.mp nd).1,cz (hb i0 cQ)]
  | ρ, i0 :: is, c :: cs, nd, hl, hb, k + 1, i, e => by
    unfold fV;exact HC (eW.mp nd).2 (by simpa using hl) (λi m=>by rw[eG];exact hb i (cB _ m)) (k:=k) (by simpa using e)
  |ρ,[],_,_,_,_,_,_,e=>by simp at e
  |ρ,_::_,[],_,hl,_,_,_,_=>by simp at hl
section
variable{G:Gx}{ρ:Rh}{nb:aw->Prop}{σ:qr}{H H':Hp}{is:List Nat}{cs cs':List Cu}
theorem Wd.setM(W:Wd G nb ρ σ H)(nd:is.Nodup)(hat:dW ρ is cs)(to:nJ G.B cs cs' H H')(h:∀c∈cs',c.P (G.S (λx=>nb x\/x∈FF cs') false) H'):Wd G (λx=>nb x\/x∈FF cs') (fV ρ is cs') σ H':=by
  have hlen:=hat.len;have hlen':=to.up.len;have slot:∀c∈cs,∃(k i:Nat),is[k]?=some i/\cs[k]?=some c/\ρ[i]?=some (.cu c):=λc m=>by
    obtain⟨k,hk⟩:=jr m;have hl:=(bG.mp hk).1;have hi:=aA (l:=is) (i:=k) ∅;exact⟨k,_,hi,hk,hat.at hi hk⟩
  have h2:∀a∈FF cs,nb a/\NB G.B a:=λa m=>by
    obtain⟨c,hc,ha⟩:=jg.mp m;obtain⟨k,i,_,_,e⟩:=slot c hc;obtain⟨X,e1,g1,g2,U⟩:=W.ok i _ e;exact g2 a ha
  have r:∀i∈is,i<ρ.length:=λi m=>by
    obtain⟨k,hk⟩:=jr m;have hl:=(bG.mp hk).1;exact(bG.mp (hat.at hk (aA (l:=cs) (i:=k) ∅))).1
  obtain⟨L,T⟩:∃L,L=(FF cs').filter λa=>(H a).isNone:=⟨_,rfl⟩;have ha:∀a∈L,H a=none:=λa m=>by
    rw[T,dQ] at m;exact tZ.mp m.2
  have Y:∀a∈FF cs',nb a\/a∈L:=λa m=>by
    rcases to.new a m with z|z
    · exact .inl (h2 a z).1
    · exact .inr (by rw[T];exact dQ.mpr ⟨m,tZ.mpr z⟩)
  have hA:∀f x,G.S (λx=>nb x\/x∈FF cs') f x->(G.S nb f x\/x∈L):=λf x z=>by
    rcases z with (z|z)|z|z|z
    · exact .inl (.inl z)
    · exact(Y x z).elim (λz=> .inl (.inl z)) .inr
    · exact .inl (.inr (.inl z))
    · exact .inl (.inr (.inr (.inl z)))
    · exact .inl (.inr (.inr (.inr z)))
  have bt:∀f,aP (G.S (λx=>nb x\/x∈FF cs') f) H H':=λf a o n q=>to.kp a o (λz=>n (.inl (.inl (h2 a z).1))) (i9 λz=>n (.inr (.inr (.inl z)))) q;have K:∀{S:aw->Prop} {d:PyData} {v:V},ah S H d v->ah (λa=>S a\/a∈L) H d v:=λ{S d v} h=>gu (P:=λS=>ah S H d v) (λz h=>ah.av z h) (λhp h=>ah.fresh hp h) ha h;have M:∀{S:aw->Prop} {d:List PyData} {v:List V},af S H d v->af (λa=>S a\/a∈L) H d v:=λ{S d v} h=>gu (P:=λS=>af S H d v) (λz h=>af.av z h) (λhp h=>af.fresh hp h) ha h;have N:∀{S:aw->Prop} {d:List (PyData×PyData)} {v:List (Key×V)},aq S H d v->aq (λa=>S a\/a∈L) H d v:=λ{S d v} h=>gu (P:=λS=>aq S H d v) (λz h=>aq.av z h) (λhp h=>aq.fresh hp h) ha h;have J:∀{S:aw->Prop} {d:HD} {v:V},dH S H d v->dH (λa=>S a\/a∈L) H d v:=λ{S d v} h=>gu (P:=λS=>dH S H d v) (λz h=>dH.av h z) (λhp h=>dH.fresh h hp) ha h;have E:∀a∈FF cs',NB G.B a:=λa m=>(to.new a m).elim (λz=>(h2 a z).2) λz=>NB.new W.aj z;have y:∀(j:Nat) s,j∉is->ρ[j]?=some s->∀a∈s.adr,a∉FF cs:=λj s hj O a m z=>by
    obtain⟨c,hc,t⟩:=jg.mp z;obtain⟨k,i,hi,_,e⟩:=slot c hc;exact W.bR i j c s (λz=>hj (z▸dz hi)) e O a t m
  have Q:∀(j:Nat) s,j∉is->ρ[j]?=some s->∀a∈s.adr,a∉FF cs':=λj s hj O a m z=>by
    rcases to.new a z with w|w
    · exact y j s hj O a m w
    · obtain⟨x,_,q⟩:=W.ok j s O
      exact W.live a (q.wZ a m).1 w
  have D:∀(j:Nat) s,j∈is->(fV ρ is cs')[j]?=some s->∃(k:Nat) (c:Cu),is[k]?=some j/\cs'[k]?=some c/\s= .cu c:=λj s m e=>by
    obtain⟨k,hk⟩:=jr m;obtain⟨c,hc,e'⟩:=HC (cs:=cs') nd ∅ r hk;rw[e'] at e;cases e
    exact⟨k,c,hk,hc,rfl⟩
  refine⟨to.aj,λa n=>?_,λa o n q=>?_,λa n q=>?_,W.gA,by rw[Fi];exact W.len,W.gB,λh m=>((J (W.dX h m)).av (hA h.1)).keep (bt h.1),λj s e'=>?_,?_,?_,?_⟩
  · rcases n with n|n
    · by_cases z:a∈FF cs
      · exact to.lv a (to.up.sub a z)
      · by_cases hN:NB G.B a
        · cases q:H a with
          |none=>exact absurd q (W.live a n)
          |some o=>rw[to.kp a o z hN q];exact gU _
        · exact NB.kL to.aj hN
    · exact to.lv a n
  · refine to.kp a o (λz=>?_) n (W.old a o n q)
    rw[W.bP a (h2 a z).1 n] at q;cases q
  · rcases n with n|n
    · exact W.bP a n q
    · rcases to.new a n with z|z
      · exact W.bP a (h2 a z).1 q
      · cases w:G.H0 a with
        |none=>rfl
        |some o=>rw[W.old a o q w] at z;cases z
  · by_cases hj:j∈is
    · obtain⟨k,c',hk,C,rfl⟩:=D j s hj e'
      have jS:=(bG.mp hk).1;have hc:=aA (l:=cs) (i:=k) ∅;obtain⟨X,e1,g1,g2,U⟩:=W.ok j _ (hat.at hk hc);have u:=to.up.at hc C;have hm:=dz C;refine⟨X,e1,by rw[g1,u.v],λa m=>⟨.inr (jg.mpr ⟨_,hm,m⟩),E a (jg.mpr ⟨_,hm,m⟩)⟩,?_⟩;rw[u.f];exact h c' hm
    · rw[kq hj] at e'
      obtain⟨x,e2,q⟩:=W.ok j s e';refine⟨x,e2,?_⟩;have ap:=y j s hj e';cases s with
      |no=>trivial
      |d f d=>obtain⟨v,e,h⟩:=q;exact⟨v,e,((K h).av (hA f)).keep (bt f)⟩
      |own a f es=>obtain⟨e,n,q,xs,hx,hd⟩:=q;exact⟨e, .inl n,q,xs,to.kp _ _ (ap a (aJ.mpr rfl)) q hx,((M hd).av (hA f)).keep (bt f)⟩
      |aj=>exact q
      |raw v=>exact q
      |bF a f es=>obtain⟨e,n,q,xs,hx,hd⟩:=q;exact⟨e, .inl n,q,xs,to.kp _ _ (ap a (aJ.mpr rfl)) q hx,((N hd).av (hA f)).keep (bt f)⟩
      | cu c2 =>
        obtain⟨e,n,q⟩:=q;refine⟨e,λa ha=>⟨.inl (n a ha).1,(n a ha).2⟩,c2.keep (.of λx o hx e=>to.kp x o ?_ ?_ e) (c2.av (hA c2.f) (gu (P:=λS=>c2.P S H) (λz h=>c2.av z h) (λhp h=>c2.fresh hp h) ha q))⟩
        · rcases hx with hx|hx
          · exact λz=>hx (.inl (.inl (h2 x z).1))
          · exact ap x hx
        · rcases hx with hx|hx
          · exact i9 λz=>hx (.inr (.inr (.inl z)))
          · exact(n x hx).2
  all_goals
    intro j k
  · intro a f as c2 g cs2 hjk q1 q2
    have hj:j∉is:=λz=>by obtain⟨_,_,_,_,z⟩:=D j _ z q1;cases z
    have hk:k∉is:=λz=>by obtain⟨_,_,_,_,z⟩:=D k _ z q2;cases z
    rw[kq hj] at q1;rw[kq hk] at q2;exact W.apart j k a f as c2 g cs2 hjk q1 q2
  · intro a f as c2 g cs2 hjk q1 q2
    have hj:j∉is:=λz=>by obtain⟨_,_,_,_,z⟩:=D j _ z q1;cases z
    have hk:k∉is:=λz=>by obtain⟨_,_,_,_,z⟩:=D k _ z q2;cases z
    rw[kq hj] at q1;rw[kq hk] at q2;exact W.dD j k a f as c2 g cs2 hjk q1 q2
  · intro c2 s hjk q1 q2 a m z
    by_cases hj:j∈is
    · obtain⟨k1,c',A,C,e⟩:=D j _ hj q1
      cases e;by_cases hk:k∈is
      · obtain⟨k2,d',b,p,rfl⟩:=D k _ hk q2
        have R:k1≠k2:=λz=>by subst z;rw[A] at b;cases b;exact hjk rfl
        have pw:=vF.mp to.ap;have l1:=bG.mp C;have l2:=bG.mp p;rcases Bb R with w|w
        · have:=pw k1 k2 l1.1 l2.1 w a (by rw[l1.2];exact m)
          rw[l2.2] at this;exact this z
        · have:=pw k2 k1 l2.1 l1.1 w a (by rw[l2.2];exact z)
          rw[l1.2] at this;exact this m
      · rw[kq hk] at q2
        exact Q k s hk q2 a z (jg.mpr ⟨_,dz C,m⟩)
    · rw[kq hj] at q1
      by_cases hk:k∈is
      · obtain⟨k2,d',b,p,rfl⟩:=D k _ hk q2
        exact Q j _ hj q1 a m (jg.mpr ⟨_,dz p,z⟩)
      · rw[kq hk] at q2
        exact W.bR j k c2 s hjk q1 q2 a m z
end
noncomputable def fW:List Bool->List V->List V->List V
 |true::r,t::ts,ds=>t::fW r ts ds
 |false::r,ts,d::ds=>d::fW r ts ds
 |_,_,_=>[]
noncomputable def dJ:List Bool->List Cu->List PyData->Rh
 |true::r,c::cs,ds=> .cu c::dJ r cs ds
 |false::r,cs,d::ds=> .d false d::dJ r cs ds
 |_,_,_=>[]
def gf:List Bool->List Cu->List PyData->Prop
 |[],[],[]=>True
 |true::r,_::cs,ds=>gf r cs ds
 |false::r,cs,_::ds=>gf r cs ds
 |_,_,_=>False
noncomputable def jK:Nat->List Bool->List Nat
 |_,[]=>[]
 |k,true::r=>k::jK (k+1) r
 |k,false::r=>jK (k+1) r
abbrev MF:=List Cu->List PyData->(List Cu->Pd)->Prop
def Cp(F:MF):Prop:=∀cs ds (Φ Ψ:List Cu->Pd),F cs ds Φ->(∀cs f d,Φ cs f d->Ψ cs f d)->F cs ds Ψ
def runM(B:Bg)(nb:aw->Prop)(cs:List Cu)(ds:List PyData)(ws:List V)(F:MF)(H:Hp)(Q:VK):Prop:=
 gE nb H/\(∀c∈cs,c.f=false/\c.P nb H/\∀a∈c.F,nb a)/\(cs.Pairwise λc d=>∀a∈c.F,a∉d.F)/\af nb H ds ws/\
 F cs ds λcs' f d=>∀v H',nJ B cs cs' H H'->(∀c∈cs',c.P (λa=>nb a\/a∈FF cs') H')->ah (λa=>nb a\/a∈FF cs'\/(f=true/\H a≠none)) H' d v->Q v H'
def rG(pat:List Bool)(F:MF):Sp:=λvs H Q _=>vs.length=pat.length+1/\∃(b l:aw) (nb:aw->Prop) (cs:List Cu) (ws:List V) (ds:List PyData),vs= .ref b::fW pat (cs.map (·.v)) ws/\gf pat cs ds/\cZ H b l/\nb b/\(∀a∈FF cs,a≠b/\a≠l)/\runM (some (b,l)) nb cs ds ws F H Q
section
variable{pat:List Bool}{F:MF}{vs:List V}{H:Hp}{Q:VK}{E:XK}
theorem OQ(h:rG pat F vs H Q E):∃(b l:aw) (nb:aw->Prop) (cs:List Cu) (ws:List V) (ds:List PyData) (Φ:List Cu->Pd),vs= .ref b::fW pat (cs.map (·.v)) ws/\gf pat cs ds/\
  (∀cs' f d v H',Φ cs' f d->nJ (some (b,l)) cs cs' H H'->(∀c∈cs',c.P (λa=>nb a\/a∈FF cs') H')->ah (λa=>nb a\/a∈FF cs'\/(f=true/\H a≠none)) H' d v->Q v H')/\(cZ H b l/\nb b/\(∀a∈FF cs,a≠b/\a≠l))/\(gE nb H/\(∀c∈cs,c.f=false/\c.P nb H/\∀a∈c.F,nb a)/\(cs.Pairwise λc d=>∀a∈c.F,a∉d.F)/\af nb H ds ws)/\F cs ds Φ:=by
 obtain⟨_,b,l,nb,cs,ws,ds,e,ht,hb,hn,hx,h1,h2,h3,h4,I⟩:=h;exact⟨b,l,nb,cs,ws,ds,_,e,ht,λcs' f d v H' q=>q v H',⟨hb,hn,hx⟩,⟨h1,h2,h3,h4⟩,I⟩
end
noncomputable def jG(B:Bg)(cs:List Cu)(H:Hp)(nb:aw->Prop):Gx:=⟨B,λa=>if a∈FF cs then none else H a,λa=>nb a/\a∉FF cs,[]⟩
noncomputable def Ju(G:Gx)(is:List Nat)(cs:List Cu)(Φ:List Cu->Pd):DE where
 nx:=λρ=>∃cs',dW ρ is cs'/\fy cs cs'/\Φ cs' true .none
 rt:=λ_ _=>False
 rw:=λnb ρ v H=>∃cs' f d,dW ρ is cs'/\fy cs cs'/\Φ cs' f d/\ah (G.S nb f) H d v
theorem uy:∀{pat:List Bool} {cs:List Cu} {ds:List PyData},gf pat cs ds->(dJ pat cs ds).length=pat.length
 |[],[],[],_=>rfl
 |true::r,c::cs,ds,h=>by unfold dJ;rw[cH,cH,uy (pat:=r) (cs:=cs) (ds:=ds) h]
 |false::r,cs,d::ds,h=>by unfold dJ;rw[cH,cH,uy (pat:=r) (cs:=cs) (ds:=ds) (by unfold gf at h;exact h)]
 |[],_::_,_,h=>h.elim
 |[],[],_::_,h=>h.elim
 |true::_,[],[],h=>h.elim
 |true::_,[],_::_,h=>h.elim
 |false::_,[],[],h=>h.elim
 |false::_,_::_,[],h=>h.elim
theorem qi{nb:aw->Prop}{H:Hp}:∀{pat:List Bool} {cs:List Cu} {ds:List PyData} {ws:List V},gf pat cs ds->af nb H ds ws->(fW pat (cs.map (·.v)) ws).length=pat.length/\∀(i:Nat) s,(dJ pat cs ds)[i]?=some s->∃v,(fW pat (cs.map (·.v)) ws)[i]?=some v/\((∃c∈cs,s= .cu c/\v=c.v)\/∃d,s= .d false d/\ah nb H d v)
  |[],[],[],ws,_,_=>⟨by unfold fW;rfl,λi s e=>by unfold dJ at e;simp at e⟩
  | true :: r, c :: cs, ds, ws, h, hd => by
    obtain⟨l,k⟩:=qi (pat:=r) (cs:=cs) (ds:=ds) (ws:=ws) h hd;simp only[bu,fW,dJ];refine⟨by rw[cH,cH,l],λi s e=>?_⟩;cases i with
    |zero=>cases e;exact⟨c.v,rfl, .inl ⟨c,cQ,rfl,rfl⟩⟩
    | succ i =>
      obtain⟨v,e1,q⟩:=k i s (by simpa using e);exact⟨v,by simpa using e1,q.imp (λ⟨c,m,q⟩=>⟨c,cB _ m,q⟩) id⟩
  | false :: r, cs, d :: ds, ws, h, hd => by
    unfold af at hd;obtain⟨y,ys,rfl,h1,h2⟩:=hd;obtain⟨l,k⟩:=qi (pat:=r) (cs:=cs) (ds:=ds) (ws:=ys) (by unfold gf at h;exact h) h2;simp only[bu,fW,dJ];refine⟨by rw[cH,cH,l],λi s e=>?_⟩;cases i with
    |zero=>cases e;exact⟨y,rfl, .inr ⟨d,rfl,h1⟩⟩
    | succ i =>
      obtain⟨v,e1,q⟩:=k i s (by simpa using e);exact⟨v,by simpa using e1,q⟩
  |[],_::_,_,_,h,_=>h.elim
  |[],[],_::_,_,h,_=>h.elim
  |true::_,[],[],_,h,_=>h.elim
  |true::_,[],_::_,_,h,_=>h.elim
  |false::_,[],[],_,h,_=>h.elim
  |false::_,_::_,[],_,h,_=>h.elim
theorem Ah:∀{pat:List Bool} {cs:List Cu} {ds:List PyData},gf pat cs ds->∀{i:Nat} {s:Sl},(dJ pat cs ds)[i]?=some s->(∃c∈cs,s= .cu c)\/∃d,s= .d false d
  |[],[],[],_,i,s,e=>by unfold dJ at e;simp at e
  | true :: r, c :: cs, ds, h, i, s, e => by
    unfold dJ at e;cases i with
    |zero=>cases e;exact .inl ⟨c,cQ,rfl⟩
    |succ i=>exact(Ah (pat:=r) (cs:=cs) (ds:=ds) h (i:=i) (by simpa using e)).imp (λ⟨c,m,q⟩=>⟨c,cB _ m,q⟩) id
  | false :: r, cs, d :: ds, h, i, s, e => by
    unfold dJ at e;cases i with
    |zero=>cases e;exact .inr ⟨d,rfl⟩
    |succ i=>exact Ah (pat:=r) (cs:=cs) (ds:=ds) (by unfold gf at h;exact h) (i:=i) (by simpa using e)
  |[],_::_,_,h,_,_,_=>h.elim
  |[],[],_::_,h,_,_,_=>h.elim
  |true::_,[],[],h,_,_,_=>h.elim
  |true::_,[],_::_,h,_,_,_=>h.elim
  |false::_,[],[],h,_,_,_=>h.elim
  |false::_,_::_,[],h,_,_,_=>h.elim
theorem pQ:∀{pat:List Bool} {cs:List Cu} {ds:List PyData},gf pat cs ds->(cs.Pairwise λc d=>∀a∈c.F,a∉d.F)->∀{i j:Nat} {c d:Cu},i<j->(dJ pat cs ds)[i]?=some (.cu c)->(dJ pat cs ds)[j]?=some (.cu d)->∀a∈c.F,a∉d.F
  |[],[],[],_,_,i,j,c,d,_,e,_=>by unfold dJ at e;simp at e
  | true :: r, c0 :: cs, ds, h, pw, i, j, c, d, hij, e1, e2 => by
    unfold dJ at e1 e2;obtain⟨k,p2⟩:=xq.mp pw;cases j with
    |zero=>omega
    | succ j =>
      have e2:(dJ r cs ds)[j]?=some (.cu d):=by simpa using e2
      cases i with
      | zero =>
        cases e1;rcases Ah (pat:=r) (cs:=cs) (ds:=ds) h e2 with ⟨c',m,z⟩|⟨_,z⟩
        · cases z;exact k _ m
        · cases z
      |succ i=>exact pQ (pat:=r) (cs:=cs) (ds:=ds) h p2 (by omega:i<j) (by simpa using e1) e2
  | false :: r, cs, d0 :: ds, h, pw, i, j, c, d, hij, e1, e2 => by
    unfold dJ at e1 e2;cases j with
    |zero=>omega
    | succ j =>
      cases i with
      |zero=>cases e1
      |succ i=>exact pQ (pat:=r) (cs:=cs) (ds:=ds) (by unfold gf at h;exact h) pw (by omega:i<j) (by simpa using e1) (by simpa using e2)
  |[],_::_,_,h,_,_,_,_,_,_,_,_=>h.elim
  |[],[],_::_,h,_,_,_,_,_,_,_,_=>h.elim
  |true::_,[],[],h,_,_,_,_,_,_,_,_=>h.elim
  |true::_,[],_::_,h,_,_,_,_,_,_,_,_=>h.elim
  |false::_,[],[],h,_,_,_,_,_,_,_,_=>h.elim
  |false::_,_::_,[],h,_,_,_,_,_,_,_,_=>h.elim
section
variable{B:Bg}{ρ:Rh}{is:List Nat}{cs:List Cu}{ds:List PyData}{ws:List V}{nb:aw->Prop}{H:Hp}{Q:VK}{Φ:List Cu->Pd}{t:TS}{N:List Str}{pat:List Bool}{b l:aw}
theorem dW.pw{G:Gx}{ay:aw->Prop}{C:qr}{H':Hp}(W:Wd G ay ρ C H'):∀{is:List Nat} {cs':List Cu},is.Nodup->dW ρ is cs'->cs'.Pairwise λc d=>∀a∈c.F,a∉d.F
  |[],[],_,_=> .nil
  | i :: is, c :: cs, nd, h => by
    obtain⟨n1,w⟩:=eW.mp nd;refine xq.mpr ⟨λd m a ha=>?_,dW.pw W w h.2⟩;obtain⟨k,hk⟩:=jr m;have hl:=(bG.mp hk).1;have hi:=aA (l:=is) (i:=k) (by rw[h.2.len];exact hl);exact W.bR i _ c _ (λz=>n1 (z▸dz hi)) h.1 (h.2.at hi hk) a ha
  |[],_::_,_,h=>h.elim
  |_::_,[],_,h=>h.elim
theorem wo{r:Rh}{C:qr}(W:Wd (jG B cs H nb) ay r C H')(nd:is.Nodup)(e:dW r is cs')(up:fy cs cs'):
  nJ B cs cs' H H'/\(∀c∈cs',c.P (λa=>nb a\/a∈FF cs') H')/\∀f a,nb a\/a∈FF cs'\/(f=true/\H a≠none)->(jG B cs H nb).S ay f a:=by
 have slot:∀c∈cs',∃i:Nat,r[i]?=some (Sl.cu c):=λc m=>by
  obtain⟨k,hk⟩:=jr m;have hl:=(bG.mp hk).1;have hi:=aA (l:=is) (i:=k) (by rw[e.len];exact hl);exact⟨_,e.at hi hk⟩
 have h2:∀a∈FF cs',ay a/\NB B a:=λa m=>by
  obtain⟨c,hc,ha⟩:=jg.mp m;obtain⟨i,F⟩:=slot c hc;obtain⟨X,e1,g1,g2,U⟩:=W.ok i _ F;exact g2 a ha
 have w:∀(f:Bool) a,nb a\/a∈FF cs'\/(f=true/\H a≠none)->(jG B cs H nb).S ay f a:=λf a z=>by
  by_cases m:a∈FF cs';·exact .inl (h2 a m).1
  have M:a∉FF cs:=λz=>m (up.sub a z);rcases z with z|z|z
  .exact .inr (.inl ⟨z,M⟩)
  .exact absurd z m
  .exact .inr (.inr (.inr ⟨z.1,by show(if a∈FF cs then none else H a)≠none;rw[if_neg M];exact z.2⟩))
 refine⟨⟨up,λa m=>?_,e.pw W nd,λa o n hN q=>?_,W.aj,λa m=>W.live a (h2 a m).1⟩,λc m=>?_,w⟩
 .have:=W.bP a (h2 a m).1 (h2 a m).2;by_cases z:a∈FF cs;·exact .inl z
  .exact .inr (by have q:(if a∈FF cs then none else H a)=none:=this;rwa[if_neg z] at q)
 .exact W.old a o hN (by show(if a∈FF cs then none else H a)=_;rw[if_neg n];exact q)
 .obtain⟨i,F⟩:=slot c m;obtain⟨X,e1,g1,g2,U⟩:=W.ok i _ F;refine c.av (λa z=>?_) U;rw[up.f c m];exact w false a (z.elim .inl λz=> .inr (.inl z))
theorem Ii(M:∀b l,B=some (b,l)->cZ H b l/\nb b/\∀a∈FF cs,a≠b/\a≠l)(hw:gE nb H/\(∀c∈cs,c.f=false/\c.P nb H/\∀a∈c.F,nb a)/\(cs.Pairwise λc d=>∀a∈c.F,a∉d.F)/\af nb H ds ws){σ:qr}(hl:σ.length=ρ.length)
    (hok:∀(i:Nat) s,ρ[i]?=some s->(s= .aj/\∃b l,B=some (b,l)/\σ[i]?=some (some (.ref b)))\/(s= .no/\∃x,σ[i]?=some x)\/(∃c∈cs,s= .cu c/\σ[i]?=some (some c.v))\/∃d v,s= .d false d/\σ[i]?=some (some v)/\ah nb H d v)
    (h:∀(i j:Nat) c d,i≠j->ρ[i]?=some (.cu c)->ρ[j]?=some (.cu d)->∀a∈c.F,a∉d.F):Wd (jG B cs H nb) (λa=>a∈FF cs) ρ σ H:=by
  obtain⟨h1,h2,h3,h4⟩:=hw;have I:∀a∈FF cs,nb a:=λa m=>by
    obtain⟨c,hc,ha⟩:=jg.mp m;exact(h2 c hc).2.2 a ha
  have E:∀a∈FF cs,NB B a:=λa m b l e=>((M b l e).2.2 a m).1;have av:∀a,(jG B cs H nb).S (λa=>a∈FF cs) false a->nb a:=λa z=>by
    rcases z with z|z|z|z
    · exact I a z
    · exact z.1
    · cases e:B with
      |none=>exact absurd (λb l q=>by rw[show(jG B cs H nb).B=B from rfl,e] at q;cases q) z
      | some bl =>
        obtain⟨b,l⟩:=bl;have:a=b:=i9 λn=>z λw y q=>by rw[show(jG B cs H nb).B=B from rfl,e] at q;cases q;exact n
        rw[this];exact(M b l e).2.1
    · cases z.1
  refine⟨λb l e=>(M b l e).1,λa z=>h1 a (I a z),λa o _ e=>?_,λa z _=>by show(if a∈FF cs then none else H a)=none;rw[if_pos z],λa z=>?_,hl,λb l e=>?_,λ_ m=>(by cases m),λi s e=>?_,?_,?_,?_⟩
  · have e:(if a∈FF cs then none else H a)=some o:=e
    by_cases z:a∈FF cs;· rw[if_pos z] at e;cases e
    · rwa[if_neg z] at e
  · show(if a∈FF cs then none else H a)≠none
    rw[if_neg z.2];exact h1 a z.1
  · obtain⟨hb,hn,hx⟩:=M b l e
    obtain⟨ns,i0,c0,st,n,g1,g2,U⟩:=hb;refine⟨ns,i0,c0,st,n,?_,?_,U⟩
    · show(if b∈FF cs then none else H b)=_
      rw[if_neg λz=>(hx b z).1 rfl];exact g1
    · show(if l∈FF cs then none else H l)=_
      rw[if_neg λz=>(hx l z).2 rfl];exact g2
  · rcases hok i s e with ⟨rfl,b,l,e1,e2⟩|⟨rfl,x,e2⟩|⟨c,m,rfl,e2⟩|⟨d,v,rfl,e2,q⟩
    · exact⟨_,e2,b,l,e1,rfl⟩
    · exact⟨x,e2,trivial⟩
    · refine⟨_,e2,rfl,λa ha=>?_,?_⟩
      · have:=jg.mpr ⟨c,m,ha⟩
        exact⟨this,E a this⟩
      · rw[(h2 c m).1]
        exact c.av av (h2 c m).2.1
    · exact⟨_,e2,v,rfl,q.av av⟩
  · intro i j a f as c g cs hij e1
    rcases hok i _ e1 with ⟨z,_⟩|⟨z,_⟩|⟨_,_,z,_⟩|⟨_,_,z,_⟩<;>cases z
  · intro i j a f as c g cs hij e1
    rcases hok i _ e1 with ⟨z,_⟩|⟨z,_⟩|⟨_,_,z,_⟩|⟨_,_,z,_⟩<;>cases z
  · intro i j c s hij e1 e2 a m
    rcases hok j _ e2 with ⟨rfl,_⟩|⟨rfl,_⟩|⟨d,_,rfl,_⟩|⟨_,_,rfl,_⟩
    · exact λz=>by cases z
    · exact λz=>by cases z
    · exact h i j c d hij e1 e2 a m
    · exact λz=>by cases z
theorem yh:∀{k:Nat} {pat:List Bool},∀i∈jK k pat,k<=i
  |_,[],_,h=>by cases h
  | k, true :: r, i, h => by
    unfold jK at h;rcases aO.mp h with z|z
    · omega
    · have:=yh (k:=k+1) (pat:=r) i z;omega
  | k, false :: r, i, h => by
    unfold jK at h;have:=yh (k:=k+1) (pat:=r) i h;omega
theorem oF:∀{k:Nat} {pat:List Bool},(jK k pat).Nodup
 |_,[]=>by unfold jK;exact .nil
 |k,true::r=>by unfold jK;exact eW.mpr ⟨λz=>by have:=yh _ z;omega,oF⟩
 |k,false::r=>by unfold jK;exact oF
theorem Sv.Sw(B:gf pat cs ds)(D:∀cs' f d v H',Φ cs' f d->nJ (some (b,l)) cs cs' H H'->(∀c∈cs',c.P (λa=>nb a\/a∈FF cs') H')->ah (λa=>nb a\/a∈FF cs'\/(f=true/\H a≠none)) H' d v->Q v H')(hb:cZ H b l/\nb b/\(∀a∈FF cs,a≠b/\a≠l))(hw:gE nb H/\(∀c∈cs,c.f=false/\c.P nb H/\∀a∈c.F,nb a)/\(cs.Pairwise λc d=>∀a∈c.F,a∉d.F)/\af nb H ds ws)
    (u:ρ= .aj::dJ pat cs ds++be (N.length-(pat.length+1)) .no) (h:Sv (jG (some (b,l)) cs H nb) ρ t (Ju (jG (some (b,l)) cs H nb) (jK 1 pat) cs Φ)):t {nx:=λ_ H'=>Q .aD H',rt:=Q} (start N (.ref b::fW pat (cs.map (·.v)) ws)) H:=by
  obtain⟨o,A⟩:=qi B hw.2.2.2;have rl:=uy B;refine h (λa=>a∈FF cs) _ H _ (Ii (λw y z=>by cases z;exact hb) hw (by rw[u];unfold start;simp[o,rl]) (λi s e=>?_) λi j c d hij e1 e2=>?_) ⟨λay r C H' ⟨c',e,up,p⟩ W=>?_,λ_ _ _ _ q _=>q.elim,λ_ _ _ _ q _=>q.elim,λ_ _ _ _ _ _ _ q _ _=>q.elim,λay r C v H' ⟨c',f,d,e,up,p,hv⟩ W=>?_⟩
  · rw[u] at e
    unfold start;cases i with
    |zero=>cases e;exact .inl ⟨rfl,b,l,rfl,rfl⟩
    | succ i =>
      simp only[jI,jn,bu,cH] at e⊢;by_cases hi:i<pat.length
      · rw[eO ∅] at e
        obtain⟨v,e1,q⟩:=A i s e;have e3:(dn some (fW pat (cs.map (·.v)) ws)++be (N.length-((fW pat (cs.map (·.v)) ws).length+1)) none)[i]?=some (some v):=by rw[eO (by rw[ao];omega),bC,e1];rfl
        rcases q with ⟨c,m,e2,e4⟩|⟨d,e2,q⟩
        · exact .inr (.inr (.inl ⟨c,m,e2,by rw[e3,e4]⟩))
        · exact .inr (.inr (.inr ⟨d,v,e2,e3,q⟩))
      · rw[eE ∅,dR] at e
        split at e
        · rename_i h'
          cases e;refine .inr (.inl ⟨rfl,none,?_⟩);rw[eE (by rw[ao];omega),dR,ao,o,if_pos ∅]
        · cases e
  · rw[u] at e1 e2
    have lo:∀{i:Nat} {c:Cu},(Sl.aj::dJ pat cs ds++be (N.length-(pat.length+1)) Sl.no)[i]?=some (.cu c)->∃k,i=k+1/\(dJ pat cs ds)[k]?=some (.cu c):=λ{i c} e=>by
      cases i with
      |zero=>cases e
      | succ i =>
        simp only[jI,jn] at e;by_cases hi:i<pat.length;· exact⟨i,rfl,by rwa[eO ∅] at e⟩
        · rw[eE ∅,dR] at e
          split at e<;>cases e
    obtain⟨k,g,g1⟩:=lo e1;obtain⟨x,E,g2⟩:=lo e2;rcases Bb hij with z|z
    · exact pQ B hw.2.2.1 (by omega:k<x) g1 g2
    · exact λa m q=>pQ B hw.2.2.1 (by omega:x<k) g2 g1 a q m
  · obtain⟨a1,a2,n⟩:=wo W oF e up
    exact D _ _ _ _ _ p a1 a2 .aD
  · obtain⟨a1,a2,n⟩:=wo W oF e up
    exact D _ _ _ _ _ p a1 a2 (hv.av (n f))
end
def gT(G:Gx)(ρ:Rh)(pat:List Bool)(tvs:List V)(ta:TA)(Θ:List PyData->Prop):Prop:=∀nb σ H (Q:List V->Hp->Prop),Wd G nb ρ σ H->(∀ds ws H',Θ ds->Step G.B H H'->af (G.S nb false) H' ds ws->Q (fW pat tvs ws) H')->ta σ H Q
section
variable{G:Gx}{ρ:Rh}{Φ:Rh->Pd}{te:TE}{t:TA}{pat:List Bool}{tvs:List V}{Θ:List PyData->Prop}{i j:Nat}{c:Cu}{is:List Nat}{cs:List Cu}{F:MF}
theorem gT.nil(h:Θ []):gT G ρ [] [] bI Θ:=λnb σ H Q W z=>z [] [] H h (.refl W.aj) .nil
theorem gT.thing(e:ρ[j]?=some (.cu c))(h:gT G ρ pat tvs t Θ):gT G ρ (true::pat) (c.v::tvs) (aV (bE j) t) Θ:=λnb σ H Q W z=>by
 obtain⟨x,e1,h1,_⟩:=W.ok j _ e;subst h1;exact⟨c.v,e1,h nb σ H _ W λds ws H1 p s q=>z ds ws H1 p s q⟩
theorem gT.data(h:Ev G ρ te λ_ d=>gT G ρ pat tvs t λds=>Θ (d::ds)):gT G ρ (false::pat) tvs (aV te t) Θ:=λnb σ H Q W z=>
 h nb σ H _ W λf v H1 d k s1 J=>k nb σ H1 _ (W.step s1) λds ws H2 p2 s2 q2=>z (d::ds) (v::ws) H2 p2 (s1.trans s2) (.cons ((J.av (bJ (λz=>by cases z) λ_ z=>z)).keep s2.cE) q2)
theorem DV{B:Bg}{f:Bool}{v:V}{Q:VK}(W1:Wd G nb ρ σ H1)(nd:is.Nodup)(hat:dW ρ is cs)(to:nJ G.B cs cs' H1 H')(Y:∀c∈cs',c.P (λa=>G.S nb false a\/a∈FF cs') H')(hd:ah (λa=>G.S nb false a\/a∈FF cs'\/(f=true/\H1 a≠none)) H' d v)(hp:Φ (fV ρ is cs') f d)
  (z:∀ay r f v H' d,Φ r f d->Wd G ay r σ H'->ah (G.S ay f) H' d v->Q v H'):Q v H':=by
 refine z _ _ f v H' d hp (W1.setM nd hat to λc m=>c.av (λa y=>?_) (Y c m)) (hd.av λa y=>?_)
 .rcases y with (y|y)|y|y|y
  .exact .inl (.inl y)
  .exact .inr y
  .exact .inl (.inr (.inl y))
  .exact .inl (.inr (.inr (.inl y)))
  .cases y.1
 .rcases y with (y|y)|y|y|y
  .exact .inl (.inl y)
  .exact .inr (.inl y)
  .exact .inl (.inr (.inl y))
  .exact .inl (.inr (.inr (.inl y)))
  .exact .inr (.inr ⟨y.1,W1.gC (f:=true) a (.inr (.inr (.inr ⟨rfl,y.2⟩)))⟩)
theorem Di(W1:Wd G nb ρ σ H1)(nd:is.Nodup)(hat:dW ρ is cs)(hf:∀c∈cs,c.f=false):(∀c∈cs,c.f=false/\c.P (G.S nb false) H1/\∀a∈c.F,G.S nb false a)/\(cs.Pairwise λc d=>∀a∈c.F,a∉d.F)/\∀a∈FF cs,nb a/\NB G.B a:=by
 have slot:∀c∈cs,∃i:Nat,ρ[i]?=some (Sl.cu c):=λc m=>by
  obtain⟨k,hk⟩:=jr m;have hl:=(bG.mp hk).1;have hi:=aA (l:=is) (i:=k) (by rw[hat.len];exact hl);exact⟨_,hat.at hi hk⟩
 refine⟨λc m=>?_,hat.pw W1 nd,λa m=>?_⟩
 .obtain⟨i,e⟩:=slot c m;obtain⟨X,e1,g1,g2,U⟩:=W1.ok i _ e;exact⟨hf c m,by rw[hf c m] at U;exact U,λa ha=> .inl (g2 a ha).1⟩
 .obtain⟨c,hc,ha⟩:=jg.mp m;obtain⟨i,e⟩:=slot c hc;obtain⟨X,e1,g1,g2,U⟩:=W1.ok i _ e;exact g2 a ha
theorem Jf{ws:List V}(h:gf pat cs ds)(hd:af nb H ds ws):(fW pat (cs.map (·.v)) ws).length=pat.length:=(qi h hd).1
theorem aQ.Sn(is:List Nat)(cs:List Cu)(hm:Cp F)(nd:is.Nodup)(e:ρ[i]?=some .aj)(hat:dW ρ is cs)(hf:∀c∈cs,c.f=false)(h:gT G ρ pat (cs.map (·.v)) t λds=>gf pat cs ds/\F cs ds λcs' f d=>Φ (fV ρ is cs') f d):aQ G ρ (gh (rG pat F) [] E0 (aV (bE i) t)) Φ:=λnb σ H Q W z=>by
 obtain⟨b,l,M,e1,B⟩:=W.rm e;refine⟨.ref b,e1,h nb σ H _ W λds ws H1 ⟨fit,p⟩ s1 J=>?_⟩;have W1:=W.step s1;obtain⟨g1,g2,U⟩:=Di W1 nd hat hf;show rG pat F ((V.ref b::_)++[]) H1 Q E0;rw[fT];refine⟨by rw[cH,Jf fit J],b,l,G.S nb false,cs,ws,ds,rfl,fit,W1.aj b l M, .inr (.inr (.inl λn=>n b l M rfl)),λa m=>?_,W1.gC,g1,g2,J,hm _ _ _ _ p λcs' f d hp v H' to Y hd=>DV (B:=some (b,l)) W1 nd hat (by rw[M];exact to) Y hd hp z⟩;obtain⟨k1,k2⟩:=U a m;refine⟨k2 b l M,λx=>?_⟩;obtain⟨_,_,_,_,_,J,q2,_⟩:=W1.gB b l M;have:=W1.bP a k1 k2;rw[x,q2] at this;cases this
end
inductive Nu where
 |lt (a b:Int)|ck (prs:au) (r:Int)
noncomputable abbrev OG:=List (Int×Nu)
structure Pc where
 wd:Wo
 wh:Int->Option PyData
structure VB(L:N8)(o o1 o2:aw)(m:Int)(ns gs:List Int):Prop where
 nd:[o,o1,o2].Nodup
 h0:L.lookup o=some (.lst [.dat (.int m), .own o1, .own o2])
 h1:L.lookup o1=some (.lst (ns.map λn=> .dat (.int n)))
 h2:L.lookup o2=some (.lst (gs.map λn=> .dat (.int n)))
variable{p n many:Int}{es:OG}
end L2
namespace L2
theorem Tv.monoB{t:TT}{Ψ Θ:Bool->Prop}(h:Tv G ρ t Ψ)(q:∀b,Ψ b->Θ b):Tv G ρ t Θ:=λnb σ H Q W z=>h nb σ H Q W λb H' p=>z b H' (q b p)
section
variable{G:Gx}{nb:aw->Prop}{ρ:Rh}{σ:qr}{H:Hp}{i:Nat}{a:aw}{f:Bool}{ds:List PyData}{E:DE}{s:TS}{te:TE}{Φ:Rh->Pd}
theorem gG{x y:Sl}{ρ:Rh}{i:Nat}(h:(ρ.set i x)[j]?=some y):(j=i/\y=x)\/(j≠i/\ρ[j]?=some y):=by
 rw[i5] at h;by_cases c:i=j
 .rw[if_pos c] at h;split at h;·exact .inl ⟨c.symm,(fF h).symm⟩
  .cases h
 .rw[if_neg c] at h;exact .inr ⟨bX c,h⟩
theorem Wd.tW(W:Wd G nb ρ σ H)(e:ρ[i]?=some (.cu (eT a ds))):Wd G nb (ρ.set i (.own a false ds)) σ H where
 aj:=W.aj
 live:=W.live
 old:=W.old
 bP:=W.bP
 gA:=W.gA
 len:=by rw[eG];exact W.len
 gB:=W.gB
 dX:=W.dX
 ok:=λj s h=>by
  rcases gG h with ⟨rfl,rfl⟩|⟨_,h⟩
  .obtain⟨x,e1,h1,h2,xs,h3,h4⟩:=W.ok j _ e;obtain⟨g1,g2⟩:=h2 a (aJ.mpr rfl);exact⟨x,e1,h1,g1,g2,xs,h3,h4⟩
  .exact W.ok j s h
 apart:=λj k b g as c g' cs l h1 h2=>by
  rcases gG h1 with ⟨rfl,e1⟩|⟨n1,k1⟩
  .rcases gG h2 with ⟨rfl,_⟩|⟨n2,k2⟩
   .exact absurd rfl l
   .cases e1;exact λz=>W.bR j k _ _ l e k2 a (aJ.mpr rfl) (by rw[z];exact aJ.mpr rfl)
  .rcases gG h2 with ⟨rfl,e2⟩|⟨n2,k2⟩
   .cases e2;exact λz=>W.bR k j _ _ (bX l) e k1 a (aJ.mpr rfl) (by rw[<-z];exact aJ.mpr rfl)
   .exact W.apart j k b g as c g' cs l k1 k2
 dD:=λj k b g as c g' cs l h1 h2=>by
  rcases gG h1 with ⟨rfl,e1⟩|⟨n1,k1⟩
  .cases e1
  .rcases gG h2 with ⟨rfl,e2⟩|⟨n2,k2⟩
   .cases e2
   .exact W.dD j k b g as c g' cs l k1 k2
 bR:=λj k c s l h1 h2 b hb=>by
  rcases gG h1 with ⟨rfl,e1⟩|⟨n1,k1⟩
  .cases e1
  .rcases gG h2 with ⟨rfl,e2⟩|⟨n2,k2⟩
   .subst e2;exact W.bR j k c _ l k1 e b hb
   .exact W.bR j k c s l k1 k2 b hb
theorem Wd.eT(W:Wd G nb ρ σ H)(e:ρ[i]?=some (.own a f ds)):Wd G nb (ρ.set i (.cu (L2.eT a ds))) σ H where
  aj:=W.aj
  live:=W.live
  old:=W.old
  bP:=W.bP
  gA:=W.gA
  len:=by rw[eG];exact W.len
  gB:=W.gB
  dX:=W.dX
  ok:=λj s h=>by
    rcases gG h with ⟨rfl,rfl⟩|⟨_,h⟩
    · obtain⟨x,e1,h1,g1,g2,xs,h3,h4⟩:=W.ok j _ e
      exact⟨x,e1,h1,λb m=>by rw[aJ.mp m];exact⟨g1,g2⟩,xs,h3,h4.av (bJ (λz=>by cases z) λ_ z=>z)⟩
    · exact W.ok j s h
  apart:=λj k b g as c g' cs l h1 h2=>by
    rcases gG h1 with ⟨rfl,e1⟩|⟨n1,k1⟩
    · cases e1
    · rcases gG h2 with ⟨rfl,e2⟩|⟨n2,k2⟩
      · cases e2
      · exact W.apart j k b g as c g' cs l k1 k2
  dD:=λj k b g as c g' cs l h1 h2=>by
    rcases gG h1 with ⟨rfl,e1⟩|⟨n1,k1⟩
    · cases e1
    · rcases gG h2 with ⟨rfl,e2⟩|⟨n2,k2⟩
      · cases e2
      · exact W.dD j k b g as c g' cs l k1 k2
  bR:=λj k c s l h1 h2 b hb=>by
    rcases gG h1 with ⟨rfl,e1⟩|⟨n1,k1⟩
    · cases e1
      have n:b=a:=aJ.mp hb;subst n;rcases gG h2 with ⟨rfl,_⟩|⟨n2,k2⟩
      · exact absurd rfl l
      · obtain⟨x,e1,EI,g1,g2,xs,h3,h4⟩:=W.ok j _ e
        cases s with
        |own c g cs=>exact λz=>W.apart j k b f ds c g cs l e k2 (aJ.mp z)
        | bF c g ks =>
          obtain⟨_,_,_,_,_,ps,hp,_⟩:=W.ok k _ k2;exact λz=>by rw[aJ.mp z,hp] at h3;cases h3
        |cu c=>exact λz=>W.bR k j c _ (bX l) k2 e b z (aJ.mpr rfl)
        |no=>exact λz=>by cases z
        |d _ _=>exact λz=>by cases z
        |aj=>exact λz=>by cases z
        |raw _=>exact λz=>by cases z
    · rcases gG h2 with ⟨rfl,e2⟩|⟨n2,k2⟩
      · subst e2
        exact W.bR j k c _ l k1 e b hb
      · exact W.bR j k c s l k1 k2 b hb
theorem Sv.tW(i:Nat)(e:ρ[i]?=some (.cu (L2.eT a ds)))(h:Sv G (ρ.set i (.own a false ds)) s E):Sv G ρ s E:=λnb σ H D W K=>h nb σ H D (W.tW e) K
theorem Sv.eT(i:Nat)(e:ρ[i]?=some (.own a f ds))(h:Sv G (ρ.set i (.cu (L2.eT a ds))) s E):Sv G ρ s E:=λnb σ H D W K=>h nb σ H D (W.eT e) K
end
section
variable{prog:bc}{w:bw}{A:cj}{E:ae->ax->Prop}{s:ax}
theorem R3:mM (.type "list_reverseiterator") "__len__"=pure none:=by rw[mf,g6];kernel_rfl
theorem Te:mM (.type "list_reverseiterator") "__length_hint__"=pure (some (.builtin "list_reverseiterator.__length_hint__")):=by rw[mf,g6];kernel_rfl
theorem LK:splitId "list_reverseiterator.__length_hint__"=some ("list_reverseiterator","__length_hint__"):=by kernel_rfl
theorem K3:isSubtype (.type "list_reverseiterator") (.type "list_reverseiterator")=pure true:=by kernel_rfl
theorem OA{r:aw}{Q:Bool->ax->Prop}(hT:s.TypeIs (.ref r) "list_reverseiterator")(h:Q false s):wpAny (bg prog w) A (eJ (.ref r)) Q E s:=by
 unfold eJ;refine ar (gN hT R3 ?_);refine dy (λc=>absurd c ⋯) (λ_=>?_);refine dy (λc=>absurd c ⋯) (λ_=>?_);refine ar (gN hT Te ?_);dsimp only;rw[LK];dsimp only;refine ar (wpAny_isInstance (b:=true) hT K3 ?_);refine dy (λc=>absurd c ⋯) (λ_=>?_);refine dy (λ_=>?_) (λc=>absurd ⋯ c);exact dy (λc=>absurd c ⋯) (λ_=>a0 h)
def BZ(items:Array ae)(acc:Array ae)(i:Nat):Prop:=acc.size=i/\∀(j:Nat) v,acc[j]?=some v->items[items.size-1-j]?=some v
theorem Ln{R:qk->ax->Prop}(D:A.handled=none){it l S:aw}{items:Array ae}(hli:l≠it)(g:S≠it)(h:l≠S)(hn:items.size<=sizeLine)(res:ae):
    ∀(k i:Nat) (s:ax) (acc:Array ae) (c:Nat),items.size-i=k->i<=items.size->s.heap.IsRevIter it l ((items.size:Int)-1-i)->s.heap.IsList l items->s.heap.get? S=some {cls:= .type "list",dict:=none,data:= .seq acc c,slots:= #[]}->BZ items acc i->
    (∀h' L a c',(∀b o,b≠S->b≠it->s.heap.get? b=some o->h'.get? b=some o)->h'.get? S=some {cls:= .type "list",dict:=none,data:= .seq a c',slots:= #[]}->BZ items a items.size->R (.ok (.ret res)) {s with heap:=h',toks:=L})->
    codeAny (bg prog w) A (.builtin "list.extend.loop" ⟨[.ref S, .ref it,res],[]⟩) R s:=by
  have W:=PySem.Walks.listRev (prog:=prog) (w:=w) (A:=A.in1) D it l hli items;intro k;induction k with
  | zero =>
    intro i s acc c hk hi hit hl hS hacc hR;have d:i=items.size:=∅
    subst d;refine eF hH ?_;rw[sF yF _];show wpAny _ A.in1 (qc (.ref it)>>=_) _ _ s;refine ar (W.done s _ _ ⟨bh _,hit,hl⟩ λh' L kk=>?_);have k2:∀b o,b≠it->s.heap.get? b=some o->h'.get? b=some o:=λb o z q=>kk b o (by simpa using z) q;exact a0 (hR h' L acc c (λb o _ f q=>k2 b o f q) (k2 _ _ g hS) hacc)
  | succ k ih =>
    intro i s acc c hk hi hit hl hS hacc hR;have B:i<items.size:=∅
    refine eF hH ?_;rw[sF yF _];show wpAny _ A.in1 (qc (.ref it)>>=_) _ _ s;refine ar (W.item i s _ _ B ⟨hi,hit,hl⟩ λv h' L hv y kk=>?_);have k2:∀b o,b≠it->s.heap.get? b=some o->h'.get? b=some o:=λb o z q=>kk b o (by simpa using z) q;have xG:=k2 S _ g hS;show wpAny _ A.in1 (updateSeq S (·.push v)>>=_) _ _ _;refine ar ?_;have e:∀b o,b≠S->h'.get? b=some o->(h'.update S (a9 (·.push v))).get? b=some o:=λb o hb q=>(sO _ _ (bX hb)).trans q;refine mi xG rfl (a0 ⟨h6 yF _,ih (i+1) _ (acc.push v) _ ∅ B ?_ ?_ (Bt _ xG rfl) ⟨by rw[ml,hacc.1],λj u q=>?_⟩ λk3 L a c' o2 h2 a2=>hR k3 L a c' (λb o c1 c2 q=>o2 b o c1 c2 (e b o c1 (k2 b o c2 q))) h2 a2⟩) (by rw[hacc.1];omega) (by show(acc.push v).size<=sizeLine+1;rw[ml,hacc.1];omega)
    · obtain⟨o,e1,e2,e3⟩:=y.2.1
      exact⟨o,e it o (bX g) e1,e2,by rw[e3]⟩
    · exact y.2.2.at λo q=>e l o h q
    · rw[Array.getElem?_push] at q
      split at q
      · rename_i hj
        cases q;have:j=i:=by rw[hj,hacc.1]
        subst this;exact hv
      · exact hacc.2 j u q
theorem Nz(D:A.handled=none){it l:aw}{items:Array ae}(f:s.heap.IsRevIter it l ((items.size:Int)-1))(hl:s.heap.IsList l items)(hli:l≠it)(hn:items.size<=sizeLine)
  (g:∀h' L a c',(∀b o,b≠it->s.heap.get? b=some o->h'.get? b=some o)->h'.get? s.heap.objs.size=some {cls:= .type "list",dict:=none,data:= .seq a c',slots:= #[]}->BZ items a items.size->Q (.ref s.heap.objs.size) {s with heap:=h',toks:=L}):
  wpAny (bg prog w) A (call (.type "list") [.ref it]) Q E s:=by
 have i0:it<s.heap.objs.size:=by obtain⟨_,q,_⟩:=f;exact bz q
 have l0:l<s.heap.objs.size:=by obtain⟨_,q,_⟩:=hl;exact bz q
 refine callType_codes (Q₁:=λobj s₁=>obj= .ref s.heap.objs.size/\s₁={s with heap:=s.heap.push {cls:= .type "list",data:= .seq #[]}}) PySem.F.called_list (PySem.F.typeCall_list_1 _) PySem.F.entry_list_init (code_list_new _ ⟨rfl,rfl⟩) λobj s₁ h₁=>?_;obtain⟨rfl,rfl⟩:=h₁;have J:(s.heap.push {cls:= .type "list",data:= .seq #[]}).get? s.heap.objs.size=some {cls:= .type "list",data:= .seq #[]}:=gH _ rfl;refine⟨⟨_,J,rfl⟩,PySem.F.args_list_init_2 _ _,?_⟩;have o1:∀b o,s.heap.get? b=some o->(s.heap.push {cls:= .type "list",data:= .seq #[]}).get? b=some o:=λb o q=>dB _ q;generalize s.heap.push {cls:= .type "list",data:= .seq #[]}=k1 at J o1;generalize N:s.heap.objs.size=S at*;show wpAny _ _ (do let old<-fD (.ref S);ot (.ref S) (λ_=> #[]);letGo old.toList.reverse;cq (.ref S) (.ref it) .none) _ _ _;refine ar ?_;unfold fD;refine ar (wpAny_seqItems J rfl (a0 ?_));show wpAny _ _ (updateSeq S (λ_=> #[])>>=λ_=>letGo (#[]:Array ae).toList.reverse>>=λ_=>cq (.ref S) (.ref it) .none) _ _ _;refine ar (mi J rfl ?_);have q2:=Bt (a9 (λ_=>(#[]:Array ae))) J rfl;have o2:∀b o,b≠S->k1.get? b=some o->(k1.update S (a9 (λ_=>(#[]:Array ae)))).get? b=some o:=λb o hb q=>(sO _ _ (bX hb)).trans q;refine ar (wpAny_letGo ?_);generalize k1.update S (a9 (λ_=>(#[]:Array ae)))=k2 at q2 o2;have ni:it≠S:=cJ i0;have d:l≠S:=cJ l0;have p:k2.IsRevIter it l ((items.size:Int)-1):=by
  obtain⟨o,e1,e2,e3⟩:=f;exact⟨o,o2 _ _ ni (o1 _ _ e1),e2,e3⟩
 have m2:k2.IsList l items:=hl.at λo q=>o2 _ _ d (o1 _ _ q);have hT:({s with heap:=k2}:ax).TypeIs (.ref it) "list_reverseiterator":=by
  obtain⟨o,e1,e2,_⟩:=p;exact⟨o,e1,e2⟩
 unfold cq;refine ar (wpAny_typeOf (T:="list_reverseiterator") hT ?_);have h1:e6 (.ref S) (.ref it)=false:=by simp[e6,bX ni]
 simp only[h1,show(dA "list_reverseiterator"==dA "list")=false by decide,show(dA "list_reverseiterator"==dA "tuple")=false by decide,nC,kI,if_false];refine ar (wpAny_pyIter_revIter (s:={s with heap:=k2}) p ?_);refine ar (cx (OA hT ?_));refine dy (λc=>absurd c ⋯) (λ_=>?_);refine a0 ⟨h6 PySem.F.plain_extend_loop _,?_⟩;refine Ln (A:=A.in1) (items:=items) (l:=l) (it:=it) D hli (bX ni) d hn .none items.size 0 {s with heap:=k2} #[] _ ∅ (iE _) (by rw[show((items.size:Int)-1-((0:Nat):Int))=(items.size:Int)-1 by omega];exact p) m2 q2 ⟨rfl,λj v q=>by simp at q⟩ λh' L a c' e i h=>?_
 exact⟨rfl,g h' L a c' (λb o c1 q=>by
  have c0:b≠S:=λz=>by subst z;exact absurd (bz q) (by rw[N];exact jJ _)
  exact e b o c0 c1 (o2 _ _ c0 (o1 _ _ q))) i h⟩
end
def CY(K:PySem.W.Frag)(tl:TE):TE:=λσ H Q=>tl σ H λx H1=>∃a xs,x= .ref a/\aS K H1 a xs/\∀S:aw,H1 S=none->Q (.ref S) (upd H1 S (.lst xs.reverse))
theorem RN{X:Cx}{K:PySem.W.Frag}{l:dk}{tl:TE}{k p2 v d:Pos}(g:X.K=K)(hc:X.calm=true)(y:Gl X "list")(n:X.mg "list"=none)(z:Gl X "reversed")(i:X.mg "reversed"=none)(hl:PE X l tl)(O:ba [l] X.env=[(false,eval l X.env)]:=by rfl)
    (hs1:ba [.Call (.Name "reversed" p2) [l] [] d] X.env=[(false,eval (.Call (.Name "reversed" p2) [l] [] d) X.env)]:=by rfl):
    PE X (.Call (.Name "list" k) [.Call (.Name "reversed" p2) [l] [] d] [] v) (CY K tl):=by
  subst g;intro pins s σ H Q I h;have ha:PA X [l] (aV tl bI):=aa hl ai (by rw[O];rfl);refine Call_ (mR I y n g9 (qw ?_ hs1 rfl));rw[hs1];refine hM ?_;refine Call_ (mR I z i boot_reversed (qw (aI (ha d pins s σ H (λvs H1=>match vs with|[x]=>∃a xs,x= .ref a/\aS X.K H1 a xs/\∀S:aw,H1 S=none->Q (.ref S) (upd H1 S (.lst xs.reverse))|_=>False) I h) λus s1 ⟨vs,H1,I1,C,J⟩=>?_) O rfl));cases C with
  |nil=>exact J.elim
  | cons r m =>
    cases m with
    |cons _ _=>exact J.elim
    |nil=>
    obtain⟨a,xs,e2,hq,q⟩:=J;subst e2;cases r;obtain⟨its,rv,p,hz⟩:=I1.list hq;have hlen:=rv.length;have hal:a<s1.heap.objs.size:=by obtain⟨_,e,_⟩:=p.isList;exact bz e
    refine call_reversed_list p.isList ?_;refine ip ?_;have f:(s1.heap.push (revObj a ((its.toArray.size:Int)-1))).IsRevIter s1.heap.objs.size a ((its.toArray.size:Int)-1):=⟨_,gH _ rfl,rfl,rfl⟩;have kp:∀b o,s1.heap.get? b=some o->(s1.heap.push (revObj a ((its.toArray.size:Int)-1))).get? b=some o:=λb o e=>dB _ e;have hsz:(s1.heap.push (revObj a ((its.toArray.size:Int)-1))).objs.size=s1.heap.objs.size+1:=sf ..;have T:(s1.heap.push (revObj a ((its.toArray.size:Int)-1))).IsList a its.toArray:=p.isList.at λo e=>kp a o e;refine Nz (s:={s1 with heap:=s1.heap.push (revObj a ((its.toArray.size:Int)-1))}) (I.ok.hd hc) f T (cJ hal) (by rw[cV,<-hlen];exact hz) λh2 L acc c k2 N hA=>?_;have N:h2.get? (s1.heap.push (revObj a ((its.toArray.size:Int)-1))).objs.size=_:=N;have kk:∀b u,s1.heap.get? b=some u->h2.get? b=some u:=λb u hb=>k2 b u (cJ (bz hb)) (kp b u hb);have A:acc.toList=its.reverse:=by
      apply i6;intro j;have h1:acc.toList.length=its.length:=by
        rw[gZ];exact hA.1.trans (cV ..)
      by_cases hj:j<its.length
      · have hj2:j<acc.toList.length:=∅
        have e1:=hA.2 j _ (by rw[<-wK];exact aA hj2);rw[JH,cV] at e1;rw[aA hj2,List.getElem?_reverse hj,e1]
      · rw[gK ∅,gK (by rw[Jy];omega)]
    have t:s1.heap.objs.size<=(s1.heap.push (revObj a ((its.toArray.size:Int)-1))).objs.size:=∅
    generalize (s1.heap.push (revObj a ((its.toArray.size:Int)-1))).objs.size=S at*;have new:bS X.prog X.w (upd H1 S (.lst xs.reverse)) h2 S (.lst xs.reverse):=by
      refine⟨by rw[Jy];exact hz,its.reverse,c,rv.reverse,?_⟩;rw[<-A,Array.toArray_toList];exact N
    exact⟨.ref S,_,I1.laid (t':=L) kk t new,rfl,q _ (I1.hok.fresh t)⟩
section
variable{G:Gx}{ρ:Rh}{te:TE}{K:PySem.W.Frag}{Θ:Bool->List PyData->Prop}{i:Nat}
theorem aC.LU{f:Bool}(e:ρ[i]?=some (.own a f ds))(h:Θ (f||eK ds.reverse) ds.reverse):aC G ρ (CY K (bE i)) Θ:=λnb σ H Q W z=>by
 obtain⟨x,e1,h1,h2,h3,xs,hx,hd⟩:=W.ok i _ e;subst h1;exact⟨.ref a,e1,a,xs,rfl, .of hx,λS N=>aC.fin (f:=f) W (.refl W.aj) N hd.rev h z⟩
end
structure iF(p:Int)(row:List Int)(ns:List Nat)(cs:List au)(ws:List Int)(wh:Nat->Nat):Prop where
 nq:gc p cs ws.length
 hr:∀x∈ws,0<=x/\x<p
 ht:∀prs∈cs,bH prs (ws.map some)%p=0
 nd:row.Nodup
 rg:∀x∈row,0<=x/\x<ws.length
 len:cs.length=ns.length
 lk:∀c j:Nat,ns[c]?=some j->j+1<row.length/\∃prs:au,cs[c]?=some prs/\(prs.map (·.1)).Nodup/\∀x∈row,x∈prs.map (·.1)↔(x=row.getD j 0\/x=row.getD (j+1) 0)
 mK:∀j:Nat,j+1<row.length->ns[wh j]?=some j/\∀c:Nat,c<wh j->ns[c]?≠some j
section
variable{p:Int}{row:List Int}{ns:List Nat}{cs:List au}{ws L:List Int}{wh:Nat->Nat}{s t:Nat}{ms:List aZ}
theorem Ul[DecidableEq α]{xs:List α}{x:α}(h:xs.Nodup):xs=[x]↔x∈xs/\∀y∈xs,y=x:=by
  refine⟨λe=>by subst e;simp,λ⟨h1,h2⟩=>?_⟩
  match xs,h,h1,h2 with
  |[a],_,_,h2=>rw[h2 a (by simp)]
  | a :: b :: r, h, _, h2 =>
    have e1:=h2 a (by simp);have e2:=h2 b (by simp);rw[e1,e2] at h;simp at h
theorem iD{k:Nat}(h:k<row.length):row[k]?=some (row.getD k 0):=by
 rw[bq,aA h];rfl
theorem iu{k:Nat}(h:k<row.length):row.getD k 0∈row:=dz (iD h)
theorem fQ(hn:row.Nodup){j k:Nat}(hj:j<row.length)(hk:k<row.length)(e:row.getD j 0=row.getD k 0):j=k:=
 (List.getElem?_inj hj hn).mp (by rw[iD hj,iD hk,e])
theorem iF.m9(h:iF p row ns cs ws wh)(T:∀y∈L,y∈row){c j:Nat}(hc:ns[c]?=some j){x:Int}:
  only cs L x c↔x∈L/\((x=row.getD j 0/\row.getD (j+1) 0∉L)\/(x=row.getD (j+1) 0/\row.getD j 0∉L)):=by
 obtain⟨hj,prs,hp,C,hm⟩:=h.lk c j hc;have hg:cs.getD c []=prs:=by rw[bq,hp];rfl
 unfold L2.only;rw[hg];have e:(prs.filter λpr=>decide (pr.1∈L)).map (·.1)=(prs.map (·.1)).filter λy=>decide (y∈L):=by
  rw[List.filter_map];rfl
 have d:∀y,y∈(prs.map (·.1)).filter (λy=>decide (y∈L))↔y∈L/\(y=row.getD j 0\/y=row.getD (j+1) 0):=λy=>by
  rw[dQ,decide_eq_true_iff];exact⟨λ⟨a,b⟩=>⟨b,(hm y (T y b)).mp a⟩,λ⟨b,a⟩=>⟨(hm y (T y b)).mpr a,b⟩⟩
 rw[e,Ul (C.filter _),d];have R:row.getD j 0≠row.getD (j+1) 0:=λz=>by have:=fQ h.nd ∅ hj z;omega
 refine⟨λ⟨⟨h1,h2⟩,h3⟩=>⟨h1,?_⟩,λ⟨h1,h2⟩=>?_⟩
 .rcases h2 with h2|h2
  .refine .inl ⟨h2,λz=>R ?_⟩;rw[h3 _ ((d _).mpr ⟨z, .inr rfl⟩),h2]
  .refine .inr ⟨h2,λz=>R ?_⟩;rw[h3 _ ((d _).mpr ⟨z, .inl rfl⟩),h2]
 .rcases h2 with ⟨h2,h4⟩|⟨h2,h4⟩
  .refine⟨⟨h1, .inl h2⟩,λy hy=>?_⟩;obtain⟨W,y2|y2⟩:=(d y).mp hy;·rw[y2,h2]
   .rw[y2] at W;exact absurd W h4
  .refine⟨⟨h1, .inr h2⟩,λy hy=>?_⟩;obtain⟨W,y2|y2⟩:=(d y).mp hy;·rw[y2] at W;exact absurd W h4
   .rw[y2,h2]
noncomputable def eY(row:List Int)(s t:Nat):List Int:=((a3 row.length).filter λk=>decide (s+t<k\/k+t<s)).map λk=>row.getD k 0
theorem RS:∀y∈eY row s t,y∈row:=λy m=>by
 obtain⟨k,hk,rfl⟩:=cF.mp m;exact iu (dM.mp (dQ.mp hk).1)
theorem o9(hn:row.Nodup){k:Nat}(hk:k<row.length):row.getD k 0∈eY row s t↔(s+t<k\/k+t<s):=by
 refine⟨λm=>?_,λq=>cF.mpr ⟨k,dQ.mpr ⟨dM.mpr hk,decide_eq_true q⟩,rfl⟩⟩;obtain⟨j,hj,e⟩:=cF.mp m;obtain⟨h1,h2⟩:=dQ.mp hj;have:=fQ hn (dM.mp h1) hk e;rw[<-this];exact of_decide_eq_true h2
noncomputable def mq(row:List Int)(wh:Nat->Nat)(ws:List Int)(k l:Nat):aZ:=(row.getD k 0,((wh l:Nat):Int),ws.getD (row.getD k 0).toNat 0)
noncomputable def c9(row:List Int)(wh:Nat->Nat)(ws:List Int)(s t:Nat):List aZ:=(if t<=s then[mq row wh ws (s-t) (s-t)] else[])++(if s+t<row.length then[mq row wh ws (s+t) (s+t-1)] else[])
theorem nI{m:aZ}:m∈c9 row wh ws s t↔(t<=s/\m=mq row wh ws (s-t) (s-t))\/(s+t<row.length/\m=mq row wh ws (s+t) (s+t-1)):=by
 unfold c9;rw[ia];by_cases h1:t<=s<;>by_cases h2:s+t<row.length<;>simp[h1,h2]
theorem iF.round(h:iF p row ns cs ws wh)(O:s<row.length)(hp:∀m,m∈ms↔m∈c9 row wh ws s (t+1))(f:ms.Pairwise λa b=>a.1<b.1):ms=aG p cs (aM ws (eY row s t)):=by
 have hsub:=RS (row:=row) (s:=s) (t:=t);have g:∀{c x},only cs (eY row s t) x c->c<cs.length->bK p (cs.getD c []) 0 (aM ws (eY row s t))=some (x,ws.getD x.toNat 0):=λ{c x} ho hc=>(mC h.nq h.hr h.ht hc).1.mp ho;have lt:∀{k:Nat},k<row.length->(row.getD k 0∈eY row s t↔(s+t<k\/k+t<s)):=λhk=>o9 h.nd hk;have l:∀{j},j+1<row.length->wh j<cs.length:=λ{j} hj=>by rw[h.len];exact(bG.mp (h.mK j hj).1).1
 have i:∀{c},c<cs.length->∃j,ns[c]?=some j:=λ{c} hc=>⟨_,aA (by rw[<-h.len];exact hc)⟩;refine BX f (λm hm=>?_) λc hc a x hx=>?_
 .rcases nI.mp ((hp m).mp hm) with ⟨q1,rfl⟩|⟨q1,rfl⟩
  .have hj:s-(t+1)+1<row.length:=∅
   have hw:=h.mK _ hj;have hl:=l hj;show(0:Int)<=((wh (s-(t+1)):Nat):Int)/\((wh (s-(t+1)):Nat):Int)<_/\bK p (cs.getD ((wh (s-(t+1)):Nat):Int).toNat []) 0 _=some (row.getD (s-(t+1)) 0,ws.getD (row.getD (s-(t+1)) 0).toNat 0)/\_;refine⟨∅,∅,?_,λc hc x hx=>?_⟩
   .rw[ic];refine g ((h.m9 hsub hw.1).mpr ⟨(lt ∅).mpr ∅, .inl ⟨rfl,λz=>?_⟩⟩) hl;have:=(lt hj).mp z;omega
   .have C:c<wh (s-(t+1)):=by
     have hc:(c:Int)<((wh (s-(t+1)):Nat):Int):=hc;omega
    obtain⟨j,d⟩:=i (c:=c) ∅;have hjl:=(h.lk c j d).1;have ho:=(h.m9 hsub d).mp ((mC h.nq h.hr h.ht ∅).2 x hx);rcases ho.2 with ⟨e,_⟩|⟨e,e2⟩
    .have:=fQ h.nd ∅ ∅ e;exact hw.2 c C (by rw[d,<-this])
    .have e3:=fQ h.nd ∅ hjl e;exact e2 ((lt ∅).mpr ∅)
  .have hj:s+(t+1)-1+1<row.length:=∅
   have hw:=h.mK _ hj;have hl:=l hj;show(0:Int)<=((wh (s+(t+1)-1):Nat):Int)/\((wh (s+(t+1)-1):Nat):Int)<_/\bK p (cs.getD ((wh (s+(t+1)-1):Nat):Int).toNat []) 0 _=some (row.getD (s+(t+1)) 0,ws.getD (row.getD (s+(t+1)) 0).toNat 0)/\_;have B:s+(t+1)-1+1=s+(t+1):=∅
   refine⟨∅,∅,?_,λc hc x hx=>?_⟩
   .rw[ic];refine g ((h.m9 hsub hw.1).mpr ⟨(lt ∅).mpr ∅, .inr ⟨by rw[B],λz=>?_⟩⟩) hl;have:=(lt ∅).mp z;omega
   .have C:c<wh (s+(t+1)-1):=by
     have hc:(c:Int)<((wh (s+(t+1)-1):Nat):Int):=hc;omega
    obtain⟨j,d⟩:=i (c:=c) ∅;have hjl:=(h.lk c j d).1;have ho:=(h.m9 hsub d).mp ((mC h.nq h.hr h.ht ∅).2 x hx);rcases ho.2 with ⟨e,e2⟩|⟨e,e2⟩
    .have e3:=fQ h.nd ∅ ∅ e;exact e2 ((lt hjl).mpr ∅)
    .have e3:=fQ h.nd ∅ hjl e;exact hw.2 c C (by rw[d];congr 1;omega)
 .have ho:=(mC h.nq h.hr h.ht hc).2 x hx;obtain⟨j,d⟩:=i hc;have hjl:=(h.lk c j d).1;obtain⟨o1,o2⟩:=(h.m9 hsub d).mp ho;rcases o2 with ⟨rfl,e2⟩|⟨rfl,e2⟩
  .have k1:=(lt ∅).mp o1;have k2:¬(s+t<j+1\/j+1+t<s):=λz=>e2 ((lt hjl).mpr z);exact cF.mpr ⟨_,(hp _).mpr (nI.mpr (.inl ⟨∅,rfl⟩)),by show row.getD (s-(t+1)) 0=_;congr 1;omega⟩
  .have k1:=(lt hjl).mp o1;have k2:¬(s+t<j\/j+t<s):=λz=>e2 ((lt ∅).mpr z);exact cF.mpr ⟨_,(hp _).mpr (nI.mpr (.inr ⟨∅,rfl⟩)),by show row.getD (s+(t+1)) 0=_;congr 1;omega⟩
theorem mO{L L':List Int}(h:∀i:Nat,i<ws.length->((i:Int)∈L↔(i:Int)∈L')):aM ws L=aM ws L':=by
 apply i6;intro i;by_cases hi:i<ws.length
 .rw[jC hi,jC hi];by_cases c:(i:Int)∈L;·rw[if_pos c,if_pos ((h i hi).mp c)]
  .rw[if_neg c,if_neg λz=>c ((h i hi).mpr z)]
 .rw[gK (by rw[fj];omega),gK (by rw[fj];omega)]
theorem IJ{x:Int}(h0:0<=x)(h1:x<ws.length):(aM ws L).set x.toNat (some (ws.getD x.toNat 0))=aM ws (L.filter λy=>decide (y≠x)):=by
 apply i6;intro i;by_cases hi:i<ws.length
 .rw[jC hi];by_cases z:x.toNat=i
  .subst z;rw[cz (by rw[fj];exact hi),if_neg];rw[dQ];rintro⟨_,q⟩;exact of_decide_eq_true q ∅
  .rw[br z,jC hi];by_cases c:(i:Int)∈L;·rw[if_pos c,if_pos (dQ.mpr ⟨c,decide_eq_true ∅⟩)]
   .rw[if_neg c,if_neg λq=>c (dQ.mp q).1]
 .rw[gK (by rw[eG,fj];omega),gK (by rw[fj];omega)]
theorem JK:∀{ms:List aZ} {L:List Int},(∀m∈ms,0<=m.1/\m.1<ws.length/\m.2.2=ws.getD m.1.toNat 0)->rn (aM ws L) ms=aM ws (L.filter λy=>decide (y∉ms.map (·.1)))
  | [], L, _ => by
    show aM ws L=_;refine mO λi _=>?_;simp
  | m :: ms, L, h => by
    obtain⟨h0,h1,h2⟩:=h m cQ;show rn ((aM ws L).set m.1.toNat (some m.2.2)) ms=_;rw[h2,IJ h0 h1,JK λM q=>h M (cB _ q)];refine mO λi _=>?_;simp only[dQ,bu,aO,decide_eq_true_eq,not_or];exact⟨λ⟨⟨a,b⟩,c⟩=>⟨a,b,c⟩,λ⟨a,b,c⟩=>⟨⟨a,b⟩,c⟩⟩
theorem iF.put(h:iF p row ns cs ws wh)(O:s<row.length)(hp:∀m,m∈ms↔m∈c9 row wh ws s (t+1)):rn (aM ws (eY row s t)) ms=aM ws (eY row s (t+1)):=by
 have hm:∀m∈ms,∃k l,k<row.length/\m=mq row wh ws k l:=λm q=>by
  rcases nI.mp ((hp m).mp q) with ⟨q1,e⟩|⟨q1,e⟩
  .exact⟨_,_,∅,e⟩
  .exact⟨_,_,q1,e⟩
 rw[JK λm q=>by
  obtain⟨k,l,hk,rfl⟩:=hm m q;have:=h.rg _ (iu hk);exact⟨this.1,this.2,rfl⟩]
 refine mO λi _=>?_;rw[dQ,decide_eq_true_iff];refine⟨λ⟨a,b⟩=>?_,λa=>?_⟩
 .obtain⟨k,hk,e⟩:=cF.mp a;have jS:=dM.mp (dQ.mp hk).1;rw[<-e] at a b⊢;have hka:=(o9 h.nd jS).mp a;refine(o9 h.nd jS).mpr (i9 λz=>b ?_);by_cases q:s+t<k;·exact cF.mpr ⟨_,(hp _).mpr (nI.mpr (.inr ⟨∅,rfl⟩)),by show row.getD (s+(t+1)) 0=_;congr 1;omega⟩
  .exact cF.mpr ⟨_,(hp _).mpr (nI.mpr (.inl ⟨∅,rfl⟩)),by show row.getD (s-(t+1)) 0=_;congr 1;omega⟩
 .obtain⟨k,hk,e⟩:=cF.mp a;have jS:=dM.mp (dQ.mp hk).1;rw[<-e] at a⊢;have hka:=(o9 h.nd jS).mp a;refine⟨(o9 h.nd jS).mpr ∅,λz=>?_⟩;obtain⟨m,hm',e'⟩:=cF.mp z;rcases nI.mp ((hp m).mp hm') with ⟨q1,rfl⟩|⟨q1,rfl⟩
  .have:=fQ h.nd (j:=s-(t+1)) ∅ jS e';omega
  .have:=fQ h.nd (j:=s+(t+1)) ∅ jS e';omega
noncomputable def dN(row:List Int)(wh:Nat->Nat)(ws:List Int)(s:Nat):Nat->Nat->List (List aZ)
 |_,0=>[]
 |t,k+1=>(if c9 row wh ws s (t+1)=[] then[] else[(c9 row wh ws s (t+1)).mergeSort λa b=>decide (a.1<=b.1)])++dN row wh ws s (t+1) k
theorem DN:∀{k t:Nat},dN row wh ws s t (k+1)=dN row wh ws s t k++(if c9 row wh ws s (t+k+1)=[] then[] else[(c9 row wh ws s (t+k+1)).mergeSort λa b=>decide (a.1<=b.1)])
  | 0, t => by
    show _++[]=[]++_;rw[fT,BQ]
  | k + 1, t => by
    show _++dN row wh ws s (t+1) (k+1)=(_++dN row wh ws s (t+1) k)++_;rw[DN (k:=k) (t:=t+1),vL,show t+1+k+1=t+(k+1)+1 by omega]
theorem AV:∀{k t:Nat},(dN row wh ws s t k).length<=k
  |0,_=>bh _
  | k + 1, t => by
    unfold dN;rw[fq];have:=AV (k:=k) (t:=t+1);split<;>simp<;>omega
theorem z0{t:Nat}:(c9 row wh ws s t).length<=2:=by unfold c9;split<;>split<;>simp
theorem HR:∀{k t:Nat},∀r∈dN row wh ws s t k,r.length<=2
  |0,_,r,m=>by cases m
  | k + 1, t, r, m => by
    unfold dN at m;rcases ia.mp m with m|m
    · split at m
      · cases m
      · rw[aJ.mp m,(nB _ _).length_eq]
        exact z0
    · exact HR r m
theorem IU{ms:List aZ}(h:(ms.map (·.1)).Nodup):(ms.mergeSort λa b=>decide (a.1<=b.1)).Pairwise λa b=>a.1<b.1:=by
 have h1:(ms.mergeSort λa b=>decide (a.1<=b.1)).Pairwise λa b=>decide (a.1<=b.1)=true:=EB (λa b c h1 h2=>by simp at h1 h2⊢;omega) (λa b=>by simp;omega) _;have h2:((ms.mergeSort λa b=>decide (a.1<=b.1)).map (·.1)).Nodup:=((nB ms _).map _).nodup_iff.mpr h;have h3:(ms.mergeSort λa b=>decide (a.1<=b.1)).Pairwise λa b=>a.1≠b.1:=nN.mp h2;exact(h1.and h3).imp λ⟨a,b⟩=>by have:=of_decide_eq_true a;omega
theorem Dl(hn:row.Nodup)(O:s<row.length)(ht:0<t):((c9 row wh ws s t).map (·.1)).Nodup:=by
 unfold c9;by_cases h1:t<=s<;>by_cases h2:s+t<row.length
 .rw[if_pos h1,if_pos h2];show[row.getD (s-t) 0,row.getD (s+t) 0].Nodup;simp only[eW,aJ,cy,not_false_eq_true,zW,and_true];intro e;have:=fQ hn ∅ h2 e;omega
 .rw[if_pos h1,if_neg h2];simp
 .rw[if_neg h1,if_pos h2];simp
 .rw[if_neg h1,if_neg h2];simp
theorem wc:c9 row wh ws s t=[]↔s<t/\row.length<=s+t:=by
 unfold c9;by_cases h1:t<=s<;>by_cases h2:s+t<row.length<;>simp[h1,h2]<;>omega
theorem CS:∀{k t:Nat},c9 row wh ws s (t+1)=[]->dN row wh ws s t k=[]
  |0,_,_=>rfl
  | k + 1, t, h => by
    unfold dN;rw[if_pos h,BQ];have:=wc.mp h;exact CS (wc.mpr ∅)
theorem iF.rounds(h:iF p row ns cs ws wh)(O:s<row.length):∀{k t:Nat},row.length<=t+k+1->dm p cs (aM ws (eY row s t))=dN row wh ws s t k/\gw p cs (aM ws (eY row s t))=ws.map some:=by
  have d:0<p:=by have:=h.nq.1.1;omega
  have key:∀{t},aG p cs (aM ws (eY row s t))=(c9 row wh ws s (t+1)).mergeSort λa b=>decide (a.1<=b.1):=λ{t}=>
    (h.round O (λm=>(nB _ _).mem_iff) (IU (Dl h.nd O ∅))).symm
  have fin:∀{t},c9 row wh ws s (t+1)=[]->dm p cs (aM ws (eY row s t))=[]/\gw p cs (aM ws (eY row s t))=ws.map some:=λ{t} e=>by
    have hr:aG p cs (aM ws (eY row s t))=[]:=by rw[key,e];simp
    refine⟨oR hr,?_⟩;rw[tD hr,<-uV];have q:=wc.mp e;refine mO λi _=>⟨λm=>?_,λm=>by cases m⟩;obtain⟨k,hk,e⟩:=cF.mp m;have jS:=dM.mp (dQ.mp hk).1;rw[<-e] at m;have:=(o9 h.nd jS).mp m;omega
  intro k;induction k with
  | zero =>
    intro t ht;exact fin (wc.mpr ∅)
  | succ k ih =>
    intro t ht;by_cases e:c9 row wh ws s (t+1)=[]
    · rw[CS e]
      exact fin e
    · have R:aG p cs (aM ws (eY row s t))≠[]:=λz=>by
        rw[key] at z;have:=(nB (c9 row wh ws s (t+1)) λa b=>decide (a.1<=b.1)).length_eq;rw[z] at this;exact e (qN.mp this.symm)
      have V:∀prs∈cs,∀pr∈prs,0<=pr.1/\pr.1<(aM ws (eY row s t)).length:=by rw[fj];exact h.nq.rg
      have f:rn (aM ws (eY row s t)) (aG p cs (aM ws (eY row s t)))=aM ws (eY row s (t+1)):=h.put O λm=>by rw[key];exact(nB _ _).mem_iff
      obtain⟨o,u⟩:=ih (t:=t+1) ∅;rw[mE d V R,Aw d V R,f,o,u];rw[show dN row wh ws s t (k+1)=(if c9 row wh ws s (t+1)=[] then[] else[(c9 row wh ws s (t+1)).mergeSort λa b=>decide (a.1<=b.1)])++dN row wh ws s (t+1) k from rfl,if_neg e,key];exact⟨rfl,rfl⟩
theorem iF.none(h:iF p row ns cs ws wh):aG p cs (aM ws row)=[]:=by
 refine(BX (ms:=[]) .nil (λm q=>by cases q) λc hc a x hx=>?_).symm;have ho:=(mC h.nq h.hr h.ht hc).2 x hx;obtain⟨j,hj⟩:∃j,ns[c]?=some j:=⟨_,aA (by rw[<-h.len];exact hc)⟩;have hjl:=(h.lk c j hj).1;rcases((h.m9 (λ_ z=>z) hj).mp ho).2 with ⟨_,e⟩|⟨_,e⟩
 .exact absurd (iu hjl) e
 .exact absurd (iu ∅) e
theorem iF.one(h:iF p row ns cs ws wh){k:Nat}(hk:k<row.length){M:Nat}(h1:∃j,ns[M]?=some j/\(j=k\/j+1=k))(h2:∀c<M,∀j,ns[c]?=some j->j≠k/\j+1≠k):
  dm p cs (aM ws [row.getD k 0])=[[(row.getD k 0,((M:Nat):Int),ws.getD (row.getD k 0).toNat 0)]]/\gw p cs (aM ws [row.getD k 0])=ws.map some:=by
 have d:0<p:=by have:=h.nq.1.1;omega
 have hsub:∀y∈[row.getD k 0],y∈row:=λy m=>by rw[aJ.mp m];exact iu hk
 have on:∀{c j},ns[c]?=some j->∀{x},only cs [row.getD k 0] x c↔x=row.getD k 0/\(j=k\/j+1=k):=λ{c j} hj {x}=>by
  have hjl:=(h.lk c j hj).1;rw[h.m9 hsub hj];have n1:∀{i},i<row.length->(row.getD i 0∈[row.getD k 0]↔i=k):=λ{i} hi=>⟨λm=>fQ h.nd hi hk (aJ.mp m),λe=>by rw[e];simp⟩;refine⟨λ⟨a,b⟩=>⟨aJ.mp a,?_⟩,λ⟨a,b⟩=>⟨by rw[a];simp,?_⟩⟩
  .have a:=aJ.mp a;rcases b with ⟨b,_⟩|⟨b,_⟩
   .exact .inl (fQ h.nd ∅ hk (b.symm.trans a))
   .exact .inr (fQ h.nd hjl hk (b.symm.trans a))
  .rcases b with b|b
   .exact .inl ⟨by rw[a,b],λz=>by have:=(n1 hjl).mp z;omega⟩
   .exact .inr ⟨by rw[a,b],λz=>by have:=(n1 ∅).mp z;omega⟩
 obtain⟨jM,J,g⟩:=h1;have l:M<cs.length:=by rw[h.len];exact(bG.mp J).1
 have hr:[(row.getD k 0,((M:Nat):Int),ws.getD (row.getD k 0).toNat 0)]=aG p cs (aM ws [row.getD k 0]):=by
  refine BX (by simp) (λm q=>?_) λc hc a x hx=>?_
  .rw[aJ.mp q];refine⟨by show(0:Int)<=((M:Nat):Int);omega,by show((M:Nat):Int)<_;omega,(mC h.nq h.hr h.ht l).1.mp ((on J).mpr ⟨rfl,g⟩),λc hc x hx=>?_⟩;have hc:c<M:=by have hc:(c:Int)<((M:Nat):Int):=hc;omega
   have ho:=(mC h.nq h.hr h.ht ∅).2 x hx;obtain⟨j,hj⟩:∃j,ns[c]?=some j:=⟨_,aA (by rw[<-h.len];omega)⟩;have:=h2 c hc j hj;rcases((on hj).mp ho).2 with z|z
   .exact this.1 z
   .exact this.2 z
  .have ho:=(mC h.nq h.hr h.ht hc).2 x hx;obtain⟨j,hj⟩:∃j,ns[c]?=some j:=⟨_,aA (by rw[<-h.len];exact hc)⟩;rw[((on hj).mp ho).1];simp
 have R:aG p cs (aM ws [row.getD k 0])≠[]:=by rw[<-hr];simp
 have V:∀prs∈cs,∀pr∈prs,0<=pr.1/\pr.1<(aM ws [row.getD k 0]).length:=by rw[fj];exact h.nq.rg
 have nk:=h.rg _ (iu hk);have f:rn (aM ws [row.getD k 0]) (aG p cs (aM ws [row.getD k 0]))=ws.map some:=by
  rw[<-hr];show(aM ws [row.getD k 0]).set _ (some (ws.getD (row.getD k 0).toNat 0))=_;rw[IJ nk.1 nk.2,<-uV];exact mO λi _=>by simp
 have hend:=ON (p:=p) (cs:=cs) (n:=ws.length) h.nq rfl;rw[mE d V R,Aw d V R,f,oR hend,tD hend,<-hr];exact⟨rfl,rfl⟩
end
theorem DH{w:List Int}{k:Nat}{x:Int}(hi:i<w.length):gW (w.set i x) k=if i=k then x else gW w k:=by
 unfold gW;rw[bq,bq];by_cases c:i=k;·subst c;rw[cz hi,if_pos rfl];rfl
 .rw[br c,if_neg c]
theorem LP{w:List Int}{b x:Int}(hb:0<=b/\b<w.length)(hp:∀pr∈prs,0<=pr.1/\pr.1<w.length)(hn:b∉prs.map (·.1)):bH prs ((w.set b.toNat x).map some)=bH prs (w.map some):=by
 rw[qd λpr m=>by have:=hp pr m;rw[eG];omega,qd λpr m=>by have:=hp pr m;omega]
 congr 1
 refine pR λpr m=>?_;rw[DH ∅,if_neg];intro z;have:=hp pr m;exact hn (cF.mpr ⟨pr,m,∅⟩)
@[reducible] noncomputable def fM(j:Nat):PyData:= .int j
noncomputable def lu(m:Nat)(wh:Nat->Nat)(k:Nat):Nat->List Nat
 |0=>[]
 |1=>if 1<=k then[wh (k-1)] else[]
 |_=>(if 1<=k then[wh (k-1)] else[])++if k+1<m then[wh k] else[]
end L2
namespace K25
open PySem L2
noncomputable def top(i:Nat):eo:=PySem.Challenge.pw_fewchecks_k25_long_chains.main.body.getD i (.Pass ⟨0,0,0,0⟩)
noncomputable abbrev BB:eo:=top 2
noncomputable abbrev Bo:eo:=top 3
noncomputable abbrev zT:eo:=top 4
noncomputable abbrev CG:eo:=top 9
noncomputable abbrev zL:eo:=top 12
noncomputable abbrev uG:eo:=top 13
noncomputable abbrev sH:eo:=top 14
noncomputable abbrev tY:eo:=top 15
noncomputable abbrev CI:eo:=top 17
noncomputable abbrev ug:eo:=top 19
noncomputable abbrev yR:eo:=top 20
noncomputable abbrev tK:eo:=top 21
noncomputable abbrev yi:eo:=top 22
noncomputable abbrev BS:eo:=top 23
noncomputable abbrev Ab:eo:=top 24
noncomputable abbrev xW:eo:=top 25
noncomputable abbrev we:eo:=top 26
noncomputable abbrev uz:eo:=top 27
noncomputable abbrev tT:eo:=top 28
noncomputable abbrev AI:eo:=top 29
noncomputable abbrev B3:eo:=top 30
noncomputable abbrev A8:eo:=top 31
noncomputable abbrev sE:eo:=top 32
noncomputable abbrev jH:eo:=top 33
noncomputable abbrev nY:eo:=inClass (top 16) 0
noncomputable abbrev oE:eo:=inClass (top 16) 1
noncomputable abbrev oq:eo:=inClass (top 16) 2
noncomputable abbrev pY:eo:=inClass (top 16) 3
noncomputable abbrev pN:eo:=inClass (top 16) 5
abbrev Ox:Prop:=∀{l:PySem.W.OpenLaw} {w:bw} {K:PySem.W.Frag} {h:dc} {mg:Str->Option ae} {fa:aw} {f0 f1 f2 f3 f4 f5 f6 f7 f8 f9 Iz CU jB Il Dw EH jF HE Al DI EK Hl Gs sJ pL pH nV pI oh:aw} (X:K.In h) (G:h.Ns a4 mg) (nQ:mg "law"=some (.ref fa))
  {JQ yz:Option aw} {Gn:Array (Option ae)} {Jo Bw yV BE tG z5:ae} {DB Io:Option aw} {E2:Array (Option ae)} {FZ Fz II EJ Bk GF:ae} {Dt Iq:Option aw} {JG:Array (Option ae)} {JU EN D5 FO BP DK:ae} {DX Ij:Option aw} {G4:Array (Option ae)} {Gb EL Fo FH zx G8:ae} {Gq E8:Option aw} {IM:Array (Option ae)} {Jw Em C3 Hw yb EA:ae} {Ep JL:Option aw} {Gu:Array (Option ae)} {IV Hs Hi Iw Ax IP:ae}
  {aB:aw} (wV:PySem.W.nsIn K a4 "Mender"=some (some (.ref aB))) (vB:PySem.W.plainGet K aB q7=true) (v5:PySem.W.hasDictIn K aB=true) (tU:PySem.W.plainOver K aB=true) (w9:PySem.W.findIn K (.ref aB) "__setattr__"=some (some (.builtin "object.__setattr__"))) (sP:PySem.W.makesIn K aB=true) (wQ:PySem.W.keepIn K (.ref aB)=true)
  (ji:PySem.W.findIn K (.ref aB) "net"=some none)
  (gO:PySem.W.findIn K (.ref aB) "letters"=some none)
  (d0:bf K "over" "over" BB f0)
  (d1:bf K "inverse" "inverse" Bo f1)
  (d2:bf K "total" "total" zT f2)
  (d3:bf K "ask_place" "ask_place" CG f3)
  (d4:bf K "told_by" "told_by" zL f4)
  (d5:bf K "told_for" "told_for" uG f5)
  (d6:bf K "round_of" "round_of" sH f6)
  (d7:bf K "copied" "copied" tY f7)
  (d8:bf K "mended" "mended" CI f8)
  (d9:bf K "_law_bag" "_law_bag" ug f9)
  (xr:bf K "_law_draw" "_law_draw" yR Iz)
  (xE:bf K "_law_prime_from" "_law_prime_from" tK CU)
  (wU:bf K "_law_prime" "_law_prime" yi jB)
  (v7:bf K "_law_over" "_law_over" BS Il)
  (uA:bf K "_law_letter" "_law_letter" Ab Dw)
  (vn:bf K "_law_factor" "_law_factor" xW EH)
  (ua:bf K "_law_turned" "_law_turned" we jF)
  (um:bf K "_law_copy" "_law_copy" uz HE)
  (xg:bf K "_law_alike" "_law_alike" tT Al)
  (sy:bf K "_law_chain" "_law_chain" AI DI)
  (v8:bf K "_law_numbers" "_law_numbers" B3 EK)
  (vS:bf K "_law_rounds" "_law_rounds" A8 Hl)
  (vd:bf K "_law_once_more" "_law_once_more" sE Gs)
  (uC:PySem.W.nsIn K a4 "law"=some (some (.ref sJ))) (vE:K.lookup sJ=some ⟨Jo,JQ, .func (PySem.W.fnOf "law" "law" (jj jH) (iQ jH) (aT jH) .none Bw yV BE yz tG z5),Gn⟩) (xw:PySem.W.codeIn K tG "law"=true) (vC:PySem.W.keepIn K (.ref sJ)=true)
  (uU:PySem.W.findIn K (.ref aB) "__init__"=some (some (.ref pL))) (vP:PySem.W.isFn K (.ref pL)=true) (tM:K.lookup pL=some ⟨FZ,DB, .func (PySem.W.fnOf "__init__" "Mender.__init__" (jj nY) (iQ nY) (aT nY) .none Fz II EJ Io Bk GF),E2⟩) (uR:PySem.W.codeIn K Bk "Mender.__init__"=true) (xh:PySem.W.keepIn K (.ref pL)=true)
  (wB:PySem.W.findIn K (.ref aB) "step"=some (some (.ref pH))) (u9:PySem.W.isFn K (.ref pH)=true) (tV:K.lookup pH=some ⟨JU,Dt, .func (PySem.W.fnOf "step" "Mender.step" (jj oE) (iQ oE) (aT oE) .none EN D5 FO Iq BP DK),JG⟩) (ve:PySem.W.codeIn K BP "Mender.step"=true) (rP:PySem.W.keepIn K (.ref pH)=true)
  (sY:PySem.W.findIn K (.ref aB) "mend"=some (some (.ref nV))) (sV:PySem.W.isFn K (.ref nV)=true) (uc:K.lookup nV=some ⟨Gb,DX, .func (PySem.W.fnOf "mend" "Mender.mend" (jj oq) (iQ oq) (aT oq) .none EL Fo FH Ij zx G8),G4⟩) (uX:PySem.W.codeIn K zx "Mender.mend"=true) (rK:PySem.W.keepIn K (.ref nV)=true)
  (wL:PySem.W.findIn K (.ref aB) "lose"=some (some (.ref pI))) (tB:PySem.W.isFn K (.ref pI)=true) (u7:K.lookup pI=some ⟨Jw,Gq, .func (PySem.W.fnOf "lose" "Mender.lose" (jj pY) (iQ pY) (aT pY) .none Em C3 Hw E8 yb EA),IM⟩) (tP:PySem.W.codeIn K yb "Mender.lose"=true) (rj:PySem.W.keepIn K (.ref pI)=true)
  (wY:PySem.W.findIn K (.ref aB) "word"=some (some (.ref oh))) (uw:PySem.W.isFn K (.ref oh)=true) (xx:K.lookup oh=some ⟨IV,Ep, .func (PySem.W.fnOf "word" "Mender.word" (jj pN) (iQ pN) (aT pN) .none Hs Hi Iw JL Ax IP),Gu⟩) (vM:PySem.W.codeIn K Ax "Mender.word"=true) (rL:PySem.W.keepIn K (.ref oh)=true)
  (xB:PySem.W.nsIn K a4 "abs"=some none)
  (vY:PySem.W.nsIn K a4 "all"=some none)
  (xD:PySem.W.nsIn K a4 "bool"=some none)
  (sS:PySem.W.nsIn K a4 "int"=some none)
  (vO:PySem.W.nsIn K a4 "isinstance"=some none)
  (wW:PySem.W.nsIn K a4 "len"=some none)
  (tN:PySem.W.nsIn K a4 "list"=some none)
  (xC:PySem.W.nsIn K a4 "min"=some none)
  (vZ:PySem.W.nsIn K a4 "range"=some none)
  (uW:PySem.W.nsIn K a4 "reversed"=some none)
  (wj:PySem.W.nsIn K a4 "sorted"=some none)
  (wI:PySem.W.nsIn K a4 "str"=some none)
  (vf:PySem.W.nsIn K a4 "tuple"=some none),
  ∃fd:dE,(∀(s:ax) (v:ae),la s fd ⟨[v],[]⟩ [("script",v)])/\∀base:dc,K.In base->base.Ns a4 mg->bx l.prog w K mg base bO 9 fa fd ["script"] (uM K)
theorem walk{q:bc}{c:List Str}{A:bw->dc->Prop}{d:DefRec}{K:Params->PySem.W.Frag}(hn:l.most=some 63)(y:d.params.defaults=[])
  (R:∀(w:bw) (h:dc),A w h->(K w.params).In h)
  (F : ∀ (w : World) (mg : Str -> Option Value) (t : Addr) (h : Heap), (K w.params).In h -> h.Ns mainGlobals mg -> mg d.name = some (.ref t) ->
   ∃fd:dE,(∀(s:ax) (u:ae),la s fd ⟨[u],[]⟩ [("script",u)])/\∀base:dc,(K w.params).In base->base.Ns a4 mg->bx l.prog w (K w.params) mg base bO 9 t fd ["script"] (uM (K w.params))):
  PySem.W.WalkO q c B A l.row.toRowW d [] (λf vs=>PySem.call f vs):=
 L2.Od (n:=63) (k:=9) (x:="script") (CX:=λ_=>bO) (sp:=λw=>uM (K w.params)) hn ⋯ y ⟨rfl,⋯,⋯⟩ R F (λ_ _ a ns hl _ N=>⟨a,ns,rfl,N,hl,λ_=>rfl⟩) λ_ _ _ _ _ z=>z
local macro_rules| `(tactic|walk_at "d0")=> `(tactic|first|omega (config := {})|assumption|decide|(unfold Sm at*;omega (config := {}))|(unfold uY;omega (config := {}))|(unfold yu;decide)|(unfold yu;omega (config := {})))
local macro_rules| `(tactic|walk_at "ds")=> `(tactic|((try dsimp only);first|walk_at "d0" |(refine rh ?_ ?_<;>walk_at "d0")|(refine aR ?_;walk_at "d0")|(refine ee (rh ?_ ?_)<;>walk_at "d0")))
local macro_rules| `(tactic|walk_at "s1")=> `(tactic|with_reducible first
 |refine R.seq ?_|refine R.asg ?_|refine R.j8 ?_|refine R.ret ?_|refine R.next ?_|refine R.c ?_|refine R.op ?_|refine R.test ?_|refine R.bl ?_|refine R.tru ?_
 |refine R.and ?_|refine R.cb ?_|refine R.call ?_|refine R.nil ?_|refine R.cons ?_
 |refine R.lst ?_|refine R.sl ?_|refine R.Oo ?_|refine R.part ?_|refine R.tyInt ?_|refine R.CV ?_|refine R.Qa ?_|refine R.US ?_|refine R.Og ?_|refine R.BH ?_
 |refine R.g7 ?_|refine R.rU ?_|refine R.QN ?_|refine R.P5 ?_|refine R.eqNI ?_|refine R.eqIN ?_|refine R.isI ?_|refine R.HN ?_|refine R.JN ?_|refine R.intB ?_|refine R.bits ?_
 |refine IQ ?_|refine Fv ?_|refine R.nilE ?_|refine R.isiII ?_|refine R.isiIB ?_|refine R.rng1 ?_|refine R.Mq ?_|refine R.iL ?_|refine R.TX ?_|refine R.comp ?_)
local macro_rules| `(tactic|walk_at "st")=> `(tactic|repeat (first
 |walk_at "s1"
 |((with_reducible refine' R.var ?h0 ?_);(case h0=>rfl))
 |((with_reducible refine' R.rI ?h1 ?_);(case h1=>walk_at "ds"))
 |((with_reducible refine' R.z6 (o:= .lst []) ?h1 ?_);(case h1=>rfl))
 |((with_reducible refine' R.vh ?h0 ?h1 ?_);(case h0=>assumption);(case h1=>rfl))
 |((with_reducible refine' R.ixTM ?h0 ?h1 ?_);(case h0=>assumption);(case h1=>rfl))
 |((with_reducible refine' R.fV ?h1 ?_);(case h1=>rfl))
 |((with_reducible refine' R.setM ?h0 ?h1 ?_);(case h0=>assumption);(case h1=>rfl))
 |((with_reducible refine' R.Ob ?h0 ?_);(case h0=>assumption))
 |((with_reducible refine' R.lenL ?h0 ?_);(case h0=>assumption))
 |((with_reducible refine' R.rng1I ?h0 ?h1 ?_);(case h0=>walk_at "ds");(case h1=>walk_at "ds"))
 |((with_reducible refine' R.SI ?h0 ?_);(case h0=>walk_at "ds"))
 |((with_reducible refine' R.uH ?h0 ?_);(case h0=>assumption))
 |((with_reducible refine' R.IC ?h0 ?_);(case h0=>first|exact R.dT (by omega (config := {}))|exact R.IT (by omega (config := {}))|decide))
 |((with_reducible refine' R.JS ?h0 ?_);(case h0=>first|exact R.dF (by omega (config := {}))|exact R.FW (by omega (config := {}))|decide))
 |(with_reducible refine R.min2 ?_)|(with_reducible refine R.Pg ?_)|(with_reducible refine R.Mh ?_)))
local macro_rules| `(tactic|walk_at "mo")=> `(tactic|repeat (first|refine Exists.imp fun _=>?_|refine And.imp_right ?_))
local macro_rules| `(tactic|walk_at "fv")=> `(tactic|first|exact aR rfl|exact ee (aR rfl)|exact ee (ee (aR rfl))|exact ee (ee (ee (aR rfl)))|exact ee (ee (ee (ee rfl))))
local macro_rules| `(tactic|walk_at "d1")=> `(tactic|with_reducible first
 |refine Sv.seq ?_|refine Sv.rY ?_|refine Sv.asg ?_|refine Sv.LB ?_|refine Sv.j8 ?_|refine Sv.ret ?_|refine Sv.next ?_|refine Sv.retN ?_
 |refine Ev.int ?_|refine Ev.aD ?_|refine Ev.g7 ?_|refine Ev.S5 ?_|refine Ev.rI ?_|refine Ev.rU ?_|refine Ev.eq ?_|refine Ev.ne ?_|refine Ev.is ?_|refine Ev.Sk ?_|refine Ev.Ky ?_|refine Ev.Km ?_
 |refine Ev.Az ?_|refine Ev.xZ ?_|refine Tv.test ?_|refine Tv.and ?_|refine Tv.or ?_|refine Tv.not ?_|refine Tv.BH ?_|refine Tv.m8 ?_
 |refine Ev.UG ?_|refine Ev.tup ?_|refine Ev.lst ?_|refine Av.nil ?_|refine Av.cons ?_|refine Av.OX ?_|refine Ov.none ?_|refine Ov.some ?_|refine Ev.min2 ?_|refine Ev.max2 ?_|refine Ev.intB ?_
 |refine R.di ?_|refine R.db ?_|refine R.dl ?_|refine R.dt ?_|refine R.OS ?_|refine R.QS ?_|refine R.UC ?_|refine R.eqni ?_|refine R.eqin ?_|refine R.eqnn ?_|refine R.MO ?_
 |refine Gv.n6 ?_|refine Gv.Q6 ?_|refine Gv.LS ?_|refine Gv.nameT ?_|refine Gv.vJ ?_|refine Gv.Uh ?_|refine Gv.Uj ?_|refine IQ ?_|refine Fv ?_)
local macro_rules| `(tactic|walk_at "dt")=> `(tactic|repeat (first
 |((with_reducible refine' Sv.retOwn ?h0 ?_);(case h0=>rfl))
 |((with_reducible refine' Sv.ud ?h0 ?_);(case h0=>rfl))
 |walk_at "d1"
 |((with_reducible refine' Ev.var ?h0 ?_);(case h0=>rfl))
 |((with_reducible refine' Ev.draw ?h0 ?_);(case h0=>rfl))
 |((with_reducible refine' Ev.OP ?h0 ?_);(case h0=>rfl))
 |((with_reducible refine' Ev.JJ ?h0 ?_);(case h0=>rfl))
 |((with_reducible refine' Ev.listOwn ?h0 ?_);(case h0=>rfl))
 |((with_reducible refine' Ev.slOwn ?h0 ?_);(case h0=>rfl))
 |((with_reducible refine' Sv.append ?h0 ?_);(case h0=>rfl))
 |((with_reducible refine' Sv.ud ?h0 ?_);(case h0=>rfl))
 |((with_reducible refine' Sv.retOwn ?h0 ?_);(case h0=>rfl))
 |((with_reducible refine' Gv.tup ?h0 ?_);(case h0=>rfl))
 |((with_reducible refine' R.at_ ?h0 ?_);(case h0=>first|rfl|assumption))
 |(with_reducible refine Ev.Q3 ?_)|(with_reducible refine Ev.BR ?_)|(with_reducible refine Ev.listOf ?_)|(with_reducible refine Ev.sl ?_)|(with_reducible refine Ev.cat ?_)|(with_reducible refine Ev.HJ ?_)
 |((with_reducible refine' Ev.S9 ?h0 ?_);(case h0=>walk_at "fv"))
 |((with_reducible refine' Ev.Qu ?h0 ?h1 ?_);(case h0=>walk_at "fv");(case h1=>walk_at "fv"))
 |(with_reducible refine Ev.all ?_)|(with_reducible refine Ev.z6 ?_)
 |((with_reducible refine' R.O0 ?_))
 |((with_reducible refine' R.IC ?h0 ?_);(case h0=>first|exact R.dT (by omega (config := {}))|exact R.IT (by omega (config := {}))|rfl))
 |((with_reducible refine' R.JS ?h0 ?_);(case h0=>first|exact R.dF (by omega (config := {}))|exact R.FW (by omega (config := {}))|exact cT))
 |((with_reducible refine' R.MP ?h0 ?_);(case h0=>first|walk_at "ds" |exact AU rfl))))
local macro_rules| `(tactic|walk_at "wk")=> `(tactic|repeat (first|exact Wk.nil|apply Wk.no|apply Wk.eq))
section
variable{P:bc}{w:bw}{K:PySem.W.Frag}{mg:Str->Option ae}{base:dc}{f:aw}{fd:dE}
theorem jf:cD ["p","b","last_rest","last_times","rest","times","quotient","next_rest","next_times"] ["p","b"] (aT Bo):=⟨rfl,rfl,rfl,by decide+kernel,rfl,by decide+kernel,by decide+kernel⟩
theorem Q7(F:bT K "inverse" "inverse" Bo f fd):
  bx P w K mg base bO 1 f fd ["p","b"] Jq:=by
 refine F.ok jf (λvs H Q E h=>?_) (λcdv A outer s H vs Q E hr h=>?_)
 .obtain⟨p,b,rfl,hp,d,hb,q⟩:=h
  rfl
 obtain⟨p,b,rfl,hp,d,hb,q⟩:=h;refine⟨_,(@az _ _ _ _ _ (@aN _ _ (2) _ _ _ _ jf.nd rfl (aR rfl) (pv 0) (by rfl) (by first|exact .inl rfl|exact .inr rfl|assumption)) (@az _ _ _ _ _ (@aN _ _ (3) _ _ _ _ jf.nd rfl (aR rfl) ak (by rfl) (by first|exact .inl rfl|exact .inr rfl|assumption)) (@az _ _ _ _ _ (@aN _ _ (4) _ _ _ _ jf.nd rfl (aR rfl) (@aH _ _ _ _ _ _ _ _ gY (pv 1) (pv 0)) (by rfl) (by first|exact .inl rfl|exact .inr rfl|assumption)) (@az _ _ _ _ _ (@aN _ _ (5) _ _ _ _ jf.nd rfl (aR rfl) ak (by rfl) (by first|exact .inl rfl|exact .inr rfl|assumption)) (@az _ _ _ _ _ (@CD _ _ _ _ _ _ iM (@cU _ _ _ _ _ _ _ _ lX (pv 4) ak (cA _)) (@az _ _ _ _ _ (@aN _ _ (6) _ _ _ _ jf.nd rfl (aR rfl) (@aH _ _ _ _ _ _ _ _ oJ (pv 2) (pv 4)) (by rfl) (by first|exact .inl rfl|exact .inr rfl|assumption)) (@az _ _ _ _ _ (@aN _ _ (7) _ _ _ _ jf.nd rfl (aR rfl) (@aH _ _ _ _ _ _ _ _ iJ (pv 2) (@aH _ _ _ _ _ _ _ _ iz (pv 6) (pv 4))) (by rfl) (by first|exact .inl rfl|exact .inr rfl|assumption)) (@az _ _ _ _ _ (@aN _ _ (8) _ _ _ _ jf.nd rfl (aR rfl) (@aH _ _ _ _ _ _ _ _ iJ (pv 3) (@aH _ _ _ _ _ _ _ _ iz (pv 6) (pv 5))) (by rfl) (by first|exact .inl rfl|exact .inr rfl|assumption)) (@az _ _ _ _ _ (@aN _ _ (2) _ _ _ _ jf.nd rfl (aR rfl) (pv 4) (by rfl) (by first|exact .inl rfl|exact .inr rfl|assumption)) (@az _ _ _ _ _ (@aN _ _ (3) _ _ _ _ jf.nd rfl (aR rfl) (pv 5) (by rfl) (by first|exact .inl rfl|exact .inr rfl|assumption)) (@az _ _ _ _ _ (@aN _ _ (4) _ _ _ _ jf.nd rfl (aR rfl) (pv 7) (by rfl) (by first|exact .inl rfl|exact .inr rfl|assumption)) (@aL _ _ _ (@aN _ _ (5) _ _ _ _ jf.nd rfl (aR rfl) (pv 8) (by rfl) (by first|exact .inl rfl|exact .inr rfl|assumption)))))))))) (@aL _ _ _ (@bY _ _ _ _ (@aH _ _ _ _ _ _ _ _ gY (pv 3) (pv 0))))))))),?_⟩;have hp2:=hp.1;walk_at "st";refine Lw (λσ H1=>H1=H/\∃(L lt r t:Int) (N R M:Option V),σ=[some (.int p),some (.int b),some (.int L),some (.int lt),some (.int r),some (.int t),N,R,M]/\Eu p b L lt r t) (λ(σ:qr) (_:Hp)=>match σ[4]? with|some (some (V.int r))=>r.toNat|_=>0) ⟨rfl,_,_,_,_,_,_,_,rfl,Eu.start hp2⟩ ?_ ?_
 .rintro σ H1 ⟨rfl,L,lt,r,t,N,R,M,rfl,E⟩;obtain⟨l,j⟩:=E.tb;have e1:=E.l0;have e2:=E.r0;have e3:=E.lp;have e4:=E.rp;walk_at "st";refine oV (λc=>?_) (λc=>?_)
  .have c:r≠0:=of_decide_eq_true c;have hr:0<r:=∅
   have J:0<=L/r:=vm ∅ ∅;have q2:L/r<=L:=Ai _ ∅;obtain⟨g,n⟩:=E.next hr
   walk_at "st";refine⟨⟨rfl,_,_,_,_,_,_,_,rfl,g⟩,?_⟩;show(L-L/r*r).toNat<r.toNat;omega
  .have c:r=0:=by simpa using c
   subst c;walk_at "st";exact q _ (ig _ ∅) (gV _ ∅) (E.fin hp hb)
 .exact λσ H Q i h ⟨v,e,s,k,x,z⟩=>⟨v,e,s,k,x,h _ _ z⟩
theorem S6:cD ["p","a","b"] ["p","a","b"] (aT BB):=⟨rfl,rfl,rfl,by decide+kernel,rfl,by decide+kernel,by decide+kernel⟩
theorem Rl(F:bT K "over" "over" BB f fd)(c:Callee P w K mg base "inverse" 1 ["p","b"] Jq):
  bx P w K mg base bO 2 f fd ["p","a","b"] AB:=by
 refine F.ok S6 (λvs H Q E h=>?_) (λcdv A outer s H vs Q E hr h=>?_)
 .obtain⟨p,a,b,rfl,hp,d,hb,a1,a2,q⟩:=h
  rfl
 obtain⟨p,a,b,rfl,hp,d,hb,a1,a2,q⟩:=h;refine⟨_,(@aL _ _ _ (@bY _ _ _ _ (@aH _ _ _ _ _ _ _ _ gY (@aH _ _ _ _ _ _ _ _ iz (pv 1) (@aX _ _ _ _ _ _ _ _ _ _ c (hr.mono ⋯) (@aa _ _ _ _ _ (pv 0) (@aa _ _ _ _ _ (pv 2) ai rfl) rfl) (by rfl) ⋯ (by rfl) (by rfl))) (pv 0)))),?_⟩;have hp2:=hp.1;walk_at "st";refine⟨p,b,rfl,hp,d,hb,λu u1 u2 ⟨k,hk⟩=>?_⟩;walk_at "st";refine q _ (ig _ ∅) (gV _ ∅) ⟨a*k-a*u/p*b,?_⟩;have e:=kc (a*u) p;have e2:a*u%p=a*u-p*(a*u/p):=∅
 have e3:b*(a*u)=a*(u*b):=by rw[lZ b,iY]
 rw[e2,ku,e3,hk,vH,xA,ku,<-iY a p k,lZ a p,iY p a k,lZ b (p*_),iY p];omega
theorem qC:cD ["p","pairs","word","reached","place","factor"] ["p","pairs","word"] (aT zT):=⟨rfl,rfl,rfl,by decide+kernel,rfl,by decide+kernel,by decide+kernel⟩
theorem O9(F:bT K "total" "total" zT f fd):
    bx P w K mg base bO 1 f fd ["p","pairs","word"] Cw:=by
  refine F.ok qC (λvs H Q E h=>?_) (λcdv A outer s H vs Q E hr h=>?_)
  · obtain⟨nb,p,b,d,prs,wd,rfl,hA,hC,hp,h1,h2,q⟩:=h
    rfl
  obtain⟨nb,p,b,d,prs,wd,rfl,hA,hC,hp,h1,h2,q⟩:=h;refine⟨_,(@az _ _ _ _ _ (@aN _ _ (3) _ _ _ _ qC.nd rfl (aR rfl) ak (by rfl) (by first|exact .inl rfl|exact .inr rfl|assumption)) (@az _ _ _ _ _ (@jP _ _ _ _ _ _ _ _ iM rfl (jo (K:=K) rfl (pv 1)) (Jz rfl (@gy _ _ _ _ _ (cg (i:=4) qC.nd rfl (aR rfl)) (@gy _ _ _ _ _ (cg (i:=5) qC.nd rfl (aR rfl)) oQ (by rfl)) (by rfl))) (@aL _ _ _ (@fG _ _ _ _ _ _ _ _ (@cU _ _ _ _ _ _ _ _ C6 (@aK _ _ _ _ _ _ _ bD (pv 2) (pv 4) (λ_ _=>rfl)) pO (cA _)) (@aL _ _ _ (@aN _ _ (3) _ _ _ _ qC.nd rfl (aR rfl) (@aH _ _ _ _ _ _ _ _ gY (@aH _ _ _ _ _ _ _ _ eB (pv 3) (@aH _ _ _ _ _ _ _ _ iz (pv 5) (@aK _ _ _ _ _ _ _ bD (pv 2) (pv 4) (λ_ _=>rfl)))) (pv 0)) (by rfl) (by first|exact .inl rfl|exact .inr rfl|assumption))) fR)) (by intro _;rfl)) (@aL _ _ _ (@bY _ _ _ _ (pv 3))))),?_⟩;obtain⟨a,xs,rfl,J,ha,j⟩:=hA.dY;obtain⟨c,ws,rfl,nc,hc,k⟩:=hC.dY;have o4:=j.length;rw[ao] at o4;have ew:=Gh k;subst ew;walk_at "st";refine R.uH (aS.of ha) ?_;refine JM (xs:=xs) (λi σ H1=>H1=H/\∃(r:Int) (x y:Option V),σ=[some (.int p),some (.ref a),some (.ref c),some (.int r),x,y]/\r=bH (prs.take i) wd%p) ⟨rfl,0,none,none,rfl,by simp[bH]⟩ ?_ ?_ ?_
  · rintro i σ H1 hi ⟨rfl,_⟩
    exact aS.of ha
  · rintro i x σ H1 hx ⟨rfl,r,y,z,rfl,hr⟩
    have hi:i<prs.length:=by have:=(bG.mp hx).1;omega
    obtain⟨M,L,dx⟩:=j.get (i:=i) (by rw[bC,aA hi];rfl);rw[hx] at L;cases L
    obtain⟨t,rfl,nt,ht⟩:=Ke dx;obtain⟨g1,g2,U⟩:=h1 _ (dP hi);have hk:prs[i].fst.toNat<wd.length:=∅
    have hat:bB (wd.map tO) prs[i].fst=some (tO wd[prs[i].fst.toNat]):=fL g1 (by rw[bC,aA hk];rfl);have g:iW wd prs[i]=match wd[prs[i].fst.toNat] with|some x=>prs[i].snd*x|none=>0:=by
      unfold iW;rw[aA hk];cases wd[prs[i].fst.toNat]<;>rfl
    have Y:∀x,wd[prs[i].fst.toNat]=some x->Sm x:=λx e=>h2 x (by rw[<-e];exact dP hk);have hd:=TJ (wd:=wd) hi;refine R.Ru (fN.of ht) rfl ?_;walk_at "st";refine R.vh hc hat ?_;walk_at "st";generalize wd[prs[i].fst.toNat]=o at hat g Y⊢;cases o with
    | none =>
      refine R.JN ?_;walk_at "st";refine⟨rfl,_,_,_,rfl,?_⟩;rw[hd,g,hr,oL]
    | some x =>
      have Tp:=Y x rfl;refine R.HN ?_;walk_at "st";refine R.vh hc hat ?_;refine R.rI (ee ⟨U,Tp⟩) ?_;walk_at "st";refine⟨rfl,_,_,_,rfl,?_⟩;rw[hd,g,hr,Int.emod_add_emod]
  · rintro σ H1 ⟨rfl,r,x,y,rfl,hr⟩
    walk_at "st";rw[o4,j3] at hr;rw[hr];exact q
def B5:DF:=λds Φ=>∃(n a:Int),ds=[.int n, .int a]/\0<=a/\a<n/\Φ true .none
theorem NT:fm B5:=by
 intro ds Φ Ψ hm z;revert hm;walk_at "mo";exact λq=>z _ _ q
theorem Rr:cD ["n","place"] ["n","place"] (aT CG):=⟨rfl,rfl,rfl,by decide+kernel,rfl,by decide+kernel,by decide+kernel⟩
theorem RO(F:bT K "ask_place" "ask_place" CG f fd):
  bx P w K mg base bO 1 f fd ["n","place"] (c6 2 B5):=by
 refine F.ok Rr (λvs H Q E h=>h.1) (λcdv A outer s H vs Q E hr h=>?_);obtain⟨nb,ds,Φ,u,B,D,I⟩:=kD h;obtain⟨n,a,rfl,T,a1,q⟩:=I;refine⟨_,(@aL _ _ _ (@fG _ _ _ _ _ _ _ _ (PW.pt (sj (@cU _ _ _ _ _ _ _ _ wN (pv 1) ak (cA _)) (qF (@cU _ _ _ _ _ _ _ _ HX (pv 1) (pv 0) (cA _))))) (@aL _ _ _ Lq) fR)),?_⟩;refine Sv.jY u B D (ρ:=[.d false _, .d false _]) rfl ?_;clear D B;rfl';exact q
def AQ:DF:=λds Φ=>∃(p rest:Int) (prs:au) (wd:Wo),ds=[.int p,gg prs, .int rest,ff wd]/\fK p/\p<10^40/\0<=rest/\rest<p/\prs.length<=10000/\BC prs wd.length/\zI p prs/\iU wd/\Φ true (Ht (bK p prs rest wd))
theorem P6:fm AQ:=by
 intro ds Φ Ψ hm z;revert hm;walk_at "mo";exact λq=>z _ _ q
theorem uB:cD ["p","pairs","rest","word","lost","place","factor"] ["p","pairs","rest","word"] (aT uG):=⟨rfl,rfl,rfl,by decide+kernel,rfl,by decide+kernel,by decide+kernel⟩
theorem OF(F:bT K "told_for" "told_for" uG f fd)(k:Callee P w K mg base "over" 2 ["p","a","b"] AB)(j:Callee P w K mg base "total" 1 ["p","pairs","word"] Cw)(bV:mg "len"=none):
    bx P w K mg base bO 3 f fd ["p","pairs","rest","word"] (c6 4 AQ):=by
  refine F.ok uB (λvs H Q E h=>h.1) (λcdv A outer s H vs Q E hr h=>?_);obtain⟨nb,ds,Φ,u,B,D,I⟩:=kD h;obtain⟨p,rest,prs,wd,rfl,hp,m,r0,C,hl,Y,g,hW,q⟩:=I;refine⟨_,(@az _ _ _ _ _ (zU (i:=4) uB.nd rfl rfl (gD.of (show jb (aT uG) ["p","pairs","rest","word","lost","place","factor"] _ ["place","factor","word"] [none,none,some 3]=true by decide+kernel)) (jo (K:=K) rfl (pv 1)) (λ_ _ _ _=>⟨(@qX _ (K) _ _ _ (2) _ rfl rfl (@gy _ _ _ _ _ (cg (i:=0) (by show da (["place","factor","word"]:List Str);decide+kernel) rfl (aR rfl)) (@gy _ _ _ _ _ (cg (i:=1) (by show da (["place","factor","word"]:List Str);decide+kernel) rfl (aR rfl)) oQ (by rfl)) (by rfl)) (by rfl) (by rfl)),(zF (@cU _ _ _ _ _ _ _ _ KH (@aK _ _ _ _ _ _ (cO K) bD (pv 2) (pv 0) (λ_ _=>rfl)) pO (cA _))),(@fS _ _ _ _ _ (@aa _ _ _ _ _ (pv 0) (@aa _ _ _ _ _ (pv 1) ai rfl) rfl))⟩)) (@az _ _ _ _ _ (@fG _ _ _ _ _ _ _ _ (@cU _ _ _ _ _ _ _ _ lX (@cM _ _ _ _ _ _ _ _ (fP K) iK rfl bV g8 (@aa _ _ _ _ _ (pv 4) ai rfl) ⋯ ⋯ (by rfl) (by rfl)) ak (cA _)) (@aL _ _ _ (@bY _ _ _ _ pO)) fR) (@az _ _ _ _ _ (@aN _ _ (5) _ _ _ _ uB.nd rfl (aR rfl) (@aK _ _ _ _ _ _ (e7 K) fU (@aK _ _ _ _ _ _ (cO K) bD (pv 4) ak (λ_ _=>rfl)) ak (λ_ _=>rfl)) (by rfl) (by first|exact .inl rfl|exact .inr rfl|assumption)) (@az _ _ _ _ _ (@aN _ _ (6) _ _ _ _ uB.nd rfl (aR rfl) (@aK _ _ _ _ _ _ (e7 K) fU (@aK _ _ _ _ _ _ (cO K) bD (pv 4) ak (λ_ _=>rfl)) ak (λ_ _=>rfl)) (by rfl) (by first|exact .inl rfl|exact .inr rfl|assumption)) (@aL _ _ _ (@bY _ _ _ _ (@fS _ _ _ _ _ (@aa _ _ _ _ _ (pv 5) (@aa _ _ _ _ _ (@aX _ _ _ _ _ _ _ _ _ _ k (hr.mono ⋯) (@aa _ _ _ _ _ (pv 0) (@aa _ _ _ _ _ (@aH _ _ _ _ _ _ _ _ iJ (pv 2) (@aX _ _ _ _ _ _ _ _ _ _ j (hr.mono ⋯) (@aa _ _ _ _ _ (pv 0) (@aa _ _ _ _ _ (pv 1) (@aa _ _ _ _ _ (pv 3) ai rfl) rfl) rfl) (by rfl) ⋯ (by rfl) (by rfl))) (@aa _ _ _ _ _ (pv 6) ai rfl) rfl) rfl) (by rfl) ⋯ (by rfl) (by rfl)) ai rfl) rfl)))))))),?_⟩;refine Sv.jY u B D (ρ:=[.d false _, .d false _, .d false _, .d false _, .no, .no, .no]) rfl ?_;clear D B;have c:(prs.map ru).length=prs.length:=ao ..;have p2:=hp.1;rfl';refine aC.ev (aC.ny ⋯ rfl ?_);rfl';refine λv=>⟨true,λi ds=>ds=(c7 wd (prs.take i)).map ru,rfl,?_,?_⟩
  · rintro i d ds hd hl' rfl
    obtain⟨pr,a,rfl⟩:=mD hd;obtain⟨g1,g2,U⟩:=Y pr (dz a);obtain⟨o,ho,hat⟩:=NP (xs:=wd) gx g1 g2 rfl;rfl';refine⟨by walk_at "wk",?_⟩;rfl';rw[OL];cases o with
    | none =>
      rfl';refine⟨λ_=>rfl,?_⟩;show _=dn ru (c7 wd (prs.take (i+1)));rw[rr a,C0,if_pos ho,eN]
      rfl
    | some x =>
      rfl';show _=dn ru (c7 wd (prs.take (i+1)));rw[rr a,C0,if_neg (by rw[ho];simp)]
  rintro ds hl' rfl;rw[c,j3];rfl';have key:∀L,c7 wd prs=L->bK p prs rest wd=(match L with|[pr]=>some (pr.1,sol p pr.2 (rest-bH prs wd%p))|_=>none):=λL e=>by unfold bK;rw[e]<;>rfl
  cases T:c7 wd prs with
  | nil =>
    rfl';rw[key _ T] at q;exact q
  | cons pr r =>
    cases r with
    | cons b N =>
      have:¬((dn ru (pr::b::N)).length:Int)=1:=by simp;omega
      rfl';rw[key _ T] at q;exact q
    | nil =>
      have hm:=(xV (wd:=wd) (prs:=prs) (pr:=pr) (by rw[T];simp)).1;have d0:=ig (bH prs wd) (show p≠0 by omega);have d1:=gV (bH prs wd) (show 0<p by omega);rfl';refine Ev.over ?_;rfl';refine Ev.total ?_;rfl';refine⟨p,prs,wd,rfl,∅,Y,hW,?_⟩;rfl';refine⟨p,rest-bH prs wd%p,pr.2,rfl,hp,m,g pr hm,∅,∅,λx X S hx=>?_⟩;rfl';rw[key _ T] at q;have e:=Am hp (g pr hm) X S hx;rw[e];exact q
def Bu:DF:=λds Φ=>∃(p n c:Int) (cs:List au) (wd:Wo),ds=[cS p n cs,ff wd, .int c]/\gc p cs wd.length/\iU wd/\0<=c/\c<cs.length/\Φ true (Ht (bK p (cs.getD c.toNat []) 0 wd))
theorem Oj:fm Bu:=by
 intro ds Φ Ψ hm z;revert hm;walk_at "mo";exact λq=>z _ _ q
theorem Nm:cD ["net","word","c"] ["net","word","c"] (aT zL):=⟨rfl,rfl,rfl,by decide+kernel,rfl,by decide+kernel,by decide+kernel⟩
theorem LH(F:bT K "told_by" "told_by" zL f fd)(a:Callee P w K mg base "told_for" 3 ["p","pairs","rest","word"] (c6 4 AQ)):
  bx P w K mg base bO 4 f fd ["net","word","c"] (c6 3 Bu):=by
 refine F.ok Nm (λvs H Q E h=>h.1) (λcdv A outer s H vs Q E hr h=>?_);obtain⟨nb,ds,Φ,u,B,D,I⟩:=kD h;obtain⟨p,n,c,cs,wd,rfl,hN,hW,c0,c1,q⟩:=I;refine⟨_,(@aL _ _ _ (@bY _ _ _ _ (@aX _ _ _ _ _ _ _ _ _ _ a (hr.mono ⋯) (@aa _ _ _ _ _ (@aK _ _ _ _ _ _ (e7 K) fU (pv 0) ak (λ_ _=>rfl)) (@aa _ _ _ _ _ (@aK _ _ _ _ _ _ (cO K) bD (@aK _ _ _ _ _ _ (e7 K) fU (pv 0) ak (λ_ _=>rfl)) (pv 2) (λ_ _=>rfl)) (@aa _ _ _ _ _ ak (@aa _ _ _ _ _ (pv 1) ai rfl) rfl) rfl) rfl) (by rfl) ⋯ (by rfl) (by rfl)))),?_⟩;refine Sv.jY u B D (ρ:=[.d false _, .d false _, .d false _]) rfl ?_;clear D B;obtain⟨prs,e1,e2,e3,e4,e5⟩:=hN.at c0 c1;have p2:=hN.1.1;have hat:bB (cs.map gg) c=some (gg prs):=fL c0 (by rw[bC,e1];rfl);rfl';refine Ev.gv P6 ?_;rfl';rw[e2] at q;exact⟨rfl,p,0,prs,wd,rfl,hN.1,hN.2.1,∅,∅,∅,e4,e5,hW,q⟩
def Ck:DF:=λds Φ=>∃(p n:Int) (cs:List au) (wd:Wo),ds=[cS p n cs,ff wd]/\gc p cs wd.length/\iU wd/\wd.length<=4000/\(aG p cs wd).length<64/\Φ true (dg (aG p cs wd))
theorem Pz:fm Ck:=by
 intro ds Φ Ψ hm z;revert hm;walk_at "mo";exact λq=>z _ _ q
theorem w5:cD ["net","word","found","c","told"] ["net","word"] (aT sH):=⟨rfl,rfl,rfl,by decide+kernel,rfl,by decide+kernel,by decide+kernel⟩
theorem Qh(F:bT K "round_of" "round_of" sH f fd)(b:Callee P w K mg base "told_by" 4 ["net","word","c"] (c6 3 Bu))(cL:mg "range"=none)(bV:mg "len"=none)(k9:mg "sorted"=none):
    bx P w K mg base bO 5 f fd ["net","word"] (c6 2 Ck):=by
  refine F.ok w5 (λvs H Q E h=>h.1) (λcdv A outer s H vs Q E hr h=>?_);obtain⟨nb,ds,Φ,u,B,D,I⟩:=kD h;obtain⟨p,n,cs,wd,rfl,hN,hW,hl,g,q⟩:=I;refine⟨_,(@az _ _ _ _ _ (@aN _ _ (2) _ _ _ _ w5.nd rfl (ee rfl) CZ (by rfl) (by first|exact .inl rfl|exact .inr rfl|assumption)) (@az _ _ _ _ _ (@jP _ _ _ _ _ _ _ _ iM rfl (@pU _ _ _ _ _ _ rfl cL (@aa _ _ _ _ _ (@cM _ _ _ _ _ _ _ _ (fP K) iK rfl bV g8 (@aa _ _ _ _ _ (@aK _ _ _ _ _ _ (e7 K) fU (pv 0) ak (λ_ _=>rfl)) ai rfl) ⋯ ⋯ (by rfl) (by rfl)) ai rfl) (by rfl)) (cg (i:=3) w5.nd rfl (aR rfl)) (@az _ _ _ _ _ (@aN _ _ (4) _ _ _ _ w5.nd rfl (aR rfl) (@aX _ _ _ _ _ _ _ _ _ _ b (hr.mono ⋯) (@aa _ _ _ _ _ (pv 0) (@aa _ _ _ _ _ (pv 1) (@aa _ _ _ _ _ (pv 3) ai rfl) rfl) rfl) (by rfl) ⋯ (by rfl) (by rfl)) (by rfl) (by first|exact .inl rfl|exact .inr rfl|assumption)) (@aL _ _ _ (@fG _ _ _ _ _ _ _ _ (PW.pt (vQ (@cU _ _ _ _ _ _ _ _ C6 (pv 4) pO (cA _)) (w4 (@cU _ _ _ _ _ _ _ _ (MG hr.units) (@aK _ _ _ _ _ _ (e7 K) fU (pv 4) ak (λ_ _=>rfl)) (pv 2) (by with_unfolding_all rfl))))) (@aL _ _ _ (@jc _ _ _ _ _ _ (@fS _ _ _ _ _ (@aa _ _ _ _ _ (@aK _ _ _ _ _ _ (e7 K) fU (pv 4) ak (λ_ _=>rfl)) (@aa _ _ _ _ _ (pv 3) (@aa _ _ _ _ _ (@aK _ _ _ _ _ _ (e7 K) fU (pv 4) ak (λ_ _=>rfl)) ai rfl) rfl) rfl)) (jz (pv 2) (@aK _ _ _ _ _ _ (e7 K) fU (pv 4) ak (λ_ _=>rfl)) set_dict) (by rfl) (by rfl) (by rfl))) fR))) (by intro _;rfl)) (@aL _ _ _ (@bY _ _ _ _ (lJ (gD.of (show jb (aT sH) ["net","word","found","c","told"] _ ["place","found"] [none,some 2]=true by decide+kernel)) (jo (K:=K) rfl (@cM _ _ _ _ _ _ _ _ (CJ) (Sh rfl) rfl k9 BA (@aa _ _ _ _ _ (pv 2) ai rfl) ⋯ ⋯ (by rfl) (by rfl))) (λ_ _ _ _=>⟨(cg (i:=0) (by show da (["place","found"]:List Str);decide+kernel) rfl (aR rfl)),mh,(@aK _ _ _ _ _ _ (oH) Bl (pv 1) (pv 0) (λ_ _=>rfl))⟩)))))),?_⟩;refine Sv.jY u B D (ρ:=[.d false _, .d false _, .no, .no, .no]) rfl ?_;clear D B;have p2:=hN.1.1;have hcl:=hN.2.2.1;have U1:((cs.map gg).length:Int)=cs.length:=by rw[ao]
  refine Sv.seq ?_;refine Sv.Dq (qp.new ?_);intro A2;refine Sv.seq ?_;refine Sv.wg ?_;refine Ev.HJ ?_;refine Ev.BR ?_;refine Ev.var rfl ?_;refine⟨_,rfl,Ev.int ⟨_,rfl,_,rfl,_, .inl rfl,_,rfl,∅,∅,?_⟩⟩;rw[show((cs.map gg).length:Int).toNat=cs.length by omega];refine⟨λi ρ=>∃(r o:Sl),ρ=[.d false (cS p n cs), .d false (ff wd), .bF A2 true ((cI p cs wd i).map kM),r,o],⟨_,_,rfl⟩,?_,?_⟩
  · rintro i d ρ' ⟨hi,rfl⟩ ⟨r,o,rfl⟩
    have hfl:=Gg (p:=p) (cs:=cs) (wd:=wd) ∅ hN.rg (i:=i) ∅;rfl';refine Ev.gv Oj ?_;rfl';refine⟨rfl,p,n,0+(i:Int),cs,wd,rfl,hN,hW,∅,∅,?_⟩;rw[show(0+(i:Int)).toNat=i by omega]
    have ef:cI p cs wd (i+1)=match bK p (cs.getD i []) 0 wd with
      |some (a,x)=>if a∈(cI p cs wd i).map (·.1) then cI p cs wd i else cI p cs wd i++[(a,(i:Int),x)]
      |none=>cI p cs wd i:=by rw[cI]<;>rfl
    cases ht:bK p (cs.getD i []) 0 wd with
    | none =>
      rw[ht] at ef;dsimp only at ef;show Gv _ _ _ _ PyData.none _;rfl';show∃(r o:Sl),(_:Rh)=[Sl.d false (cS p n cs),Sl.d false (ff wd),Sl.bF A2 true ((cI p cs wd (i+1)).map kM),r,o];rw[ef];exact⟨_,_,rfl⟩
    | some j =>
      obtain⟨a,x⟩:=j;rw[ht] at ef;dsimp only at ef;show Gv _ _ _ _ (gJ [.int a, .int x]) _;rfl';refine Ev.Us rfl ?_;rfl';rw[Bool.bne_true];by_cases c:a∈(cI p cs wd i).map (·.1)
      · rw[if_pos c] at ef
        have:fZ ((cI p cs wd i).map kM) a=true:=by rw[D6,zp];exact c
        rw[this];rfl';show∃(r o:Sl),(_:Rh)=[Sl.d false (cS p n cs),Sl.d false (ff wd),Sl.bF A2 true ((cI p cs wd (i+1)).map kM),r,o];rw[ef];exact⟨_,_,rfl⟩
      · rw[if_neg c] at ef
        have:fZ ((cI p cs wd i).map kM) a=false:=by rw[<-Bool.not_eq_true,D6,zp];exact c
        rw[this];generalize eX:(fk _ (pV (bE 2) _ _):TS)=tl;rfl';subst eX;refine Sv.ED rfl ?_;rfl';refine⟨by rw[ao];omega,?_⟩;show∃(r o:Sl),(_:Rh)=[Sl.d false (cS p n cs),Sl.d false (ff wd),Sl.bF A2 true ((cI p cs wd (i+1)).map kM),r,o];rw[ef,eN];unfold lT;rw[this,show(0+(i:Int))=i by omega];exact⟨_,_,rfl⟩
  · rintro ρ' ⟨r,o,rfl⟩
    have hfl:=Gg (p:=p) (cs:=cs) (wd:=wd) ∅ hN.rg (i:=cs.length) (bh _);refine Sv.ret (aC.ev (aC.ny ⋯ rfl ?_));have k:(cI p cs wd cs.length).length<64:=by rw[<-(qt p cs wd).length_eq];exact g
    refine aC.ev (aC.Uu rfl (by rw[ao];exact k) λJ t L=>?_);rw[zp] at L;obtain⟨ms,rfl,e⟩:=Ca L _ rfl;have hmr:=PJ e t;have hml:ms.length<=wd.length:=by rw[e.length_eq];exact hfl
    refine⟨_,rfl,by rw[ao,ao];omega,λv=>⟨true,λi ds=>ds=(ms.take i).map j7,rfl,?_,?_⟩⟩
    · rintro i d ds hd hl' rfl
      obtain⟨a,ha,rfl⟩:=mD hd;obtain⟨m,hm,rfl⟩:=mD ha;have hv:=GD (mV (p:=p) (cs:=cs) (wd:=wd) cs.length) (e.mem_iff.mp (dz hm));rfl';refine⟨by walk_at "wk",?_⟩;rfl';refine Ev.PY rfl ?_;rfl';refine⟨_,hv,λ_=>rfl,?_⟩;show _=dn _ (oP (i+1) ms);rw[rr hm,eN]
      rfl
    · rintro ds hl' rfl
      rw[ao,ao,j3,hmr,yk];exact q
def yH:DF:=λds Φ=>∃(p n:Int) (cs:List au),ds=[cS p n cs]/\cs.length<=10000/\(∀prs∈cs,prs.length<=10000)/\∀f,Φ f (cS p n cs)
theorem Sb:fm yH:=by
 intro ds Φ Ψ hm z;revert hm;walk_at "mo";exact λq=>λf=>z _ _ (q f)
theorem TZ:cD ["net"] ["net"] (aT tY):=⟨rfl,rfl,rfl,by decide+kernel,rfl,by decide+kernel,by decide+kernel⟩
theorem Lp(F:bT K "copied" "copied" tY f fd)(bW:mg "list"=none):
  bx P w K mg base bO 1 f fd ["net"] (c6 1 yH):=by
 refine F.ok TZ (λvs H Q E h=>h.1) (λcdv A outer s H vs Q E hr h=>?_);obtain⟨nb,ds,Φ,u,B,D,I⟩:=kD h;obtain⟨p,n,cs,rfl,hl,g,q⟩:=I;refine⟨_,(@aL _ _ _ (@bY _ _ _ _ (@fS _ _ _ _ _ (@aa _ _ _ _ _ (@aK _ _ _ _ _ _ (e7 K) fU (pv 0) ak (λ_ _=>rfl)) (@aa _ _ _ _ _ (@aK _ _ _ _ _ _ (e7 K) fU (pv 0) ak (λ_ _=>rfl)) (@aa _ _ _ _ _ (lJ (gD.of (show jb (aT tY) ["net"] _ ["pairs"] [none]=true by decide+kernel)) (jo (K:=K) rfl (@aK _ _ _ _ _ _ (e7 K) fU (pv 0) ak (λ_ _=>rfl))) (λ_ _ _ _=>⟨(cg (i:=0) (by show da (["pairs"]:List Str);decide+kernel) rfl (aR rfl)),mh,(@iX _ _ _ _ _ _ _ _ (iA K) kU rfl bW g9 (@aa _ _ _ _ _ (pv 0) ai rfl) ⋯ ⋯ (by rfl) (by rfl))⟩)) ai rfl) rfl) rfl)))),?_⟩;refine Sv.jY u B D (ρ:=[.d false _]) rfl ?_;clear D B;rfl';refine aC.ev (aC.ny ⋯ rfl ?_);rfl';refine⟨by rw[ao];exact hl,λv=>⟨false,λi ds=>ds=(cs.take i).map gg,rfl,?_,?_⟩⟩
 .rintro i d ds hd hl' rfl;obtain⟨prs,a,rfl⟩:=mD hd;rfl';refine⟨by walk_at "wk",?_⟩;rfl';refine⟨λz=>(by cases z),?_⟩;show _=dn gg (oP (i+1) cs);rw[rr a,eN]
  rfl
 .rintro ds hl' rfl;rw[ao,j3];rfl';exact q _
def qo(C:aw):CF:=λc ds Φ=>∃(x dx l:aw) (p n:Int) (cs:List au) (wd:Wo),c=aU C x dx (fX (cS p n cs) l wd)/\ds=[]/\gc p cs wd.length/\iU wd/\wd.length<=4000/\(aG p cs wd).length<64/\Φ (aU C x dx (fX (cS p n cs) l (rn wd (aG p cs wd)))) true (dg (aG p cs wd))
theorem IE:kF (qo C):=by
 intro c ds Φ Ψ h z;obtain⟨x,dx,l,p,n,cs,wd,e1,e2,h1,h2,h3,h4,q⟩:=h;exact⟨x,dx,l,p,n,cs,wd,e1,e2,h1,h2,h3,h4,z _ _ _ q⟩
theorem qq:cD ["self","found","place","c","letter"] ["self"] (aT oE):=⟨rfl,rfl,rfl,by decide+kernel,rfl,by decide+kernel,by decide+kernel⟩
theorem KS(F:bT K "step" "Mender.step" oE f fd){aB:aw}(j:dO K aB)(y:fB K aB "net")(k:fB K aB "letters")(z:Callee P w K mg base "round_of" 5 ["net","word"] (c6 2 Ck)):
  bx P w K mg base bO 6 f fd ["self"] (dw 1 (qo aB)):=by
 refine F.ok qq (λvs H Q E h=>h.1) (λcdv A outer s H vs Q E hr h=>?_);obtain⟨_,nb,c,ws,ds,rfl,u,t,b,G,B,I⟩:=h;obtain⟨Φ,D,I⟩:∃Φ:Cu->Pd,(∀c' f d v H',Φ c' f d->mw c c' H H'->c'.P (λa=>nb a\/a∈c'.F) H'->ah (λa=>nb a\/a∈c'.F\/(f=true/\H a≠none)) H' d v->Q v H')/\qo aB c ds Φ:=⟨_,λc' f d v H' q=>q v H',I⟩;obtain⟨x,dx,l,p,n,cs,wd,rfl,rfl,hN,hW,hl,g,q⟩:=I;refine⟨_,(@az _ _ _ _ _ (@aN _ _ (1) _ _ _ _ qq.nd rfl (aR rfl) (@aX _ _ _ _ _ _ _ _ _ _ z (hr.mono ⋯) (@aa _ _ _ _ _ (@o8 _ _ _ _ _ (pv 0) rfl) (@aa _ _ _ _ _ (@o8 _ _ _ _ _ (pv 0) rfl) ai rfl) rfl) (by rfl) ⋯ (by rfl) (by rfl)) (by rfl) (by first|exact .inl rfl|exact .inr rfl|assumption)) (@az _ _ _ _ _ (@jP _ _ _ _ _ _ _ _ iM rfl (jo (K:=K) rfl (pv 1)) (@qX _ (K) _ _ _ (3) _ rfl rfl (@gy _ _ _ _ _ (cg (i:=2) qq.nd rfl (aR rfl)) (@gy _ _ _ _ _ (cg (i:=3) qq.nd rfl (aR rfl)) (@gy _ _ _ _ _ (cg (i:=4) qq.nd rfl (aR rfl)) oQ (by rfl)) (by rfl)) (by rfl)) (by rfl) (by rfl)) (@aL _ _ _ (@jc _ _ _ _ _ _ (pv 4) (jz (@o8 _ _ _ _ _ (pv 0) rfl) (pv 2) set_list) (by rfl) (by rfl) (by rfl))) (by intro _;rfl)) (@aL _ _ _ (@bY _ _ _ _ (pv 1))))),?_⟩;refine Sv.ou u t b G B D (ρ:=[.cu _, .no, .no, .no, .no]) rfl ?_;clear D B;have p2:=hN.1.1;refine Sv.seq ?_;refine Sv.asg ?_;refine Ev.SY Pz ?_;refine jh.cons (Ev.fld rfl j y rfl ?_);refine jh.fld rfl j k rfl ?_;refine jh.nil ?_;refine⟨rfl,p,n,cs,wd,rfl,hN,hW,hl,g, .inl rfl,?_⟩;refine Gv.name ?_;refine Sv.seq ?_;refine Sv.forL ?_;refine Ev.var rfl ?_;refine⟨_,rfl,λv=>⟨λi ρ=>∃(C r o:Sl),ρ=[.cu (aU aB x dx (fX (cS p n cs) l (rn wd ((aG p cs wd).take i)))), .d true (dg (aG p cs wd)),C,r,o],⟨_,_,_,rfl⟩,?_,?_⟩⟩
 .rintro i d ρ hd ⟨C,r,o,rfl⟩;obtain⟨m,hm,rfl⟩:=mD hd;obtain⟨b1,b2,b3,b4,b5⟩:=nX ∅ (dz hm) hN.rg;generalize eX:(fk (bE 4) _:TS)=tl;rfl';subst eX;refine Sv.Je rfl j k rfl ?_;rfl';refine⟨_,m.1.toNat,rfl,uD b1 (by rw[ao,kO];omega),?_⟩;have e:((rn wd ((aG p cs wd).take i)).map gx).set m.1.toNat (.int m.2.2)=(rn wd ((aG p cs wd).take (i+1))).map gx:=by
   rw[rr hm,uq];show _=((rn wd ((aG p cs wd).take i)).set m.1.toNat (some m.2.2)).map gx;rw[wJ]
   rfl
  rw[e,HM];exact⟨_,_,_,rfl⟩
 .rintro ρ ⟨C,r,o,rfl⟩;rw[ao,j3];refine Sv.qO (aQ.of ?_);refine Ev.var rfl ?_;intro ay v' H' hv;exact⟨_,_,_,rfl,⟨rfl,rfl,λa m=>m⟩,q,hv⟩
def nH(C:aw):CF:=λc ds Φ=>∃(x dx l:aw) (p n:Int) (cs:List au) (wd:Wo),c=aU C x dx (fX (cS p n cs) l wd)/\ds=[]/\gc p cs wd.length/\iU wd/\wd.length<=4000/\(∀r∈dm p cs wd,r.length<64)/\Φ (aU C x dx (fX (cS p n cs) l (gw p cs wd))) true (.list ((dm p cs wd).map dg))
theorem zk:kF (nH C):=by
 intro c ds Φ Ψ h z;obtain⟨x,dx,l,p,n,cs,wd,e1,e2,h1,h2,h3,h4,q⟩:=h;exact⟨x,dx,l,p,n,cs,wd,e1,e2,h1,h2,h3,h4,z _ _ _ q⟩
theorem xm:cD ["self","rounds","found"] ["self"] (aT oq):=⟨rfl,rfl,rfl,by decide+kernel,rfl,by decide+kernel,by decide+kernel⟩
theorem UU(F:bT K "mend" "Mender.mend" oq f fd){aB:aw}(j:iC P w K mg base aB "step" 6 ["self"] (dw 1 (qo aB))):
  bx P w K mg base bO 7 f fd ["self"] (dw 1 (nH aB)):=by
 refine F.ok xm (λvs H Q E h=>h.1) (λcdv A outer s H vs Q E hr h=>?_);obtain⟨_,nb,c,ws,ds,rfl,u,t,b,G,B,I⟩:=h;obtain⟨Φ,D,I⟩:∃Φ:Cu->Pd,(∀c' f d v H',Φ c' f d->mw c c' H H'->c'.P (λa=>nb a\/a∈c'.F) H'->ah (λa=>nb a\/a∈c'.F\/(f=true/\H a≠none)) H' d v->Q v H')/\nH aB c ds Φ:=⟨_,λc' f d v H' q=>q v H',I⟩;obtain⟨x,dx,l,p,n,cs,wd,rfl,rfl,hN,hW,hl,g,q⟩:=I;refine⟨_,(@az _ _ _ _ _ (@aN _ _ (1) _ _ _ _ xm.nd rfl (aR rfl) (@fO _ _ _ _ ai) (by rfl) (by first|exact .inl rfl|exact .inr rfl|assumption)) (@az _ _ _ _ _ (@aN _ _ (2) _ _ _ _ xm.nd rfl (aR rfl) (@lE _ _ _ _ _ _ _ _ _ _ _ j (pv 0) (hr.mono ⋯) (by rfl)) (by rfl) (by first|exact .inl rfl|exact .inr rfl|assumption)) (@az _ _ _ _ _ (@CD _ _ _ _ _ _ iM (@cU _ _ _ _ _ _ _ _ (Eo hr.units) (pv 2) (@fO _ _ _ _ ai) (cA _)) (@az _ _ _ _ _ (@lP _ _ _ _ (lz mG qB rO oZ (pv 1) (@aa _ _ _ _ _ (pv 2) ai rfl)) (by rfl)) (@aL _ _ _ (@aN _ _ (2) _ _ _ _ xm.nd rfl (aR rfl) (@lE _ _ _ _ _ _ _ _ _ _ _ j (pv 0) (hr.mono ⋯) (by rfl)) (by rfl) (by first|exact .inl rfl|exact .inr rfl|assumption))))) (@aL _ _ _ (@bY _ _ _ _ (pv 1)))))),?_⟩;refine Sv.ou u t b G B D (ρ:=[.cu _, .no, .no]) rfl ?_;clear D B;have p2:=hN.1.1;have i:∀{w:Wo} {st:List (List aZ)},w.length=wd.length->st++dm p cs w=dm p cs wd->(aG p cs w).length<64:=λ{w st} hw e=>by
  by_cases c:aG p cs w=[];·rw[c];decide
  .refine g _ ?_;rw[<-e,mE ∅ (by rw[hw];exact hN.rg) c];exact iG _ cQ
 have key:∀{w:Wo},w.length=wd.length->gc p cs w.length:=λ{w} h=>by rw[h];exact hN
 refine Sv.seq ?_;refine Sv.rY ?_;intro A1;refine Sv.seq ?_;refine Sv.tF (aQ.kW IE rfl rfl (aU.is rfl) ?_);refine Av.nil ?_;refine⟨rfl,x,dx,l,p,n,cs,wd,rfl,rfl,hN,hW,hl,i (st:=[]) rfl rfl,?_⟩;refine Gv.name ?_;refine Sv.seq ?_;refine Sv.D8 (λρ=>∃(w:Wo) (st:List (List aZ)),w.length=wd.length/\iU w/\st++dm p cs w=dm p cs wd/\gw p cs w=gw p cs wd/\ρ=[.cu (aU aB x dx (fX (cS p n cs) l (rn w (aG p cs w)))), .own A1 true (st.map dg), .d true (dg (aG p cs w))]) (λ(ρ:Rh)=>match ρ[1]? with|some (Sl.own _ _ ds)=>wd.length-ds.length|_=>0) ⟨wd,[],rfl,hW,rfl,rfl,rfl⟩ ?_;rintro ρ' ⟨w,st,hwl,hwW,h1,h2,rfl⟩;have kX:=key hwl;rfl';refine⟨GI _,FD,_,rfl,?_⟩;rw[lC,E7];by_cases c:aG p cs w=[]
 .rw[if_neg (by rw[decide_eq_true c];simp)];rw[oR c,fT] at h1;rw[tD c] at h2;subst h1 h2;rw[c];refine Sv.l8 1 rfl ?_;refine Sv.qO (aQ.of ?_);refine Ev.var rfl ?_;intro ay v' H' hv;exact⟨_,_,_,rfl,⟨rfl,rfl,λa m=>m⟩,q,hv⟩
 rw[if_pos (by rw[decide_eq_false c];rfl)];have hl':=RB (p:=p) (cs:=cs) (wd:=wd);rw[<-h1,mE ∅ kX.rg c,fq,cH] at hl';rw[mE ∅ kX.rg c] at h1;rw[Aw ∅ kX.rg c] at h2;have k:gc p cs (rn w (aG p cs w)).length:=by rw[kO];exact kX
 have Fx:=L5 kX hwW;refine Sv.seq ?_;refine Sv.append rfl ?_;refine Ev.var rfl ?_;refine⟨by rw[ao];omega,?_⟩;refine Sv.tF (aQ.kW IE rfl rfl (aU.is rfl) ?_);refine Av.nil ?_;refine⟨rfl,x,dx,l,p,n,cs,rn w (aG p cs w),rfl,rfl,k,Fx,by rw[kO,hwl];exact hl,i (st:=st++[aG p cs w]) (by rw[kO];exact hwl) (by rw[vL];exact h1),?_⟩;refine Gv.name ?_;refine⟨⟨rn w (aG p cs w),st++[aG p cs w],by rw[kO];exact hwl,Fx,by rw[vL];exact h1,h2,by rw[eN];rfl⟩,?_⟩;show wd.length-(dn dg st++[_]).length<wd.length-(dn dg st).length;rw[fq,o6,ao];omega
def mY(C:aw):CF:=λc ds Φ=>∃(x dx l:aw) (nd:PyData) (wd:Wo),c=aU C x dx (fX nd l wd)/\ds=[]/\Φ (aU C x dx (fX nd l wd)) true (ff wd)
theorem yo:kF (mY C):=by
 intro c ds Φ Ψ h z;obtain⟨x,dx,l,nd,wd,e1,e2,q⟩:=h;exact⟨x,dx,l,nd,wd,e1,e2,z _ _ _ q⟩
theorem Q9:cD ["self"] ["self"] (aT pN):=⟨rfl,rfl,rfl,by decide+kernel,rfl,by decide+kernel,by decide+kernel⟩
theorem Nt(F:bT K "word" "Mender.word" pN f fd){aB:aw}(j:dO K aB)(k:fB K aB "letters")(bW:mg "list"=none):
  bx P w K mg base bO 1 f fd ["self"] (dw 1 (mY aB)):=by
 refine F.ok Q9 (λvs H Q E h=>h.1) (λcdv A outer s H vs Q E hr h=>?_);obtain⟨_,nb,c,ws,ds,rfl,u,t,b,G,B,I⟩:=h;obtain⟨Φ,D,I⟩:∃Φ:Cu->Pd,(∀c' f d v H',Φ c' f d->mw c c' H H'->c'.P (λa=>nb a\/a∈c'.F) H'->ah (λa=>nb a\/a∈c'.F\/(f=true/\H a≠none)) H' d v->Q v H')/\mY aB c ds Φ:=⟨_,λc' f d v H' q=>q v H',I⟩;obtain⟨x,dx,l,nd,wd,rfl,rfl,q⟩:=I;refine⟨_,(@aL _ _ _ (@bY _ _ _ _ (@iX _ _ _ _ _ _ _ _ (iA K) kU rfl bW g9 (@aa _ _ _ _ _ (@o8 _ _ _ _ _ (pv 0) rfl) ai rfl) ⋯ ⋯ (by rfl) (by rfl)))),?_⟩;refine Sv.ou u t b G B D (ρ:=[.cu _]) rfl ?_;clear D B;refine Sv.qO (aQ.of (aC.ev (aC.Pw rfl j k rfl ?_)));rw[MM];intro ay v' H' hv;exact⟨_,_,_,rfl,⟨rfl,rfl,λa m=>m⟩,q,hv⟩
def pJ(C:aw):CF:=λc ds Φ=>∃(x dx:aw) (p n:Int) (cs:List au) (wd:Wo),c=aU C x dx []/\ds=[cS p n cs,ff wd]/\cs.length<=10000/\(∀prs∈cs,prs.length<=10000)/\∀l,Φ (aU C x dx (fX (cS p n cs) l wd)) true .none
theorem DJ:kF (pJ C):=by
 intro c ds Φ Ψ h z;obtain⟨x,dx,p,n,cs,wd,e1,e2,h1,h2,q⟩:=h;exact⟨x,dx,p,n,cs,wd,e1,e2,h1,h2,λl=>z _ _ _ (q l)⟩
theorem QY:cD ["self","net","word"] ["self","net","word"] (aT nY):=⟨rfl,rfl,rfl,by decide+kernel,rfl,by decide+kernel,by decide+kernel⟩
theorem PK(F:bT K "__init__" "Mender.__init__" nY f fd){aB:aw}(j:dO K aB)(y:fB K aB "net")(k:fB K aB "letters")(e:Callee P w K mg base "copied" 1 ["net"] (c6 1 yH))(bW:mg "list"=none):
  bx P w K mg base bO 2 f fd ["self","net","word"] (dw 3 (pJ aB)):=by
 refine F.ok QY (λvs H Q E h=>h.1) (λcdv A outer s H vs Q E hr h=>?_);obtain⟨_,nb,c,ws,ds,rfl,u,t,b,G,B,I⟩:=h;obtain⟨Φ,D,I⟩:∃Φ:Cu->Pd,(∀c' f d v H',Φ c' f d->mw c c' H H'->c'.P (λa=>nb a\/a∈c'.F) H'->ah (λa=>nb a\/a∈c'.F\/(f=true/\H a≠none)) H' d v->Q v H')/\pJ aB c ds Φ:=⟨_,λc' f d v H' q=>q v H',I⟩;obtain⟨x,dx,p,n,cs,wd,rfl,rfl,hl,g,q⟩:=I;refine⟨_,(@az _ _ _ _ _ (@G0 _ _ _ _ _ _ _ _ (pv 0) (@aX _ _ _ _ _ _ _ _ _ _ e (hr.mono ⋯) (@aa _ _ _ _ _ (pv 1) ai rfl) (by rfl) ⋯ (by rfl) (by rfl)) rfl) (@aL _ _ _ (@G0 _ _ _ _ _ _ _ _ (pv 0) (@iX _ _ _ _ _ _ _ _ (iA K) kU rfl bW g9 (@aa _ _ _ _ _ (pv 2) ai rfl) ⋯ ⋯ (by rfl) (by rfl)) rfl))),?_⟩;refine Sv.ou u t b G B D (ρ:=[.cu _, .d false _, .d false _]) rfl ?_;clear D B;refine Sv.seq ?_;refine Sv.Om rfl j y (.inl rfl) ⋯ ?_;refine Ev.gv Sb ?_;rfl';refine⟨rfl,p,n,cs,rfl,hl,g,λf=>?_⟩;refine Sv.KZ rfl j k rfl (AU rfl) ?_;refine aC.listOf ?_;rfl';intro l;exact⟨_,rfl,⟨rfl,rfl,λa m=>mU [l] m⟩,q l⟩
def xO:DF:=λds Φ=>∃(p n:Int) (cs:List au) (wd:Wo),ds=[cS p n cs,ff wd]/\gc p cs wd.length/\iU wd/\wd.length<=4000/\(∀r∈dm p cs wd,r.length<64)/\Φ true (.tuple [ff (gw p cs wd), .list ((dm p cs wd).map dg)])
theorem Mx:fm xO:=by
 intro ds Φ Ψ hm z;revert hm;walk_at "mo";exact λq=>z _ _ q
theorem zw:cD ["net","word","mender","rounds"] ["net","word"] (aT CI):=⟨rfl,rfl,rfl,by decide+kernel,rfl,by decide+kernel,by decide+kernel⟩
theorem Ly(F:bT K "mended" "mended" CI f fd){aB:aw}(qZ:iC P w K mg base aB "mend" 7 ["self"] (dw 1 (nH aB)))(qb:iC P w K mg base aB "word" 1 ["self"] (dw 1 (mY aB)))(ym:wF P w K mg base aB "Mender" 2 ["self","net","word"] (dw 3 (pJ aB))):
  bx P w K mg base bO 8 f fd ["net","word"] (c6 2 xO):=by
 refine F.ok zw (λvs H Q E h=>h.1) (λcdv A outer s H vs Q E hr h=>?_);obtain⟨nb,ds,Φ,u,B,D,I⟩:=kD h;obtain⟨p,n,cs,wd,rfl,hN,hW,hl,g,q⟩:=I;refine⟨_,(@az _ _ _ _ _ (@aN _ _ (2) _ _ _ _ zw.nd rfl (aR rfl) (@Jl _ _ _ _ _ _ _ _ _ _ _ ym (hr.mono ⋯) (@aa _ _ _ _ _ (pv 0) (@aa _ _ _ _ _ (pv 1) ai rfl) rfl) (by rfl) ⋯ (by rfl) (by rfl)) (by rfl) (by first|exact .inl rfl|exact .inr rfl|assumption)) (@az _ _ _ _ _ (@aN _ _ (3) _ _ _ _ zw.nd rfl (aR rfl) (@lE _ _ _ _ _ _ _ _ _ _ _ qZ (pv 2) (hr.mono ⋯) (by rfl)) (by rfl) (by first|exact .inl rfl|exact .inr rfl|assumption)) (@aL _ _ _ (@bY _ _ _ _ (@fS _ _ _ _ _ (@aa _ _ _ _ _ (@lE _ _ _ _ _ _ _ _ _ _ _ qb (pv 2) (hr.mono ⋯) (by rfl)) (@aa _ _ _ _ _ (pv 3) ai rfl) rfl)))))),?_⟩;refine Sv.jY u B D (ρ:=[.d false _, .d false _, .no, .no]) rfl ?_;clear D B;have hcl:=hN.2.2.1;refine Sv.seq ?_;refine Sv.make DJ ?_;rfl';refine⟨rfl,λx dx=>⟨x,dx,p,n,cs,wd,rfl,rfl,∅,λprs hp=>by have:=(hN.2.2.2 prs hp).1;omega,λl=>⟨rfl,?_⟩⟩⟩;refine Sv.seq ?_;refine Sv.tF (aQ.kW zk rfl rfl (aU.is rfl) ?_);refine Av.nil ?_;refine⟨rfl,x,dx,l,p,n,cs,wd,rfl,rfl,hN,hW,hl,g,?_⟩;refine Gv.name ?_;refine Sv.retS (aQ.tup ?_);refine lq.cons (aQ.kW yo rfl rfl (aU.is rfl) ?_);refine Av.nil ?_;refine⟨rfl,x,dx,l,_,gw p cs wd,rfl,rfl,?_⟩;rfl';exact q
theorem ur:cD ["script","stir","cell"] ["script"] (aT ug):=⟨rfl,rfl,rfl,by decide+kernel,rfl,by decide+kernel,by decide+kernel⟩
theorem Ub(F:bT K "_law_bag" "_law_bag" ug f fd)(yy:mg "abs"=none):
  bx P w K mg base bO 1 f fd ["script"] (Ez K):=by
 refine F.ok ur (λvs H Q E h=>?_) (λcdv A outer s H vs Q E hr h=>?_)
 .obtain⟨a,ns,rfl,N,hl,q⟩:=h
  rfl
 obtain⟨a,ns,rfl,N,hl,q⟩:=h;refine⟨_,(@az _ _ _ _ _ (@aN _ _ (1) _ _ _ _ ur.nd rfl (aR rfl) ak (by rfl) (by first|exact .inl rfl|exact .inr rfl|assumption)) (@az _ _ _ _ _ (@jP _ _ _ _ _ _ _ _ iM rfl (jo (K:=K) rfl (@Cf _ _ _ _ _ _ _ _ _ _ B9 (pv 0) zY (@xN _ _ _ ak))) (cg (i:=2) ur.nd rfl (aR rfl)) (@aL _ _ _ (@aN _ _ (1) _ _ _ _ ur.nd rfl (aR rfl) (@aH _ _ _ _ _ _ _ _ gY (@aH _ _ _ _ _ _ _ _ eB (@aH _ _ _ _ _ _ _ _ eB (@aH _ _ _ _ _ _ _ _ iz (pv 1) ak) (@aH _ _ _ _ _ _ _ _ gY (pv 2) ak)) ak) ak) (by rfl) (by first|exact .inl rfl|exact .inr rfl|assumption))) (by intro _;rfl)) (@aL _ _ _ (@bY _ _ _ _ (@fO _ _ _ _ (@aa _ _ _ _ _ (lJ (gD.of (show jb (aT ug) ["script","stir","cell"] _ ["cell"] [none]=true by decide+kernel)) (jo (K:=K) rfl (@Cf _ _ _ _ _ _ _ _ _ _ B9 (pv 0) zY (@xN _ _ _ ak))) (λ_ _ _ _=>⟨(cg (i:=0) (by show da (["cell"]:List Str);decide+kernel) rfl (aR rfl)),mh,(@aH _ _ _ _ _ _ _ _ gY (@cM _ _ _ _ _ _ _ _ _ O3 rfl yy oT (@aa _ _ _ _ _ (pv 0) ai rfl) ⋯ ⋯ (by rfl) (by rfl)) (@aH _ _ _ _ _ _ _ _ uS ak ak))⟩)) (@aa _ _ _ _ _ ak (@aa _ _ _ _ _ ak (@aa _ _ _ _ _ (pv 1) (@aa _ _ _ _ _ ak ai rfl) rfl) rfl) rfl) rfl)))))),?_⟩;have d:jQ (ns.map V.int) none (some 63)=ns.map V.int:=by
  have e:(ns.map V.int).length=ns.length:=ao _;show oP (min 63 (ns.map V.int).length-0) (List.drop 0 (ns.map V.int))=_;rw[List.drop_zero];exact sC ∅
 walk_at "st";refine R.Im N λc hc=>?_;rw[d];refine R.uH (aS.of aY) ?_;refine JM (xs:=ns.map V.int) (λi σ H1=>∃(st:Int) (x:Option V),σ=[some (.ref a),some (.int st),x]/\0<=st/\st<2147483647/\H1=upd H c (.lst (ns.map V.int))) ⟨19,none,rfl,∅,∅,rfl⟩ ?_ ?_ ?_
 .rintro i σ H1 hi ⟨st,x,rfl,h1,h2,rfl⟩;exact aS.of aY
 .rintro i x σ H1 hx ⟨st,y,rfl,h1,h2,rfl⟩;rw[bC] at hx;obtain⟨n,_,rfl⟩:=oS.mp hx;walk_at "st";exact⟨_,_,rfl,ig _ ⋯,gV _ ⋯,rfl⟩
 .rintro σ H1 ⟨st,x,rfl,h1,h2,rfl⟩;walk_at "st";refine R.Im ((cP hc).seq N) λc2 b=>?_;rw[d];refine R.uH (aS.of aY) ?_;intro acc hacc;refine R.Ef (xs:=ns.map V.int) (λi σ H2=>∃(x:Option V),σ=[x]/\H2=upd (upd (upd H c (.lst (ns.map V.int))) c2 (.lst (ns.map V.int))) acc (.lst (((ns.take i).map λn=>(if n<0 then-n else n)%10^60).map V.int))) ⟨none,rfl,rfl⟩ ?_ ?_ ?_
  .rintro i σ H1 hi ⟨x,rfl,rfl⟩;refine aS.of ?_;rw[bA (gM aY hacc)];exact aY
  .rintro i x σ H1 hx ⟨y,rfl,rfl⟩;rw[bC] at hx;obtain⟨n,hn,rfl⟩:=oS.mp hx;walk_at "st";refine⟨_,aY,?_,_,rfl,?_⟩
   .rw[ao,ao,oO];exact GY ∅
   .rw[CB,ye,hn,eN,eN]
    rfl
  .rintro σ H1 ⟨x,rfl,rfl⟩;walk_at "st";refine(show zM _ _ _ from⟨by show 5<=sizeLine;decide,λp hp=>?_⟩);have hn1:=gM (aY (H:=upd (upd H c (.lst (ns.map V.int))) c2 (.lst (ns.map V.int))) (a:=acc)) hp;have s1:cR H (upd (upd (upd H c (.lst (ns.map V.int))) c2 (.lst (ns.map V.int))) acc (.lst (((ns.take (ns.map V.int).length).map λn=>(if n<0 then-n else n)%10^60).map V.int))):=(cP hc).trans ((cP b).trans (cP hacc));refine q p acc _ (s1.trans (cP hp)) (s1.free hp) ⟨_,0,0,st,0,aY,by rw[bA hn1];exact aY,?_,?_,∅,∅,∅,h1,h2⟩
   .intro y hy;obtain⟨z,_,rfl⟩:=cF.mp hy;exact⟨ig _ ⋯,gV _ ⋯⟩
   .rw[ao,oO];omega
theorem Du:cD ["bag","many","found"] ["bag","many"] (aT yR):=⟨rfl,rfl,rfl,by decide+kernel,rfl,by decide+kernel,by decide+kernel⟩
theorem Lj(F:bT K "_law_draw" "_law_draw" yR f fd)(bV:mg "len"=none):
  bx P w K mg base bO 1 f fd ["bag","many"] j5:=by
 refine F.ok Du (λvs H Q E h=>?_) (λcdv A outer s H vs Q E hr h=>?_)
 .obtain⟨b,l,many,rfl,M,hm,O,q⟩:=h
  rfl
 obtain⟨b,l,many,rfl,M,hm,O,q⟩:=h;refine⟨_,(@az _ _ _ _ _ (@fG _ _ _ _ _ _ _ _ (PW.pt (vQ (@cU _ _ _ _ _ _ _ _ jZ (@aK _ _ _ _ _ _ _ bD (pv 0) ak (λ_ _=>rfl)) ak (cA _)) (w4 (@cU _ _ _ _ _ _ _ _ wN (@aK _ _ _ _ _ _ _ bD (pv 0) ak (λ_ _=>rfl)) (@cM _ _ _ _ _ _ _ _ _ Gf rfl bV g8 (@aa _ _ _ _ _ (@aK _ _ _ _ _ _ _ bD (pv 0) ak (λ_ _=>rfl)) ai rfl) ⋯ ⋯ (by rfl) (by rfl)) (cA _))))) (@az _ _ _ _ _ (@jc _ _ _ _ _ _ (@aK _ _ _ _ _ _ _ bD (@aK _ _ _ _ _ _ _ bD (pv 0) ak (λ_ _=>rfl)) (@aK _ _ _ _ _ _ _ bD (pv 0) ak (λ_ _=>rfl)) (λ_ _=>rfl)) (jz (pv 0) ak set_list) (by rfl) (by rfl) (by rfl)) (@aL _ _ _ (@jc _ _ _ _ _ _ (@aH _ _ _ _ _ _ _ _ eB (@aK _ _ _ _ _ _ _ bD (pv 0) ak (λ_ _=>rfl)) ak) (jz (pv 0) ak set_list) (by rfl) (by rfl) (by rfl)))) (@aL _ _ _ (@fG _ _ _ _ _ _ _ _ (@cU _ _ _ _ _ _ _ _ jZ (@aK _ _ _ _ _ _ _ bD (pv 0) ak (λ_ _=>rfl)) ak (cA _)) (@az _ _ _ _ _ (@jc _ _ _ _ _ _ (@aH _ _ _ _ _ _ _ _ eB (@aK _ _ _ _ _ _ _ bD (pv 0) ak (λ_ _=>rfl)) ak) (jz (pv 0) ak set_list) (by rfl) (by rfl) (by rfl)) (@az _ _ _ _ _ (@jc _ _ _ _ _ _ (@aH _ _ _ _ _ _ _ _ gY (@aH _ _ _ _ _ _ _ _ eB (@aH _ _ _ _ _ _ _ _ eB (@aH _ _ _ _ _ _ _ _ eB (@aH _ _ _ _ _ _ _ _ uS (@aK _ _ _ _ _ _ _ bD (pv 0) ak (λ_ _=>rfl)) ak) (@aH _ _ _ _ _ _ _ _ iz ak (@aK _ _ _ _ _ _ _ bD (pv 0) ak (λ_ _=>rfl)))) (@aH _ _ _ _ _ _ _ _ iz ak (@aK _ _ _ _ _ _ _ bD (pv 0) ak (λ_ _=>rfl)))) ak) ak) (jz (pv 0) ak set_list) (by rfl) (by rfl) (by rfl)) (@aL _ _ _ (@bY _ _ _ _ (@aH _ _ _ _ _ _ _ _ gY (@aH _ _ _ _ _ _ _ _ oJ (@aK _ _ _ _ _ _ _ bD (pv 0) ak (λ_ _=>rfl)) ak) (pv 1)))))) fR))) (@az _ _ _ _ _ (@aN _ _ (2) _ _ _ _ Du.nd rfl (aR rfl) (@aH _ _ _ _ _ _ _ _ gY (@aK _ _ _ _ _ _ _ bD (pv 0) ak (λ_ _=>rfl)) (pv 1)) (by rfl) (by first|exact .inl rfl|exact .inr rfl|assumption)) (@az _ _ _ _ _ (@jc _ _ _ _ _ _ (@aH _ _ _ _ _ _ _ _ oJ (@aK _ _ _ _ _ _ _ bD (pv 0) ak (λ_ _=>rfl)) (pv 1)) (jz (pv 0) ak set_list) (by rfl) (by rfl) (by rfl)) (@aL _ _ _ (@bY _ _ _ _ (pv 2)))))),?_⟩;obtain⟨ns,i,c,st,n,h1,h2,h3,h4,h5,d,e,j,g⟩:=id M;have hlb:=RZ h1 h2
 have fin:∀(H1:Hp) (k c':Int),H1 b=some (.lst [.ref l, .int k, .int c', .int st, .int n])->aP (Nb b) H H1->0<=k->0<=c'->c'<10^60->
   ∀(H2:Hp),H2=upd H1 b (.lst [.ref l, .int k, .int (c'/many), .int st, .int n])->Q (.int (c'%many)) H2:=λH1 k c' e1 bt g1 g2 U H2 e2=>by
  subst e2;have a:0<=c'/many:=vm g2 ∅;have hd2:c'/many<=c':=Ai _ g2;exact q _ _ (ig _ ∅) (gV _ hm) (bt.trans (aP.set rfl)) (cZ.put hlb (bt _ _ hlb h2) h3 h4 g1 a ∅ j g)
 walk_at "st";refine oV (λc1=>?_) (λc1=>?_)
 .have c1:c=0:=of_decide_eq_true c1;walk_at "st";refine oV (λc2=>?_) (λc2=>?_)
  .have c2:i<(dn V.int ns).length:=of_decide_eq_true c2;rw[ao] at c2;have hi:i.toNat<ns.length:=∅
   obtain⟨g1,g2⟩:=h3 _ (dP hi);walk_at "st";refine R.vh h2 (v:= .int ns[i.toNat]) (fL h5 (by rw[bC,aA hi];rfl)) ?_;walk_at "st";refine fin (upd H b (.lst [.ref l, .int (i+1), .int ns[i.toNat], .int st, .int n])) (i+1) ns[i.toNat] aY (aP.set rfl) ∅ g1 g2 _ ?_;rw[CB]
   rfl
  .walk_at "st";exact q _ _ (ig _ ∅) (gV _ hm) (aP.set rfl) (cZ.put hlb h2 h3 h4 h5 d e (ig _ ⋯) (gV _ ⋯))
 .have c1:¬c=0:=of_decide_eq_false (AY.mpr c1);walk_at "st";exact fin H i c h1 (aP.refl _ _) h5 d e _ rfl
theorem SV(is:List Int):eA (.list (is.map aF)) (.list [])=decide (is=[]):=by
 cases is<;>simp[eA,oo]
theorem JZ(is:List Int):cK (.list (is.map aF))=true:=by
 have h:dr (is.map aF)=0/\cf (is.map aF)=true:=by
  induction is with
  |nil=>simp[dr,cf]
  |cons a r ih=>simp[dr,g5,cf,df,ih.2,ih.1]
 unfold cK;simp[df,g5,h.2,h.1]
theorem Hv{nb:aw->Prop}{H:Hp}:∀is:List Int,af nb H (is.map aF) (is.map V.int)
 |[]=>af.nil
 |i::is=>af.cons (.int i) (Hv is)
theorem Lc{r:Int}(h0:r<=10100)(h:∀d:Int,2<=d->d<102->¬(d*d<=r/\r%d=0)):vR r:=λd d1 d2 e=>by
 by_cases hd:d<102;·exact h d d1 hd ⟨d2,e⟩
 .have:102*102<=d*d:=vg ∅ ∅ ∅ ∅;omega
theorem JV:cD ["number","found"] ["number"] (aT tK):=⟨rfl,rfl,rfl,by decide+kernel,rfl,by decide+kernel,by decide+kernel⟩
theorem Mu(F:bT K "_law_prime_from" "_law_prime_from" tK f fd)(cL:mg "range"=none):
  bx P w K mg base bO 1 f fd ["number"] ya:=by
 refine F.ok JV (λvs H Q E h=>?_) (λcdv A outer s H vs Q E hr h=>?_)
 .obtain⟨n,rfl,hn1,M,q⟩:=h
  rfl
 obtain⟨n,rfl,hn1,M,q⟩:=h;refine⟨_,(@az _ _ _ _ _ (@jP _ _ _ _ _ _ _ _ iM rfl (@tw _ _ _ _ _ _ _ rfl cL (@aa _ _ _ _ _ (pv 0) (@aa _ _ _ _ _ (@aH _ _ _ _ _ _ _ _ eB (pv 0) ak) ai rfl) rfl) (by rfl) (by rfl)) (cg (i:=1) JV.nd rfl (ee rfl)) (@aL _ _ _ (@fG _ _ _ _ _ _ _ _ (@cU _ _ _ _ _ _ _ _ (Tq hr.units) (lJ (gD.of (show jb (aT tK) ["number","found"] _ ["k","found"] [none,some 1]=true by decide+kernel)) (@tw _ _ _ _ _ _ _ rfl cL (@aa _ _ _ _ _ ak (@aa _ _ _ _ _ ak ai rfl) rfl) (by rfl) (by rfl)) (λ_ _ _ _=>⟨(cg (i:=0) (by show da (["k","found"]:List Str);decide+kernel) rfl (aR rfl)),(zF (PW.pt (vQ (@cU _ _ _ _ _ _ _ _ Ur (@aH _ _ _ _ _ _ _ _ iz (pv 0) (pv 0)) (pv 1) (cA _)) (w4 (@cU _ _ _ _ _ _ _ _ jZ (@aH _ _ _ _ _ _ _ _ gY (pv 1) (pv 0)) ak (cA _)))))),(pv 0)⟩)) (@fO _ _ _ _ ai) (cA _)) (@aL _ _ _ (@bY _ _ _ _ (pv 1))) fR)) (by intro _;rfl)) (@aL _ _ _ (@bY _ _ _ _ ak))),?_⟩;walk_at "st";refine C9 (λi σ H1=>cR H H1/\∃(x:Option V),σ=[some (.int n),x]) ⟨cR.refl _,none,rfl⟩ ?_ ?_
 .rintro i σ H1 hi ⟨s1,x,rfl⟩;have b:(i:Int)<60:=∅
  walk_at "st";intro acc hacc;refine R.Ao (λj σ H2=>cR H1 H2/\(∃x:Option V,σ=[x,some (.int (n+i))])/\∃is:List Int,H2 acc=some (.lst (is.map V.int))/\is.length<=j/\(is=[]->∀d:Int,2<=d->d<2+j->¬(d*d<=n+i/\(n+i)%d=0))) ?_ ?_ ?_;·exact⟨cP hacc,⟨none,rfl⟩,[],aY,iE _,λ_ d d1 d2=>∅⟩
  .rintro j σ H2 hj ⟨s2,⟨x,rfl⟩,is,e2,l2,h2⟩;have hj2:(j:Int)<100:=∅
   have next:∀d:Int,d<2+((j+1:Nat):Int)->d<2+j\/d=2+j:=λd h=>∅
   walk_at "st";refine oV (λc1=>?_) (λc1=>?_)
   .have c1:(2+(j:Int))*(2+j)<=n+i:=of_decide_eq_true c1;walk_at "st";refine oV (λc2=>?_) (λc2=>?_)
    .have c2:(n+i)%(2+(j:Int))=0:=of_decide_eq_true c2;walk_at "st";refine⟨_,e2,?_,?_,⟨_,rfl⟩,is++[2+(j:Int)],?_,?_,λe=>?_⟩;·rw[ao];exact GY ∅
     .exact λa o h=>by rw[bA (gM h hacc)];exact s2 _ _ h
     .rw[aY,eN];rfl
     .rw[fq,o6];omega
     .simp at e
    .have c2:¬(n+i)%(2+(j:Int))=0:=of_decide_eq_false (AY.mpr c2);refine⟨s2,⟨_,rfl⟩,is,e2,∅,λe d d1 d2=>?_⟩;rcases next d d2 with h|h
     .exact h2 e d d1 h
     .rw[h];exact λz=>c2 z.2
   .have c1:¬(2+(j:Int))*(2+j)<=n+i:=of_decide_eq_false (AY.mpr c1);walk_at "st";refine⟨s2,⟨_,rfl⟩,is,e2,∅,λe d d1 d2=>?_⟩;rcases next d d2 with h|h
    .exact h2 e d d1 h
    .rw[h];exact λz=>c1 z.1
  .rintro σ H2 ⟨s2,⟨x,rfl⟩,is,e2,l2,h2⟩;walk_at "st";refine R.RX ⋯ λp H3 U l e3=>?_;refine⟨λ_=>False, .list (is.map aF), .list [], .lst id (U _ _ e2) (Hv is), .lst id e3 af.nil,JZ is,⋯,?_⟩;rw[SV];walk_at "st";have s:cR H H3:=s1.trans (s2.trans U);refine oV (λc=>?_) (λc=>?_)
   .have c:is=[]:=by simpa using c
    walk_at "st";exact q _ _ s ∅ ∅ (Lc ∅ λd d1 d2=>h2 c d d1 ∅)
   .walk_at "st";exact⟨s,_,rfl⟩
 .rintro σ H1 ⟨s1,x,rfl⟩;walk_at "st";refine q _ _ s1 ∅ ∅ λd d1 d2=>?_;have:2*2<=d*d:=vg d1 d1 ∅ ∅;omega
def zJ:DF:=λds Φ=>ds=[]/\∀p:Int,fK p->p<10^40->∀f,Φ f (.int p)
theorem M6:fm zJ:=by
 intro ds Φ Ψ hm z;revert hm;walk_at "mo";exact λq=>λp h1 h2 f=>z _ _ (q p h1 h2 f)
theorem Sx:∀x∈([2,3,5,7,2,11,101,10007,65537,1000003,998244353,1000000007,2147483647,1000000000039,10^mn 39+3,10^mn 40-17,2305843009213693951,618970019642690137449562111,162259276829213363391578010288127,170141183460469231731687303715884105727]:List Int),x∈sM/\x<10^40:=⋯
theorem p9:cD ["bag","some","way"] ["bag"] (aT yi):=⟨rfl,rfl,rfl,by decide+kernel,rfl,by decide+kernel,by decide+kernel⟩
theorem Rz(F:bT K "_law_prime" "_law_prime" yi f fd)(O:Callee P w K mg base "_law_draw" 1 ["bag","many"] j5)(d:Callee P w K mg base "_law_prime_from" 1 ["number"] ya):
  bx P w K mg base bO 2 f fd ["bag"] (gS 1 zJ):=by
 refine F.ok p9 (λvs H Q E h=>h.1) (λcdv A outer s H vs Q E hr h=>?_);obtain⟨b,l,ws,nb,ds,Φ,rfl,M,u,a,B,D,I⟩:=rF h;obtain⟨rfl,q⟩:=I;refine⟨_,(@az _ _ _ _ _ (@R0 _ 1 _ _ _ _ _ _ p9.nd rfl (aR rfl) rfl (aR rfl)) (@az _ _ _ _ _ (@aN _ _ (1) _ _ _ _ p9.nd rfl (aR rfl) (@aH _ _ _ _ _ _ _ _ C8 (pv 1) (@fO _ _ _ _ (@aa _ _ _ _ _ (@aH _ _ _ _ _ _ _ _ eB (@aH _ _ _ _ _ _ _ _ uS ak ak) ak) (@aa _ _ _ _ _ (@aH _ _ _ _ _ _ _ _ iJ (@aH _ _ _ _ _ _ _ _ uS ak ak) ak) (@aa _ _ _ _ _ ak (@aa _ _ _ _ _ ak ai rfl) rfl) rfl) rfl))) (by rfl) (by first|exact .inl rfl|exact .inr rfl|assumption)) (@az _ _ _ _ _ (@aN _ _ (1) _ _ _ _ p9.nd rfl (aR rfl) (@aH _ _ _ _ _ _ _ _ C8 (pv 1) (@fO _ _ _ _ (@aa _ _ _ _ _ ak (@aa _ _ _ _ _ ak ai rfl) rfl))) (by rfl) (by first|exact .inl rfl|exact .inr rfl|assumption)) (@az _ _ _ _ _ (@aN _ _ (2) _ _ _ _ p9.nd rfl (aR rfl) (@aX _ _ _ _ _ _ _ _ _ _ O (hr.mono ⋯) (@aa _ _ _ _ _ (pv 0) (@aa _ _ _ _ _ ak ai rfl) rfl) (by rfl) ⋯ (by rfl) (by rfl)) (by rfl) (by first|exact .inl rfl|exact .inr rfl|assumption)) (@aL _ _ _ (@bY _ _ _ _ (@xJ _ _ _ _ _ _ _ _ (@cU _ _ _ _ _ _ _ _ wN (pv 2) ak (cA _)) (@aK _ _ _ _ _ _ (cO K) bD (pv 1) (pv 2) (λ_ _=>rfl)) (@aX _ _ _ _ _ _ _ _ _ _ d (hr.mono ⋯) (@aa _ _ _ _ _ (@aH _ _ _ _ _ _ _ _ eB ak (@aX _ _ _ _ _ _ _ _ _ _ O (hr.mono ⋯) (@aa _ _ _ _ _ (pv 0) (@aa _ _ _ _ _ ak ai rfl) rfl) (by rfl) ⋯ (by rfl) (by rfl))) ai rfl) (by rfl) ⋯ (by rfl) (by rfl))))))))),?_⟩;refine Sv.qT M u a B D (ρ:=[.aj, .no, .no]) rfl ?_;clear D B;rfl';intro way w1 w2;by_cases c:way<20
 .rfl';obtain⟨m,em,n,i⟩:=pick (L:=[2,3,5,7,2,11,101,10007,65537,1000003,998244353,1000000007,2147483647,1000000000039,10^mn 39+3,10^mn 40-17,2305843009213693951,618970019642690137449562111,162259276829213363391578010288127,170141183460469231731687303715884105727]) (k:=way) w1 (by show _<(20:Int);omega) _ Sx;refine⟨_,em,?_⟩;exact q m (Mv m n) i _
 .rfl';intro r r1 r2;rfl';exact λr' h1 h2=>q r' h1 h2 _
def xY:DF:=λds Φ=>∃p a b:Int,ds=[.int p, .int a, .int b]/\fK p/\p<10^40/\b%p≠0/\ -(10^85)<=a/\a<=10^85/\((∃k,b*sol p b a-a=p*k)->Φ true (.int (sol p b a)))
theorem Nv:fm xY:=by
 intro ds Φ Ψ hm z;revert hm;walk_at "mo";exact λq=>λh=>z _ _ (q h)
theorem jU:cD ["p","a","b","old","new","one","two","times"] ["p","a","b"] (aT BS):=⟨rfl,rfl,rfl,by decide+kernel,rfl,by decide+kernel,by decide+kernel⟩
theorem TQ(F:bT K "_law_over" "_law_over" BS f fd):
  bx P w K mg base bO 1 f fd ["p","a","b"] (c6 3 xY):=by
 refine F.ok jU (λvs H Q E h=>h.1) (λcdv A outer s H vs Q E hr h=>?_);obtain⟨nb,ds,Φ,u,B,D,I⟩:=kD h;obtain⟨p,a,b,rfl,hp,m,hb,T,a1,q⟩:=I;refine⟨_,(@az _ _ _ _ _ (@jc _ _ _ _ _ _ (@fS _ _ _ _ _ (@aa _ _ _ _ _ (@aH _ _ _ _ _ _ _ _ gY (pv 2) (pv 0)) (@aa _ _ _ _ _ (pv 0) (@aa _ _ _ _ _ ak (@aa _ _ _ _ _ ak ai rfl) rfl) rfl) rfl)) (@qX _ (K) _ _ _ (4) _ rfl rfl (@gy _ _ _ _ _ (cg (i:=3) jU.nd rfl (aR rfl)) (@gy _ _ _ _ _ (cg (i:=4) jU.nd rfl (aR rfl)) (@gy _ _ _ _ _ (cg (i:=5) jU.nd rfl (aR rfl)) (@gy _ _ _ _ _ (cg (i:=6) jU.nd rfl (aR rfl)) oQ (by rfl)) (by rfl)) (by rfl)) (by rfl)) (by rfl) (by rfl)) (by rfl) (by rfl) (by rfl)) (@az _ _ _ _ _ (@CD _ _ _ _ _ _ iM (@cU _ _ _ _ _ _ _ _ lX (pv 4) ak (cA _)) (@az _ _ _ _ _ (@aN _ _ (7) _ _ _ _ jU.nd rfl (aR rfl) (@aH _ _ _ _ _ _ _ _ oJ (pv 3) (pv 4)) (by rfl) (by first|exact .inl rfl|exact .inr rfl|assumption)) (@aL _ _ _ (@jc _ _ _ _ _ _ (@fS _ _ _ _ _ (@aa _ _ _ _ _ (pv 4) (@aa _ _ _ _ _ (@aH _ _ _ _ _ _ _ _ iJ (pv 3) (@aH _ _ _ _ _ _ _ _ iz (pv 7) (pv 4))) (@aa _ _ _ _ _ (pv 6) (@aa _ _ _ _ _ (@aH _ _ _ _ _ _ _ _ iJ (pv 5) (@aH _ _ _ _ _ _ _ _ iz (pv 7) (pv 6))) ai rfl) rfl) rfl) rfl)) (@qX _ (K) _ _ _ (4) _ rfl rfl (@gy _ _ _ _ _ (cg (i:=3) jU.nd rfl (aR rfl)) (@gy _ _ _ _ _ (cg (i:=4) jU.nd rfl (aR rfl)) (@gy _ _ _ _ _ (cg (i:=5) jU.nd rfl (aR rfl)) (@gy _ _ _ _ _ (cg (i:=6) jU.nd rfl (aR rfl)) oQ (by rfl)) (by rfl)) (by rfl)) (by rfl)) (by rfl) (by rfl)) (by rfl) (by rfl) (by rfl))))) (@aL _ _ _ (@bY _ _ _ _ (@aH _ _ _ _ _ _ _ _ gY (@aH _ _ _ _ _ _ _ _ iz (pv 1) (pv 5)) (pv 0)))))),?_⟩;refine Sv.jY u B D (ρ:=[.d false _, .d false _, .d false _, .no, .no, .no, .no, .no]) rfl ?_;clear D B;have p2:=hp.1;have m1:=ig b (show p≠0 by omega);have m2:=gV b (show 0<p by omega);rfl';show jV _ _ _ _ [aF (b%p), .int p, .int 1, .int 0] _;rfl';refine Sv.D8 (λρ=>∃(L lt r t:Int) (N:Sl),ρ=[.d false (.int p), .d false (.int a), .d false (.int b), .d true (.int L), .d true (.int r), .d true (.int lt), .d true (.int t),N]/\(-p<=lt/\lt<=p)/\((L=b%p/\r=p/\lt=1/\t=0)\/Eu p b L lt r t)) (λρ:Rh=>match ρ[4]? with|some (Sl.d _ (aF r))=>r.toNat|_=>0) ⟨_,_,_,_,_,rfl,∅, .inl ⟨rfl,rfl,rfl,rfl⟩⟩ ?_;rintro ρ ⟨L,lt,r,t,N,rfl,hlt,hI⟩;by_cases c:r=0
 .rcases hI with ⟨_,h,_,_⟩|hE
  .omega
  subst c;obtain⟨k,hk⟩:=hE.fin hp hb;obtain⟨l,j⟩:=hE.tb;have sa:Sm a:=by unfold Sm;omega
  have sl:Sm lt:=by unfold Sm;omega
  rfl';have e:=kc (a*lt) p;have ef:=kc lt p
  have ex:∃k,b*(a*lt%p)-a=p*k:=⟨a*k+a*(lt/p)*b-a*lt/p*b,by
   generalize a*lt/p=Q1 at*;generalize a*lt%p=R1 at*;generalize lt/p=Q2 at*;generalize lt%p=R2 at*;have h1:R1=a*lt-p*Q1:=∅
   have h2:lt=p*Q2+R2:=∅
   rw[h1];have h3:a*(R2*b)=a*(1+p*k):=by rw[hk]
   grind⟩
  have es:=Am (x:=a*lt%p) (a:=a) hp hb (ig _ ∅) (gV _ ∅) ex;rw[es];rw[es] at ex;exact q ex
 .rcases hI with ⟨rfl,rfl,rfl,rfl⟩|hE
  .have X:b%r/r=0:=Int.ediv_eq_zero_of_lt m1 m2;rfl';show jV _ _ _ _ [aF r, .int (b%r-b%r/r*r), .int 0, .int (1-b%r/r*0)] _;rw[X];rfl';refine⟨⟨_,_,_,_,_,rfl,∅, .inr ?_⟩,?_⟩
   .rw[om,tH,Int.mul_zero,tH];exact Eu.start p2
   .show(b%r-0*r).toNat<r.toNat;rw[om];omega
  .obtain⟨l,j⟩:=hE.tb;have e1:=hE.l0;have e2:=hE.r0;have e3:=hE.lp;have e4:=hE.rp;have hr:0<r:=∅
   have J:0<=L/r:=vm ∅ ∅;have q2:L/r<=L:=Ai _ ∅;obtain⟨g,n⟩:=hE.next hr
   rfl';show jV _ _ _ _ [aF r, .int (L-L/r*r), .int t, .int (lt-L/r*t)] _;rfl';exact⟨⟨_,_,_,_,_,rfl,⟨l,j⟩, .inr g⟩,by show(L-L/r*r).toNat<r.toNat;omega⟩
def yC:DF:=λds Φ=>∃p:Int,ds=[.int p]/\2<=p/\p<10^40/\∀x:Int,0<=x->x<p->Φ true (.int x)
theorem Ld:fm yC:=by
 intro ds Φ Ψ hm z;revert hm;walk_at "mo";exact λq=>λx a b=>z _ _ (q x a b)
theorem J5:cD ["bag","p"] ["bag","p"] (aT Ab):=⟨rfl,rfl,rfl,by decide+kernel,rfl,by decide+kernel,by decide+kernel⟩
theorem RP(F:bT K "_law_letter" "_law_letter" Ab f fd)(O:Callee P w K mg base "_law_draw" 1 ["bag","many"] j5):
  bx P w K mg base bO 2 f fd ["bag","p"] (gS 2 yC):=by
 refine F.ok J5 (λvs H Q E h=>h.1) (λcdv A outer s H vs Q E hr h=>?_);obtain⟨b,l,ws,nb,ds,Φ,rfl,M,u,a,B,D,I⟩:=rF h;obtain⟨p,rfl,p2,ir,q⟩:=I;refine⟨_,(@aL _ _ _ (@bY _ _ _ _ (@aH _ _ _ _ _ _ _ _ gY (@aH _ _ _ _ _ _ _ _ iz (@aX _ _ _ _ _ _ _ _ _ _ O (hr.mono ⋯) (@aa _ _ _ _ _ (pv 0) (@aa _ _ _ _ _ (pv 1) ai rfl) rfl) (by rfl) ⋯ (by rfl) (by rfl)) (@aH _ _ _ _ _ _ _ _ eB (@aH _ _ _ _ _ _ _ _ oJ (pv 1) ak) ak)) (pv 1)))),?_⟩;refine Sv.qT M u a B D (ρ:=[.aj, .d false _]) rfl ?_;clear D B;rfl';intro r r1 r2;have h1:0<=r*(p/3+1):=Bs r1 ∅;have h2:r*(p/3+1)<=10^40*10^40:=vg ∅ ∅ ∅ ∅;rfl';exact q _ (ig _ ∅) (gV _ ∅)
def zC:DF:=λds Φ=>∃p:Int,ds=[.int p]/\fK p/\p<10^40/\∀x:Int,0<x->x<p->Φ true (.int x)
theorem B0:fm zC:=by
 intro ds Φ Ψ hm z;revert hm;walk_at "mo";exact λq=>λx a b=>z _ _ (q x a b)
theorem Lk{a b:Int}(hp:fK p)(h:p∣a*b):p∣a\/p∣b:=by
 by_cases ha:p∣a;·exact .inl ha
 .right
  have hg:fv p a=1:=by
   have d1:(fv p a:Int)∣p:=kl ..;have d2:(fv p a:Int)∣a:=iB ..;have h0:0<(fv p a:Int):=by
    have:fv p a≠0:=λz=>by have:=(GA.mp z).1;have:=hp.1;omega
    omega
   rcases hp.2 _ h0 d1 with e|e
   .exact_mod_cast e
   .rw[e] at d2;exact absurd d2 ha
  have h':p.natAbs∣a.natAbs*b.natAbs:=by rw[<-Bq];exact uh.mpr h
  have c:fu p.natAbs a.natAbs:=hg;exact uh.mp (c.dvd_of_dvd_mul_left h')
theorem J6:cD ["bag","p"] ["bag","p"] (aT xW):=⟨rfl,rfl,rfl,by decide+kernel,rfl,by decide+kernel,by decide+kernel⟩
theorem Mn(F:bT K "_law_factor" "_law_factor" xW f fd)(O:Callee P w K mg base "_law_draw" 1 ["bag","many"] j5):
  bx P w K mg base bO 2 f fd ["bag","p"] (gS 2 zC):=by
 refine F.ok J6 (λvs H Q E h=>h.1) (λcdv A outer s H vs Q E hr h=>?_);obtain⟨b,l,ws,nb,ds,Φ,rfl,M,u,a,B,D,I⟩:=rF h;obtain⟨p,rfl,hp,ir,q⟩:=I;refine⟨_,(@aL _ _ _ (@bY _ _ _ _ (@aH _ _ _ _ _ _ _ _ gY (@aH _ _ _ _ _ _ _ _ iz (@aH _ _ _ _ _ _ _ _ eB ak (@aX _ _ _ _ _ _ _ _ _ _ O (hr.mono ⋯) (@aa _ _ _ _ _ (pv 0) (@aa _ _ _ _ _ (@aH _ _ _ _ _ _ _ _ iJ (pv 1) ak) ai rfl) rfl) (by rfl) ⋯ (by rfl) (by rfl))) (@aH _ _ _ _ _ _ _ _ eB (@aH _ _ _ _ _ _ _ _ oJ (pv 1) ak) ak)) (pv 1)))),?_⟩;refine Sv.qT M u a B D (ρ:=[.aj, .d false _]) rfl ?_;clear D B;have p2:=hp.1;rfl';intro r r1 r2;rfl';refine q _ ?_ (gV _ ∅);have h0:=ig ((1+r)*(p/3+1)) (show p≠0 by omega);have R:(1+r)*(p/3+1)%p≠0:=λe=>by
  rcases Lk hp (Int.dvd_of_emod_eq_zero e) with h|h
  .have:=yG ∅ h;omega
  .have:=yG ∅ h;omega
 omega
def wX:DF:=λds Φ=>∃ns:List Int,ds=[.list (ns.map .int)]/\ns.length<=9000/\∀J:List Int,J.Perm ns->Φ true (.list (J.map .int))
theorem Jd:fm wX:=by
 intro ds Φ Ψ hm z;revert hm;walk_at "mo";exact λq=>λJ a=>z _ _ (q J a)
theorem EF:cD ["bag","row","left"] ["bag","row"] (aT we):=⟨rfl,rfl,rfl,by decide+kernel,rfl,by decide+kernel,by decide+kernel⟩
theorem Rv(F:bT K "_law_turned" "_law_turned" we f fd)(O:Callee P w K mg base "_law_draw" 1 ["bag","many"] j5)(bW:mg "list"=none)(cL:mg "range"=none)(bV:mg "len"=none):
  bx P w K mg base bO 2 f fd ["bag","row"] (gS 2 wX):=by
 refine F.ok EF (λvs H Q E h=>h.1) (λcdv A outer s H vs Q E hr h=>?_);obtain⟨b,l,ws,nb,ds,Φ,rfl,M,u,a,B,D,I⟩:=rF h;obtain⟨ns,rfl,hl,q⟩:=I;refine⟨_,(@az _ _ _ _ _ (@aN _ _ (2) _ _ _ _ EF.nd rfl (ee rfl) (@iX _ _ _ _ _ _ _ _ (iA K) kU rfl bW g9 (@aa _ _ _ _ _ (pv 1) ai rfl) ⋯ ⋯ (by rfl) (by rfl)) (by rfl) (by first|exact .inl rfl|exact .inr rfl|assumption)) (@aL _ _ _ (@bY _ _ _ _ (lJ (gD.of (show jb (aT we) ["bag","row","left"] _ ["k","bag","left"] [none,some 0,some 2]=true by decide+kernel)) (@pU _ _ _ _ _ _ rfl cL (@aa _ _ _ _ _ (@cM _ _ _ _ _ _ _ _ (fP K) iK rfl bV g8 (@aa _ _ _ _ _ (pv 1) ai rfl) ⋯ ⋯ (by rfl) (by rfl)) ai rfl) (by rfl)) (λ_ _ _ _=>⟨(cg (i:=0) (by show da (["k","bag","left"]:List Str);decide+kernel) rfl (aR rfl)),mh,(MQ (K:=K) rfl (lz mG PySem.F.slot_list_pop PySem.F.type_list_pop Ko (pv 2) (@aa _ _ _ _ _ (@aX _ _ _ _ _ _ _ _ _ _ O (hr.mono ⋯) (@aa _ _ _ _ _ (pv 1) (@aa _ _ _ _ _ (@cM _ _ _ _ _ _ _ _ (fP K) iK rfl bV g8 (@aa _ _ _ _ _ (pv 2) ai rfl) ⋯ ⋯ (by rfl) (by rfl)) ai rfl) rfl) (by rfl) ⋯ (by rfl) (by rfl)) ai rfl)))⟩))))),?_⟩;refine Sv.qT M u a B D (ρ:=[.aj, .d false _, .no]) rfl ?_;clear D B;have c:(ns.map aF).length=ns.length:=ao ..;refine Sv.seq ?_;refine Sv.oX (aC.listOf ?_);rfl';intro A2;rw[Qd,Bool.or_true];refine Sv.QK rfl rfl ∅ ?_ (λJ hp=>?_)
 .rfl'
  rfl
 .obtain⟨ms,rfl,hm⟩:=Ca hp _ rfl;exact q ms hm
def zh:DF:=λds Φ=>∃(p n:Int) (cs:List au),ds=[cS p n cs]/\cs.length<=10000/\∀f,Φ f (cS p n cs)
theorem D9:fm zh:=by
 intro ds Φ Ψ hm z;revert hm;walk_at "mo";exact λq=>λf=>z _ _ (q f)
theorem Up:cD ["net"] ["net"] (aT uz):=⟨rfl,rfl,rfl,by decide+kernel,rfl,by decide+kernel,by decide+kernel⟩
theorem KG(F:bT K "_law_copy" "_law_copy" uz f fd)(bW:mg "list"=none):
  bx P w K mg base bO 1 f fd ["net"] (c6 1 zh):=by
 refine F.ok Up (λvs H Q E h=>h.1) (λcdv A outer s H vs Q E hr h=>?_);obtain⟨nb,ds,Φ,u,B,D,I⟩:=kD h;obtain⟨p,n,cs,rfl,hl,q⟩:=I;refine⟨_,(@aL _ _ _ (@bY _ _ _ _ (@fS _ _ _ _ _ (@aa _ _ _ _ _ (@aK _ _ _ _ _ _ (e7 K) fU (pv 0) ak (λ_ _=>rfl)) (@aa _ _ _ _ _ (@aK _ _ _ _ _ _ (e7 K) fU (pv 0) ak (λ_ _=>rfl)) (@aa _ _ _ _ _ (lJ (gD.of (show jb (aT uz) ["net"] _ ["pairs"] [none]=true by decide+kernel)) (jo (K:=K) rfl (@aK _ _ _ _ _ _ (e7 K) fU (pv 0) ak (λ_ _=>rfl))) (λ_ _ _ _=>⟨(cg (i:=0) (by show da (["pairs"]:List Str);decide+kernel) rfl (aR rfl)),mh,(@iX _ _ _ _ _ _ _ _ (iA K) kU rfl bW g9 (@aa _ _ _ _ _ (pv 0) ai rfl) ⋯ ⋯ (by rfl) (by rfl))⟩)) ai rfl) rfl) rfl)))),?_⟩;refine Sv.jY u B D (ρ:=[.d false _]) rfl ?_;clear D B;rfl';refine aC.ev (aC.ny ⋯ rfl ?_);rfl';refine⟨by rw[ao];exact hl,λv=>⟨false,λi ds=>ds=(cs.take i).map gg,rfl,?_,?_⟩⟩
 .rintro i d ds hd hl' rfl;obtain⟨prs,a,rfl⟩:=mD hd;rfl';refine⟨by walk_at "wk",?_⟩;rfl';refine⟨λz=>(by cases z),?_⟩;show _=dn _ _;rw[rr a,eN]
  rfl
 .rintro ds hl' rfl;rw[ao,j3];rfl';exact q _
def pG:Nat->PyData->Prop
 |0,_=>False
 |n+1,d=>iV d=true\/∃ds,(d= .list ds\/d= .tuple ds)/\ds.length<=10000/\∀e∈ds,pG n e
def nv(n:Nat):DF:=λds Φ=>∃d,ds=[d,d]/\pG n d/\Φ true (.bool true)
theorem mL(n:Nat):fm (nv n):=by
 intro ds Φ Ψ hm z;revert hm;walk_at "mo";exact λq=>z _ _ q
theorem Mf:∀vs H Q E,¬c6 2 (nv 0) vs H Q E:=λvs H Q E ⟨_,_,_,_,_,d,_,h,_⟩=>h
theorem LZ:cD ["found","due"] ["found","due"] (aT tT):=⟨rfl,rfl,rfl,by decide+kernel,rfl,by decide+kernel,by decide+kernel⟩
theorem qW(n:Nat)(F:bT K "_law_alike" "_law_alike" tT f fd)(lN:Callee P w K mg base "_law_alike" (n) ["found","due"] (c6 2 (nv n)))(gP:mg "isinstance"=none)(bW:mg "list"=none)(l5:mg "tuple"=none)(mF:mg "all"=none)(bV:mg "len"=none)(l7:mg "bool"=none)(lV:mg "int"=none)(lS:mg "str"=none)(cL:mg "range"=none):
  bx P w K mg base bO (n+1) f fd ["found","due"] (c6 2 (nv (n+1))):=by
 refine F.ok LZ (λvs H Q E h=>h.1) (λcdv A outer s H vs Q E hr h=>?_);obtain⟨nb,ds,Φ,u,B,D,I⟩:=kD h;obtain⟨d,rfl,hok,q⟩:=I;refine⟨_,(@az _ _ _ _ _ (@fG _ _ _ _ _ _ _ _ (@l9 _ (K) _ _ rfl (@cM _ _ _ _ _ _ _ _ (sN) Gp rfl gP kB (@aa _ _ _ _ _ (pv 1) (@aa _ _ _ _ _ (@fS _ _ _ _ _ (@aa _ _ _ _ _ (jv (v:= .ty "list") rfl bW g9 rfl) (@aa _ _ _ _ _ (jv (v:= .ty "tuple") rfl l5 Iu rfl) ai rfl) rfl)) ai rfl) rfl) ⋯ ⋯ (by rfl) (by rfl)) (λ_=>rfl)) (@az _ _ _ _ _ (@fG _ _ _ _ _ _ _ _ (PW.pt (sj (@vA _ _ _ _ (@l9 _ (K) _ _ rfl (@cM _ _ _ _ _ _ _ _ (sN) Gp rfl gP kB (@aa _ _ _ _ _ (pv 0) (@aa _ _ _ _ _ (@fS _ _ _ _ _ (@aa _ _ _ _ _ (jv (v:= .ty "list") rfl bW g9 rfl) (@aa _ _ _ _ _ (jv (v:= .ty "tuple") rfl l5 Iu rfl) ai rfl) rfl)) ai rfl) rfl) ⋯ ⋯ (by rfl) (by rfl)) (λ_=>rfl))) (qF (@cU _ _ _ _ _ _ _ _ lX (@cM _ _ _ _ _ _ _ _ (jT K) lB rfl gP kB (@aa _ _ _ _ _ (pv 0) (@aa _ _ _ _ _ (jv (v:= .ty "list") rfl bW g9 rfl) ai rfl) rfl) ⋯ ⋯ (by rfl) (by rfl)) (@cM _ _ _ _ _ _ _ _ (jT K) lB rfl gP kB (@aa _ _ _ _ _ (pv 1) (@aa _ _ _ _ _ (jv (v:= .ty "list") rfl bW g9 rfl) ai rfl) rfl) ⋯ ⋯ (by rfl) (by rfl)) (cA _))))) (@aL _ _ _ (@bY _ _ _ _ sU)) fR) (@az _ _ _ _ _ (@fG _ _ _ _ _ _ _ _ (@cU _ _ _ _ _ _ _ _ lX (@cM _ _ _ _ _ _ _ _ (fP K) iK rfl bV g8 (@aa _ _ _ _ _ (pv 0) ai rfl) ⋯ ⋯ (by rfl) (by rfl)) (@cM _ _ _ _ _ _ _ _ (fP K) iK rfl bV g8 (@aa _ _ _ _ _ (pv 1) ai rfl) ⋯ ⋯ (by rfl) (by rfl)) (cA _)) (@aL _ _ _ (@bY _ _ _ _ sU)) fR) (@aL _ _ _ (@bY _ _ _ _ (@cM _ _ _ _ _ _ _ _ (Bx K) (UR rfl) rfl mF o3 (@aa _ _ _ _ _ (lJ (gD.of (show jb (aT tT) ["found","due"] _ ["k","found","due"] [none,some 0,some 1]=true by decide+kernel)) (@pU _ _ _ _ _ _ rfl cL (@aa _ _ _ _ _ (@cM _ _ _ _ _ _ _ _ (fP K) iK rfl bV g8 (@aa _ _ _ _ _ (pv 1) ai rfl) ⋯ ⋯ (by rfl) (by rfl)) ai rfl) (by rfl)) (λ_ _ _ _=>⟨(cg (i:=0) (by show da (["k","found","due"]:List Str);decide+kernel) rfl (aR rfl)),mh,(@aX _ _ _ _ _ _ _ _ _ _ lN (hr.mono (bh _)) (@aa _ _ _ _ _ (@aK _ _ _ _ _ _ (tE K) Ji (pv 1) (pv 0) (λ_ _=>rfl)) (@aa _ _ _ _ _ (@aK _ _ _ _ _ _ (tE K) Ji (pv 2) (pv 0) (λ_ _=>rfl)) ai rfl) rfl) (by rfl) ⋯ (by rfl) (by rfl))⟩)) ai rfl) ⋯ ⋯ (by rfl) (by rfl)))))) fR) (@az _ _ _ _ _ (@fG _ _ _ _ _ _ _ _ (PW.pt (sj (@cU _ _ _ _ _ _ _ _ lX (@cM _ _ _ _ _ _ _ _ (jT K) lB rfl gP kB (@aa _ _ _ _ _ (pv 0) (@aa _ _ _ _ _ (jv (v:= .ty "bool") rfl l7 Gd rfl) ai rfl) rfl) ⋯ ⋯ (by rfl) (by rfl)) (@cM _ _ _ _ _ _ _ _ (jT K) lB rfl gP kB (@aa _ _ _ _ _ (pv 1) (@aa _ _ _ _ _ (jv (v:= .ty "bool") rfl l7 Gd rfl) ai rfl) rfl) ⋯ ⋯ (by rfl) (by rfl)) (cA _)) (qF (@cU _ _ _ _ _ _ _ _ lX (@cM _ _ _ _ _ _ _ _ (jT K) lB rfl gP kB (@aa _ _ _ _ _ (pv 0) (@aa _ _ _ _ _ (jv (v:= .ty "int") rfl lV GB rfl) ai rfl) rfl) ⋯ ⋯ (by rfl) (by rfl)) (@cM _ _ _ _ _ _ _ _ (jT K) lB rfl gP kB (@aa _ _ _ _ _ (pv 1) (@aa _ _ _ _ _ (jv (v:= .ty "int") rfl lV GB rfl) ai rfl) rfl) ⋯ ⋯ (by rfl) (by rfl)) (cA _))))) (@aL _ _ _ (@bY _ _ _ _ sU)) fR) (@aL _ _ _ (@bY _ _ _ _ (@GG _ _ _ _ _ _ _ (@vK _ _ _ _ _ _ _ _ jZ (@cM _ _ _ _ _ _ _ _ (jT K) lB rfl gP kB (@aa _ _ _ _ _ (pv 0) (@aa _ _ _ _ _ (jv (v:= .ty "str") rfl lS Fc rfl) ai rfl) rfl) ⋯ ⋯ (by rfl) (by rfl)) (@cM _ _ _ _ _ _ _ _ (jT K) lB rfl gP kB (@aa _ _ _ _ _ (pv 1) (@aa _ _ _ _ _ (jv (v:= .ty "str") rfl lS Fc rfl) ai rfl) rfl) ⋯ ⋯ (by rfl) (by rfl)) (cA _)) (@zP _ _ _ _ _ (@vK _ _ _ _ _ _ _ _ jZ (pv 0) (pv 1) (cA _)))))))),?_⟩;refine Sv.jY u B D (ρ:=[.d false _, .d false _]) rfl ?_;clear D B;rfl';rcases hok with hs|⟨ds,hd,hl,he⟩
 .have h1:(iH d "list" ||iH d "tuple")=false:=by cases d<;>first|rfl|cases hs
  rw[h1];rfl';rw[beq_self_eq_true];rfl';rw[beq_self_eq_true];rfl';rw[beq_self_eq_true];rfl';exact⟨true, .self hs,q⟩
 rcases hd with rfl|rfl
 .rw[(D3 ds).1,(D3 ds).2,yk];rfl';refine aC.ev (aC.JP ⋯ rfl ?_);rfl';refine⟨true,λi es=>es=be i (.bool true),rfl,?_,?_⟩
  .rintro i d' es ⟨hi,rfl⟩ hl' rfl;have g:i<ds.length:=∅
   have hat:bB ds (0+(i:Int))=some ds[i]:=fL ∅ (by rw[show(0+(i:Int)).toNat=i by omega];exact aA g);rfl';refine⟨by walk_at "wk",?_⟩;rfl';refine Ev.gv (mL n) ?_;rfl';refine⟨rfl,ds[i],rfl,he _ (dP g),λ_=>rfl,?_⟩;show _=be (i+1) _;rw[Gy]
  .rintro es hl' rfl;refine⟨be ds.length true,by simp,?_⟩;rw[show(be ds.length true).all id=true by simp];exact q
 .rw[(E5 ds).1,(E5 ds).2,nL];rfl';refine aC.ev (aC.JP ⋯ rfl ?_);rfl';refine⟨true,λi es=>es=be i (.bool true),rfl,?_,?_⟩
  .rintro i d' es ⟨hi,rfl⟩ hl' rfl;have g:i<ds.length:=∅
   have hat:bB ds (0+(i:Int))=some ds[i]:=fL ∅ (by rw[show(0+(i:Int)).toNat=i by omega];exact aA g);rfl';refine⟨by walk_at "wk",?_⟩;rfl';refine Ev.gv (mL n) ?_;rfl';refine⟨rfl,ds[i],rfl,he _ (dP g),λ_=>rfl,?_⟩;show _=be (i+1) _;rw[Gy]
  .rintro es hl' rfl;refine⟨be ds.length true,by simp,?_⟩;rw[show(be ds.length true).all id=true by simp];exact q
structure k7(p:Int)(order:List Int)(sp:Nat)(ws:List Int)(j:Nat)(prs:au):Prop where
 len:prs.length<=3
 rg:∀pr∈prs,0<=pr.1/\pr.1<order.length/\1<=pr.2/\pr.2<p
 nd:(prs.map (·.1)).Nodup
 m0:order.getD (sp+j) 0∈prs.map (·.1)
 m1:order.getD (sp+j+1) 0∈prs.map (·.1)
 ma:∀x∈prs.map (·.1),x=order.getD (sp+j) 0\/x=order.getD (sp+j+1) 0\/∃k<sp,x=order.getD k 0
 du:bH prs (ws.map some)%p=0
def nG(p:Int)(order:List Int)(sp:Nat)(ws:List Int)(i:Nat)(o:List au):Prop:=o.length=i/\∀(j:Nat) prs,o[j]?=some prs->k7 p order sp ws j prs
theorem k7.perm{order:List Int}{sp:Nat}{G6:au}(h:k7 p order sp ws j prs)(q:G6.Perm prs):k7 p order sp ws j G6:=
 ⟨by rw[q.length_eq];exact h.len,λpr m=>h.rg pr (q.mem_iff.mp m),(q.map λpr:Int×Int=>pr.1).nodup_iff.mpr h.nd,(q.map λpr:Int×Int=>pr.1).mem_iff.mpr h.m0,(q.map λpr:Int×Int=>pr.1).mem_iff.mpr h.m1,λx m=>h.ma x ((q.map λpr:Int×Int=>pr.1).mem_iff.mp m),by rw[Ss q];exact h.du⟩
theorem nG.snoc{x:Int}{order:List Int}{sp:Nat}{o:List au}(h:nG p order sp ws i o)(C:order.Nodup)(V:∀x∈order,0<=x/\x<order.length)(U:ws.length=order.length)(hi:sp+i+1<order.length)
  (hn:k7 p order sp (ws.set (order.getD (sp+i+1) 0).toNat x) i prs):nG p order sp (ws.set (order.getD (sp+i+1) 0).toNat x) (i+1) (o++[prs]):=by
 have gb:=V _ (iu hi);refine⟨by rw[fq,h.1];rfl,λj q e=>?_⟩;by_cases c:j<o.length
 .rw[eO c] at e;have h1:=h.2 j q e;have hli:=h.1;refine⟨h1.len,h1.rg,h1.nd,h1.m0,h1.m1,h1.ma,?_⟩;rw[LP ∅ (λpr m=>by have:=h1.rg pr m;omega) λm=>?_];·exact h1.du
  rcases h1.ma _ m with z|z|⟨k,hk,z⟩
  .have:=fQ C hi ∅ z;omega
  .have:=fQ C hi ∅ z;omega
  .have:=fQ C hi ∅ z;omega
 .have hli:=h.1;rw[eE ∅] at e;have X:j-o.length=0:=by
   cases z:j-o.length with
   |zero=>rfl
   |succ m=>rw[z] at e;simp at e
  rw[X] at e;cases e;rw[show j=i by omega];exact hn
theorem DW{a b:Int}(ha:0<=a)(hb:0<=b)(h:a≠b):b.toNat≠a.toNat:=∅
theorem Sj{t u x rest:Int}{order:List Int}{sp:Nat}{more:au}(C:order.Nodup)(V:∀x∈order,0<=x/\x<order.length)(U:ws.length=order.length)(hi:sp+i+1<order.length)(R:order.getD (sp+i) 0≠order.getD (sp+i+1) 0)(a:1<=t/\t<p)(oW:1<=u/\u<p)
  (hx:∃k,u*x-(0-rest)=p*k) (hm:(more=[]/\rest=t*gW ws (order.getD (sp+i) 0).toNat)\/∃(k:Nat) (f:Int),k<sp/\1<=f/\f<p/\more=[(order.getD k 0,f)]/\rest=t*gW ws (order.getD (sp+i) 0).toNat+f*gW ws (order.getD k 0).toNat):
  k7 p order sp (ws.set (order.getD (sp+i+1) 0).toNat x) i ((order.getD (sp+i) 0,t)::(order.getD (sp+i+1) 0,u)::more):=by
 have ga:=V _ (iu (row:=order) (k:=sp+i) ∅);have gb:=V _ (iu (row:=order) hi);obtain⟨K,g⟩:=hx;have b:∀{c:Nat},gW (ws.set (order.getD (sp+i+1) 0).toNat x) c=if(order.getD (sp+i+1) 0).toNat=c then x else gW ws c:=λ{c}=>DH ∅
 have wa:gW (ws.set (order.getD (sp+i+1) 0).toNat x) (order.getD (sp+i) 0).toNat=gW ws (order.getD (sp+i) 0).toNat:=b.trans (if_neg (DW ga.1 gb.1 R));have d:gW (ws.set (order.getD (sp+i+1) 0).toNat x) (order.getD (sp+i+1) 0).toNat=x:=b.trans (if_pos rfl);rcases hm with ⟨rfl,e⟩|⟨k,f,hk,f0,f1,rfl,e⟩
 .have rg:∀pr∈[(order.getD (sp+i) 0,t),(order.getD (sp+i+1) 0,u)],0<=pr.1/\pr.1<order.length/\1<=pr.2/\pr.2<p:=λpr m=>by
   simp at m;rcases m with rfl|rfl
   .exact⟨ga.1,ga.2,a.1,a.2⟩
   .exact⟨gb.1,gb.2,oW.1,oW.2⟩
  refine⟨by simp,rg,eW.mpr ⟨λm=>R (aJ.mp m),eW.mpr ⟨cy,zW⟩⟩,by simp,by simp,λy m=>?_,?_⟩
  .simp at m;exact m.imp id .inl
  .rw[qd λpr m=>by have:=rg pr m;rw[eG];omega];simp only[bu,lC,jk,BY,wa,d];rw[show t*gW ws (order.getD (sp+i) 0).toNat+(u*x+0)=p*K by rw[<-e];omega];exact h7 ..
 .have gk:=V _ (iu (row:=order) (k:=k) ∅);have n1:order.getD k 0≠order.getD (sp+i) 0:=λz=>by have:=fQ C ∅ ∅ z;omega
  have w:order.getD k 0≠order.getD (sp+i+1) 0:=λz=>by have:=fQ C ∅ hi z;omega
  have rg:∀pr∈[(order.getD (sp+i) 0,t),(order.getD (sp+i+1) 0,u),(order.getD k 0,f)],0<=pr.1/\pr.1<order.length/\1<=pr.2/\pr.2<p:=λpr m=>by
   simp at m;rcases m with rfl|rfl|rfl
   .exact⟨ga.1,ga.2,a.1,a.2⟩
   .exact⟨gb.1,gb.2,oW.1,oW.2⟩
   .exact⟨gk.1,gk.2,f0,f1⟩
  have wk:gW (ws.set (order.getD (sp+i+1) 0).toNat x) (order.getD k 0).toNat=gW ws (order.getD k 0).toNat:=b.trans (if_neg (DW gk.1 gb.1 w));refine⟨by simp,rg,eW.mpr ⟨λm=>(aO.mp m).elim R λm=>n1 (aJ.mp m).symm,eW.mpr ⟨λm=>w (aJ.mp m).symm,eW.mpr ⟨cy,zW⟩⟩⟩,by simp,by simp,λy m=>?_,?_⟩
  .simp at m;rcases m with m|m|m
   .exact .inl m
   .exact .inr (.inl m)
   .exact .inr (.inr ⟨k,hk,m⟩)
  .rw[qd λpr m=>by have:=rg pr m;rw[eG];omega];simp only[bu,lC,jk,BY,wa,d,wk];rw[show t*gW ws (order.getD (sp+i) 0).toNat+(u*x+(f*gW ws (order.getD k 0).toNat+0))=p*K by omega];exact h7 ..
def AE:MF:=λcs ds Φ=>∃(A:aw) (p:Int) (order ws:List Int) (sp:Nat),cs=[eT A (ws.map .int)]/\ds=[.int p, .list (order.map .int), .int sp]/\fK p/\p<10^40/\order.Nodup/\(∀x∈order,0<=x/\x<order.length)/\order.length<=400/\1<=sp/\sp<order.length/\ws.length=order.length/\(∀x∈ws,0<=x/\x<p)/\
 ∀(n:List Int) (o:List au) (f:Bool),n.length=ws.length->(∀x∈n,0<=x/\x<p)->nG p order sp n (order.length-1-sp) o->Φ [eT A (n.map .int)] f (.list (o.map gg))
theorem SR:Cp AE:=λcs ds Φ Ψ ⟨A,p,order,ws,sp,e1,e2,h1,h2,h3,h4,h5,d,e,j,g,q⟩ z=>⟨A,p,order,ws,sp,e1,e2,h1,h2,h3,h4,h5,d,e,j,g,λn o f a b c=>z _ _ _ (q n o f a b c)⟩
theorem kN:cD ["bag","p","order","springs","word","links","k","a","b","pairs","rest","spring","factor"] ["bag","p","order","springs","word"] (aT AI):=⟨rfl,rfl,rfl,by decide+kernel,rfl,by decide+kernel,by decide+kernel⟩
theorem Ka(F:bT K "_law_chain" "_law_chain" AI f fd)(Lr:Callee P w K mg base "_law_over" 1 ["p","a","b"] (c6 3 xY))(O:Callee P w K mg base "_law_draw" 1 ["bag","many"] j5)(zg:Callee P w K mg base "_law_factor" 2 ["bag","p"] (gS 2 zC))(cL:mg "range"=none)(bV:mg "len"=none)(k9:mg "sorted"=none):
  bx P w K mg base bO 3 f fd ["bag","p","order","springs","word"] (rG [false,false,false,true] AE):=by
 refine F.ok kN (λvs H Q E h=>h.1) (λcdv A outer s H vs Q E hr h=>?_);obtain⟨b,l,nb,Vy,ws,ds,Φ,rfl,B,D,UE,hw,I⟩:=OQ h;obtain⟨A,p,order,ws,sp,rfl,rfl,hp,ir,C,V,E3,hs1,Y,U,Z,q⟩:=I;refine⟨_,(@az _ _ _ _ _ (@aN _ _ (5) _ _ _ _ kN.nd rfl (aR rfl) (@fO _ _ _ _ ai) (by rfl) (by first|exact .inl rfl|exact .inr rfl|assumption)) (@az _ _ _ _ _ (@jP _ _ _ _ _ _ _ _ iM rfl (@tw _ _ _ _ _ _ _ rfl cL (@aa _ _ _ _ _ (pv 3) (@aa _ _ _ _ _ (@aH _ _ _ _ _ _ _ _ iJ (@cM _ _ _ _ _ _ _ _ (fP K) iK rfl bV g8 (@aa _ _ _ _ _ (pv 2) ai rfl) ⋯ ⋯ (by rfl) (by rfl)) ak) ai rfl) rfl) (by rfl) (by rfl)) (cg (i:=6) kN.nd rfl (aR rfl)) (@az _ _ _ _ _ (UL (i:=7) (j:=8) rfl kN.nd rfl rfl ⋯ rfl rfl (@aa _ _ _ _ _ (@aK _ _ _ _ _ _ (cO K) bD (pv 2) (pv 6) (λ_ _=>rfl)) (@aa _ _ _ _ _ (@aK _ _ _ _ _ _ (cO K) bD (pv 2) (@aH _ _ _ _ _ _ _ _ eB (pv 6) ak) (λ_ _=>rfl)) ai rfl) rfl) rfl) (@az _ _ _ _ _ (@aN _ _ (9) _ _ _ _ kN.nd rfl (aR rfl) (@fO _ _ _ _ (@aa _ _ _ _ _ (@fS _ _ _ _ _ (@aa _ _ _ _ _ (pv 7) (@aa _ _ _ _ _ (@aX _ _ _ _ _ _ _ _ _ _ zg (hr.mono ⋯) (@aa _ _ _ _ _ (pv 0) (@aa _ _ _ _ _ (pv 1) ai rfl) rfl) (by rfl) ⋯ (by rfl) (by rfl)) ai rfl) rfl)) (@aa _ _ _ _ _ (@fS _ _ _ _ _ (@aa _ _ _ _ _ (pv 8) (@aa _ _ _ _ _ (@aX _ _ _ _ _ _ _ _ _ _ zg (hr.mono ⋯) (@aa _ _ _ _ _ (pv 0) (@aa _ _ _ _ _ (pv 1) ai rfl) rfl) (by rfl) ⋯ (by rfl) (by rfl)) ai rfl) rfl)) ai rfl) rfl)) (by rfl) (by first|exact .inl rfl|exact .inr rfl|assumption)) (@az _ _ _ _ _ (@aN _ _ (10) _ _ _ _ kN.nd rfl (aR rfl) (@aH _ _ _ _ _ _ _ _ iz (@aK _ _ _ _ _ _ (e7 K) fU (@aK _ _ _ _ _ _ (cO K) bD (pv 9) ak (λ_ _=>rfl)) ak (λ_ _=>rfl)) (@aK _ _ _ _ _ _ (cO K) bD (pv 4) (pv 7) (λ_ _=>rfl))) (by rfl) (by first|exact .inl rfl|exact .inr rfl|assumption)) (@az _ _ _ _ _ (@fG _ _ _ _ _ _ _ _ (@cU _ _ _ _ _ _ _ _ jZ (@aX _ _ _ _ _ _ _ _ _ _ O (hr.mono ⋯) (@aa _ _ _ _ _ (pv 0) (@aa _ _ _ _ _ ak ai rfl) rfl) (by rfl) ⋯ (by rfl) (by rfl)) ak (cA _)) (@az _ _ _ _ _ (@aN _ _ (11) _ _ _ _ kN.nd rfl (aR rfl) (@aK _ _ _ _ _ _ (cO K) bD (pv 2) (@aX _ _ _ _ _ _ _ _ _ _ O (hr.mono ⋯) (@aa _ _ _ _ _ (pv 0) (@aa _ _ _ _ _ (pv 3) ai rfl) rfl) (by rfl) ⋯ (by rfl) (by rfl)) (λ_ _=>rfl)) (by rfl) (by first|exact .inl rfl|exact .inr rfl|assumption)) (@az _ _ _ _ _ (@aN _ _ (12) _ _ _ _ kN.nd rfl (aR rfl) (@aX _ _ _ _ _ _ _ _ _ _ zg (hr.mono ⋯) (@aa _ _ _ _ _ (pv 0) (@aa _ _ _ _ _ (pv 1) ai rfl) rfl) (by rfl) ⋯ (by rfl) (by rfl)) (by rfl) (by first|exact .inl rfl|exact .inr rfl|assumption)) (@az _ _ _ _ _ (@lP _ _ _ _ (lz mG qB rO oZ (pv 9) (@aa _ _ _ _ _ (@fS _ _ _ _ _ (@aa _ _ _ _ _ (pv 11) (@aa _ _ _ _ _ (pv 12) ai rfl) rfl)) ai rfl)) (by rfl)) (@aL _ _ _ (@aN _ _ (10) _ _ _ _ kN.nd rfl (aR rfl) (@aH _ _ _ _ _ _ _ _ eB (pv 10) (@aH _ _ _ _ _ _ _ _ iz (pv 12) (@aK _ _ _ _ _ _ (cO K) bD (pv 4) (pv 11) (λ_ _=>rfl)))) (by rfl) (by first|exact .inl rfl|exact .inr rfl|assumption)))))) fR) (@az _ _ _ _ _ (@jc _ _ _ _ _ _ (@aX _ _ _ _ _ _ _ _ _ _ Lr (hr.mono ⋯) (@aa _ _ _ _ _ (pv 1) (@aa _ _ _ _ _ (@aH _ _ _ _ _ _ _ _ iJ ak (pv 10)) (@aa _ _ _ _ _ (@aK _ _ _ _ _ _ (e7 K) fU (@aK _ _ _ _ _ _ (cO K) bD (pv 9) ak (λ_ _=>rfl)) ak (λ_ _=>rfl)) ai rfl) rfl) rfl) (by rfl) ⋯ (by rfl) (by rfl)) (jz (pv 4) (pv 8) set_list) (by rfl) (by rfl) (by rfl)) (@aL _ _ _ (@lP _ _ _ _ (lz mG qB rO oZ (pv 5) (@aa _ _ _ _ _ (@cM _ _ _ _ _ _ _ _ (z4 K) Rm rfl k9 BA (@aa _ _ _ _ _ (pv 9) ai rfl) ⋯ ⋯ (by rfl) (by rfl)) ai rfl)) (by rfl)))))))) (by intro _;rfl)) (@aL _ _ _ (@bY _ _ _ _ (pv 5))))),?_⟩;refine Sv.Sw B D UE hw (ρ:=[.aj, .d false _, .d false _, .d false _, .cu _, .no, .no, .no, .no, .no, .no, .no, .no]) rfl ?_;clear D hw;have p2:=hp.1;have tR:(order.map aF).length=order.length:=ao ..;refine Sv.tW 4 rfl ?_;refine Sv.seq (Sv.rY λA5=>?_);refine Sv.seq (Sv.Jh ?_);rfl';refine⟨λi ρ=>∃(n:List Int) (o:List au) (r J:Bool) (N R M x9 By n9 pX:Sl),ρ=[.aj, .d false (.int p), .d false (.list (order.map .int)), .d false (.int sp), .own A r (n.map .int), .own A5 J (o.map gg),N,R,M,x9,By,n9,pX]/\n.length=ws.length/\(∀x∈n,0<=x/\x<p)/\nG p order sp n i o,⟨ws,[],_,_,_,_,_,_,_,_,_,rfl,rfl,Z,rfl,λj prs e=>by cases e⟩,?_,?_⟩
 .rintro i d ρ ⟨hi,rfl⟩ ⟨n,o,r,J,N,R,M,x9,By,n9,pX,rfl,pT,ow,hL⟩;have Si:(n.map aF).length=n.length:=ao ..;have hi:sp+i+1<order.length:=∅
  refine Gv.n6 ?_;have k0:=iD (row:=order) (k:=sp+i) ∅;have k1:=iD (row:=order) (k:=sp+i+1) ∅;have g0:=V _ (dz k0);have g1:=V _ (dz k1);have P1:order.getD (sp+i) 0≠order.getD (sp+i+1) 0:=λz=>by have:=fQ C ∅ ∅ z;omega
  have T:bB (order.map aF) ((sp:Int)+(i:Int))=some (.int (order.getD (sp+i) 0)):=fL ∅ (by rw[show((sp:Int)+(i:Int)).toNat=sp+i by omega,bC,k0];rfl);have a1:bB (order.map aF) ((sp:Int)+(i:Int)+1)=some (.int (order.getD (sp+i+1) 0)):=fL ∅ (by rw[show((sp:Int)+(i:Int)+1).toNat=sp+i+1 by omega,bC,k1];rfl);generalize G:order.getD (sp+i) 0=a at*;generalize eb:order.getD (sp+i+1) 0=b at*;generalize eX:(jR (fk _ (eV 9)) _:TS)=tl;rfl';subst eX;refine Sv.par ?_;rfl';refine⟨_,_,rfl,?_⟩;have Ci:∀x:Int,0<=x->x<order.length->bB (n.map aF) x=some (.int (gW n x.toNat))/\0<=gW n x.toNat/\gW n x.toNat<p:=λx X S=>by
   have h1:=OJ (w:=n) (i:=x.toNat) ∅;exact⟨fL X (by rw[bC,h1];rfl),ow _ (dz h1)⟩
  obtain⟨wa,SM,JX⟩:=Ci a g0.1 g0.2;refine Sv.seq (Sv.oX (aC.lst ?_));rfl';refine Ev.kR B0 rfl ?_;rfl';refine⟨rfl,p,rfl,hp,ir,λt U7 CW=>?_⟩;rfl';refine Ev.kR B0 rfl ?_;rfl';refine⟨rfl,p,rfl,hp,ir,λu Vf FN=>?_⟩;generalize eX:(jR (qy _ _ _) _:TS)=tl;rfl';intro A9;rfl';subst eX;refine Sv.seq ?_;refine Sv.t9 (λρ=>∃(more:au) (rest:Int) (f9:Bool) (n9 pX:Sl),ρ=[.aj, .d false (.int p), .d false (.list (order.map .int)), .d false (.int sp), .own A r (n.map .int), .own A5 J (o.map gg), .d true (.int (sp+i)), .d false (.int a), .d false (.int b), .own A9 f9 (((a,t)::(b,u)::more).map ru), .d true (.int rest),n9,pX]/\((more=[]/\rest=t*gW n a.toNat)\/∃(k:Nat) (f:Int),k<sp/\1<=f/\f<p/\more=[(order.getD k 0,f)]/\rest=t*gW n a.toNat+f*gW n (order.getD k 0).toNat)) ?_ ?_
  .refine Sv.j8 ?_;rfl';intro v v0 v1;rfl';by_cases cv:v=1
   .rw[if_pos (decide_eq_true cv)];rfl';intro k k0 k1;have kk:=iD (row:=order) (k:=k.toNat) ∅;have ka:bB (order.map aF) k=some (.int (order.getD k.toNat 0)):=fL k0 (by rw[bC,kk];rfl);have kg:=V _ (dz kk);obtain⟨wk,GX,HQ⟩:=Ci _ kg.1 kg.2;refine⟨_,rfl,_,ka,?_⟩;rfl';refine Ev.kR B0 rfl ?_;rfl';refine⟨rfl,p,rfl,hp,ir,λfc Vm PD=>?_⟩;rfl';exact⟨[(order.getD k.toNat 0,fc)],_,_,_,_,rfl, .inr ⟨k.toNat,fc,∅,∅,PD,rfl,rfl⟩⟩
   .rw[if_neg (by simpa using cv)];refine Sv.next ?_
    exact⟨[],_,_,_,_,rfl, .inl ⟨rfl,rfl⟩⟩
  rintro ρ ⟨more,rest,f9,n9,pX,rfl,hm⟩;have mb:∀x y:Int,0<=x->x<p->0<=y->y<p->0<=x*y/\x*y<=10^80:=λx y X S y0 W=>⟨Bs X y0,Int.le_trans (vg (c:=10^40) (d:=10^40) ∅ ∅ y0 ⋯) ⋯⟩;have hrb:0<=rest/\rest<=10^81:=by
   have h1:=mb t _ ∅ CW SM JX;rcases hm with ⟨_,e⟩|⟨k,f,hk,f0,f1,_,e⟩
   .omega
   .have kk:=iD (row:=order) (k:=k) ∅;have kg:=V _ (dz kk);obtain⟨_,GX,HQ⟩:=Ci _ kg.1 kg.2;have h2:=mb f _ ∅ f1 GX HQ;omega
  have hml:more.length<=1:=by rcases hm with ⟨e,_⟩|⟨k,f,_,_,_,e,_⟩<;>rw[e]<;>simp
  have oW:u%p≠0:=by rw[yW ∅ FN];omega
  refine Sv.seq ?_;refine Sv.ud rfl ?_;have Vb:bB (((a,t)::(b,u)::more).map ru) 1=some (ru (b,u)):=fL ⋯ rfl;rfl';refine Ev.gv Nv ?_;rfl';refine⟨rfl,p,0-rest,u,rfl,hp,ir,oW,∅,∅,λhx=>?_⟩;have nk:=JT (p:=p) (b:=u) (a:=0-rest) ∅;generalize sol p u (0-rest)=x at*;rfl';refine⟨b,b.toNat,rfl,uD g1.1 ∅,?_⟩;rw[show(n.map aF).set b.toNat (.int x)=(n.set b.toNat x).map .int by rw[wJ]];refine Sv.l8 9 rfl ?_;refine Sv.append rfl (aC.ev (aC.O2 (Ev.var rfl ⟨(a,t)::(b,u)::more,rfl,by simp;omega,λcs' g L _=>?_⟩)));refine⟨by rw[ao,hL.1];omega,?_⟩;refine⟨n.set b.toNat x,o++[cs'],_,_,_,_,_,_,_,_,_,by rw[eN];rfl,by rw[eG];exact pT,λy hy=>?_,?_⟩
  .rcases EE hy with h|h
   .exact ow y h
   .rw[h];exact nk
  .subst eb;refine hL.snoc C V ∅ hi ?_;refine k7.perm ?_ L;subst G;exact Sj C V ∅ hi P1 ⟨∅,CW⟩ ⟨∅,FN⟩ hx hm
 .rintro ρ ⟨n,o,r,J,N,R,M,x9,By,n9,pX,rfl,pT,ow,hL⟩;refine Sv.eT 4 rfl ?_;refine Sv.l8 5 rfl ?_;refine Sv.qO (aQ.of (Ev.var rfl ?_));intro ay v' H' hv;rw[tR,show(((order.length:Int)-1)-(sp:Int)).toNat=order.length-1-sp by omega] at hL;exact⟨[_],_,_, .mk rfl .vD, .mk ⟨rfl,rfl,λa m=>m⟩ .vD,q _ _ _ pT ow hL,hv⟩
@[reducible] noncomputable def m7(ns:List Nat):PyData:= .list (ns.map fM)
def yt:DF:=λds Φ=>∃m:Nat,ds=[.int m]/\m<=400/\∀ns:List Nat,ns.length<=m+3->(∀j∈ns,j<m)->(∀j,j<m->j∈ns)->∀f,Φ f (m7 ns)
theorem Q0:fm yt:=by
 intro ds Φ Ψ hm z;revert hm;walk_at "mo";exact λq=>λns a b c f=>z _ _ (q ns a b c f)
theorem pW:cD ["bag","many","way","numbers","k"] ["bag","many"] (aT B3):=⟨rfl,rfl,rfl,by decide+kernel,rfl,by decide+kernel,by decide+kernel⟩
theorem OB(F:bT K "_law_numbers" "_law_numbers" B3 f fd)(O:Callee P w K mg base "_law_draw" 1 ["bag","many"] j5)(zj:Callee P w K mg base "_law_turned" 2 ["bag","row"] (gS 2 wX))(bW:mg "list"=none)(cL:mg "range"=none)(B7:mg "reversed"=none)(bV:mg "len"=none):
  bx P w K mg base bO 3 f fd ["bag","many"] (gS 2 yt):=by
 refine F.ok pW (λvs H Q E h=>h.1) (λcdv A outer s H vs Q E hr h=>?_);obtain⟨b,l,ws,nb,ds,Φ,rfl,M,u,a,B,D,I⟩:=rF h;obtain⟨m,rfl,hm,q⟩:=I;refine⟨_,(@az _ _ _ _ _ (@aN _ _ (2) _ _ _ _ pW.nd rfl (aR rfl) (@aX _ _ _ _ _ _ _ _ _ _ O (hr.mono ⋯) (@aa _ _ _ _ _ (pv 0) (@aa _ _ _ _ _ ak ai rfl) rfl) (by rfl) ⋯ (by rfl) (by rfl)) (by rfl) (by first|exact .inl rfl|exact .inr rfl|assumption)) (@az _ _ _ _ _ (@aN _ _ (3) _ _ _ _ pW.nd rfl (aR rfl) (@iX _ _ _ _ _ _ _ _ _ (E6 rfl) rfl bW g9 (@aa _ _ _ _ _ (@iX _ _ _ _ _ _ _ _ _ Dp rfl cL HK (@aa _ _ _ _ _ (pv 1) ai rfl) ⋯ ⋯ (by rfl) (by rfl)) ai rfl) ⋯ ⋯ (by rfl) (by rfl)) (by rfl) (by first|exact .inl rfl|exact .inr rfl|assumption)) (@az _ _ _ _ _ (@fG _ _ _ _ _ _ _ _ (@cU _ _ _ _ _ _ _ _ jZ (pv 2) ak (cA _)) (@aL _ _ _ (@aN _ _ (3) _ _ _ _ pW.nd rfl (aR rfl) (@RN _ (K) _ _ _ _ _ _ rfl rfl rfl bW rfl B7 (pv 3) (by rfl) (by rfl)) (by rfl) (by first|exact .inl rfl|exact .inr rfl|assumption))) fR) (@az _ _ _ _ _ (@fG _ _ _ _ _ _ _ _ (@cU _ _ _ _ _ _ _ _ jZ (pv 2) ak (cA _)) (@aL _ _ _ (@aN _ _ (3) _ _ _ _ pW.nd rfl (aR rfl) (@aX _ _ _ _ _ _ _ _ _ _ zj (hr.mono ⋯) (@aa _ _ _ _ _ (pv 0) (@aa _ _ _ _ _ (pv 3) ai rfl) rfl) (by rfl) ⋯ (by rfl) (by rfl)) (by rfl) (by first|exact .inl rfl|exact .inr rfl|assumption))) fR) (@az _ _ _ _ _ (@fG _ _ _ _ _ _ _ _ (@cU _ _ _ _ _ _ _ _ HU (pv 1) ak (cA _)) (@aL _ _ _ (@jP _ _ _ _ _ _ _ _ iM rfl (@pU _ _ _ _ _ _ rfl cL (@aa _ _ _ _ _ (@aX _ _ _ _ _ _ _ _ _ _ O (hr.mono ⋯) (@aa _ _ _ _ _ (pv 0) (@aa _ _ _ _ _ ak ai rfl) rfl) (by rfl) ⋯ (by rfl) (by rfl)) ai rfl) (by rfl)) (cg (i:=4) pW.nd rfl (aR rfl)) (@aL _ _ _ (@lP _ _ _ _ (lz mG Gr PySem.F.type_list_insert PF (pv 3) (@aa _ _ _ _ _ (@aX _ _ _ _ _ _ _ _ _ _ O (hr.mono ⋯) (@aa _ _ _ _ _ (pv 0) (@aa _ _ _ _ _ (@aH _ _ _ _ _ _ _ _ eB (@cM _ _ _ _ _ _ _ _ (fP K) iK rfl bV g8 (@aa _ _ _ _ _ (pv 3) ai rfl) ⋯ ⋯ (by rfl) (by rfl)) ak) ai rfl) rfl) (by rfl) ⋯ (by rfl) (by rfl)) (@aa _ _ _ _ _ (@aX _ _ _ _ _ _ _ _ _ _ O (hr.mono ⋯) (@aa _ _ _ _ _ (pv 0) (@aa _ _ _ _ _ (pv 1) ai rfl) rfl) (by rfl) ⋯ (by rfl) (by rfl)) ai rfl) rfl)) (by rfl))) (by intro _;rfl))) fR) (@aL _ _ _ (@bY _ _ _ _ (pv 3)))))))),?_⟩;refine Sv.qT M u a B D (ρ:=[.aj, .d false _, .no, .no, .no]) rfl ?_;clear D B;generalize hT:(jR (fk (eH yI _) (eV 3)) _:TS)=T;rfl';intro w w0 w1;rfl';subst hT;refine Sv.seq (Sv.oX (aC.Df ?_));rfl';intro A3;rw[show((m:Int)).toNat=m by omega];have X:((a3 m).map λ(i:Nat)=>(0:Int)+(i:Int)).map aF=(a3 m).map fM:=by
  rw[jl];exact pR λi _=>by show aF (0+(i:Int))=fM i;rw[sA]
 rw[X];have hrl:(a3 m).length=m:=gI;refine Sv.seq ?_;refine Sv.t9 (λρ=>∃(A:aw) (f:Bool) (ns:List Nat),ρ=[.aj, .d false (.int m), .d true (.int w), .own A f (ns.map fM), .no]/\ns.Perm (a3 m)) ?_ ?_
 .refine Sv.j8 ?_;rfl';by_cases c:w=1
  .rw[if_pos (decide_eq_true c)];refine Sv.oX (aC.LU rfl λA=>?_);exact⟨A,_,(a3 m).reverse,by rw[List.map_reverse];rfl,List.reverse_perm _⟩
  .rw[if_neg (by simpa using c)];refine Sv.next ?_
   exact⟨A3,_,a3 m,rfl, .refl _⟩
 rintro ρ ⟨A,f,ns,rfl,hp⟩;refine Sv.seq ?_;refine Sv.t9 (λρ=>∃(A:aw) (f:Bool) (ns:List Nat),ρ=[.aj, .d false (.int m), .d true (.int w), .own A f (ns.map fM), .no]/\ns.Perm (a3 m)) ?_ ?_
 .refine Sv.j8 ?_;rfl';by_cases c:w=2
  .rw[if_pos (decide_eq_true c)];refine Sv.Lu (lI.QX 3 rfl (lI.kR Jd rfl ?_));rfl';have hl:=hp.length_eq;refine⟨rfl,ns.map λ(j:Nat)=>(j:Int),by rw[jl];rfl,by rw[ao];omega,λJ t=>⟨rfl,?_⟩⟩;obtain⟨ms,rfl,e⟩:=Ca t _ rfl;refine .inl ⟨_,rfl,λA=>?_⟩;exact⟨A,_,ms,by rw[jl];rfl,e.trans hp⟩
  .rw[if_neg (by simpa using c)];refine Sv.next ?_
   exact⟨A,f,ns,rfl,hp⟩
 rintro ρ ⟨A,f,ns,rfl,hp⟩;refine Sv.seq ?_;refine Sv.t9 (λρ=>∃(f:Bool) (ns:List Nat) (o:Sl),ρ=[.aj, .d false (.int m), .d true (.int w), .own A f (ns.map fM),o]/\ns.length<=m+3/\(∀j∈ns,j<m)/\∀j,j<m->j∈ns) ?_ ?_
 .have h0:ns.length=m:=by rw[hp.length_eq];exact hrl
  have h1:∀j∈ns,j<m:=λj hj=>dM.mp (hp.mem_iff.mp hj);have h2:∀j,j<m->j∈ns:=λj hj=>hp.mem_iff.mpr (dM.mpr hj);refine Sv.j8 ?_;rfl';by_cases c:0<m
  .rw[if_pos (decide_eq_true ∅)];refine Sv.wg ?_;rfl';intro r r0 r1;refine⟨_,rfl,∅,∅,?_⟩;refine⟨λi ρ=>∃(f:Bool) (ns:List Nat) (o:Sl),ρ=[.aj, .d false (.int m), .d true (.int w), .own A f (ns.map fM),o]/\ns.length<=m+i/\(∀j∈ns,j<m)/\∀j,j<m->j∈ns,⟨_,_,_,rfl,∅,h1,h2⟩,?_,?_⟩
   .rintro i d ρ ⟨hi,rfl⟩ ⟨f,ns,o,rfl,g0,g1,g2⟩;have hnl:(ns.map fM).length=ns.length:=ao ..;refine Gv.n6 ?_;refine Sv.insert rfl ?_;rfl';intro k k0 k1;refine⟨_,rfl,k0,∅,∅,?_⟩;rfl';intro v v0 v1;refine⟨(f && true),ns.take k.toNat++v.toNat::ns.drop k.toNat, .d true (.int (0+(i:Int))),?_,?_,?_,?_⟩
    .rw[eN,List.map_take,bu,ox];rw[show fM v.toNat=aF v by show aF _=_;congr 1;omega]
     rfl
    .rw[fq,cH,oO,pF];omega
    .intro j hj;rcases ia.mp hj with hj|hj
     .exact g1 j (yr hj)
     .rcases aO.mp hj with hj|hj
      .omega
      .exact g1 j (DL hj)
    .intro j hj;have:=g2 j hj;rw[<-List.take_append_drop k.toNat ns] at this;rcases ia.mp this with h|h
     .exact mU _ h
     .exact iG _ (cB _ h)
   .rintro ρ ⟨f,ns,o,rfl,g0,g1,g2⟩;exact⟨f,ns,o,rfl,∅,g1,g2⟩
  .rw[if_neg (by simp;omega)];refine Sv.next ?_
   exact⟨f,ns,_,rfl,∅,h1,h2⟩
 rintro ρ ⟨f,ns,o,rfl,g0,g1,g2⟩;refine Sv.l8 3 rfl ?_;rfl';exact q ns g0 g1 g2 _
noncomputable def jd(row:List Int)(wh:Nat->Nat)(ws:List Int)(s t:Nat):Nat->List aZ
 |0=>[]
 |1=>if t<=s then[mq row wh ws (s-t) (s-t)] else[]
 |_=>c9 row wh ws s t
theorem RL{s t:Nat}:∀{j:Nat},(jd row wh ws s t j).length<=2
 |0=>iE _
 |1=>by show(if t<=s then _ else _:List aZ).length<=2;split<;>simp
 |_+2=>z0
def zm:DF:=λds Φ=>∃(row ws:List Int) (s:Nat) (wk:Ks) (wh:Nat->Nat),ds=[.list (row.map .int), .int s, .dict (wk.map bQ), .list (ws.map .int)]/\s<row.length/\row.length<=400/\row.Nodup/\(∀x∈row,0<=x/\x<ws.length)/\ws.length<=10000/\(∀j:Nat,j+1<row.length->dh wk j=some (.int (wh j)))/\∀f,Φ f (.list ((dN row wh ws s 0 (row.length-1)).map dg))
theorem Kh:fm zm:=by
 intro ds Φ Ψ hm z;revert hm;walk_at "mo";exact λq=>λf=>z _ _ (q f)
theorem pA:cD ["row","start","where","word","rounds","step","turns","at","link"] ["row","start","where","word"] (aT A8):=⟨rfl,rfl,rfl,by decide+kernel,rfl,by decide+kernel,by decide+kernel⟩
theorem S3(F:bT K "_law_rounds" "_law_rounds" A8 f fd)(cL:mg "range"=none)(bV:mg "len"=none)(k9:mg "sorted"=none):
    bx P w K mg base bO 1 f fd ["row","start","where","word"] (c6 4 zm):=by
  refine F.ok pA (λvs H Q E h=>h.1) (λcdv A outer s H vs Q E hr h=>?_);obtain⟨nb,ds,Φ,u,B,D,I⟩:=kD h;obtain⟨row,ws,s,wk,wh,rfl,O,hl,C,V,U,J,q⟩:=I;refine⟨_,(@az _ _ _ _ _ (@aN _ _ (4) _ _ _ _ pA.nd rfl (aR rfl) (@fO _ _ _ _ ai) (by rfl) (by first|exact .inl rfl|exact .inr rfl|assumption)) (@az _ _ _ _ _ (@jP _ _ _ _ _ _ _ _ iM rfl (@tw _ _ _ _ _ _ _ rfl cL (@aa _ _ _ _ _ ak (@aa _ _ _ _ _ (@cM _ _ _ _ _ _ _ _ (fP K) iK rfl bV g8 (@aa _ _ _ _ _ (pv 0) ai rfl) ⋯ ⋯ (by rfl) (by rfl)) ai rfl) rfl) (by rfl) (by rfl)) (cg (i:=5) pA.nd rfl (aR rfl)) (@az _ _ _ _ _ (@aN _ _ (6) _ _ _ _ pA.nd rfl (aR rfl) (@fO _ _ _ _ ai) (by rfl) (by first|exact .inl rfl|exact .inr rfl|assumption)) (@az _ _ _ _ _ (@jP _ _ _ _ _ _ _ _ iM rfl (jo (K:=K) rfl (@fO _ _ _ _ (@aa _ _ _ _ _ (@fS _ _ _ _ _ (@aa _ _ _ _ _ (@aH _ _ _ _ _ _ _ _ iJ (pv 1) (pv 5)) (@aa _ _ _ _ _ (@aH _ _ _ _ _ _ _ _ iJ (pv 1) (pv 5)) ai rfl) rfl)) (@aa _ _ _ _ _ (@fS _ _ _ _ _ (@aa _ _ _ _ _ (@aH _ _ _ _ _ _ _ _ eB (pv 1) (pv 5)) (@aa _ _ _ _ _ (@aH _ _ _ _ _ _ _ _ iJ (@aH _ _ _ _ _ _ _ _ eB (pv 1) (pv 5)) ak) ai rfl) rfl)) ai rfl) rfl))) (@qX _ (K) _ _ _ (2) _ rfl rfl (@gy _ _ _ _ _ (cg (i:=7) pA.nd rfl (aR rfl)) (@gy _ _ _ _ _ (cg (i:=8) pA.nd rfl (aR rfl)) oQ (by rfl)) (by rfl)) (by rfl) (by rfl)) (@aL _ _ _ (@fG _ _ _ _ _ _ _ _ (PW.pt (vQ (@cU _ _ _ _ _ _ _ _ HX (pv 7) ak (cA _)) (w4 (@cU _ _ _ _ _ _ _ _ wN (pv 7) (@cM _ _ _ _ _ _ _ _ (fP K) iK rfl bV g8 (@aa _ _ _ _ _ (pv 0) ai rfl) ⋯ ⋯ (by rfl) (by rfl)) (cA _))))) (@aL _ _ _ (@lP _ _ _ _ (lz mG qB rO oZ (pv 6) (@aa _ _ _ _ _ (@fS _ _ _ _ _ (@aa _ _ _ _ _ (@aK _ _ _ _ _ _ (cO K) bD (pv 0) (pv 7) (λ_ _=>rfl)) (@aa _ _ _ _ _ (@aK _ _ _ _ _ _ (oH) Bl (pv 2) (pv 8) (λ_ _=>rfl)) (@aa _ _ _ _ _ (@aK _ _ _ _ _ _ (cO K) bD (pv 3) (@aK _ _ _ _ _ _ (cO K) bD (pv 0) (pv 7) (λ_ _=>rfl)) (λ_ _=>rfl)) ai rfl) rfl) rfl)) ai rfl)) (by rfl))) fR)) (by intro _;rfl)) (@aL _ _ _ (@fG _ _ _ _ _ _ _ _ (@cU _ _ _ _ _ _ _ _ (Eo hr.units) (pv 6) (@fO _ _ _ _ ai) (cA _)) (@aL _ _ _ (@lP _ _ _ _ (lz mG qB rO oZ (pv 4) (@aa _ _ _ _ _ (@cM _ _ _ _ _ _ _ _ (zA K) Q4 rfl k9 BA (@aa _ _ _ _ _ (pv 6) ai rfl) ⋯ ⋯ (by rfl) (by rfl)) ai rfl)) (by rfl))) fR)))) (by intro _;rfl)) (@aL _ _ _ (@bY _ _ _ _ (pv 4))))),?_⟩;refine Sv.jY u B D (ρ:=[.d false _, .d false _, .d false _, .d false _, .no, .no, .no, .no, .no]) rfl ?_;clear D B;have G:(row.map aF).length=row.length:=ao ..;have Si:(ws.map aF).length=ws.length:=ao ..;have hat:∀k:Nat,k<row.length->bB (row.map aF) (k:Int)=some (.int (row.getD k 0)):=λk hk=>fL ∅ (by rw[ic,bC,iD hk];rfl);have S:∀x∈row,bB (ws.map aF) x=some (.int (ws.getD x.toNat 0)):=λx hx=>by
    have:=V x hx;exact fL this.1 (by rw[bC,iD (row:=ws) ∅];rfl)
  refine Sv.seq (Sv.rY λl=>?_);refine Sv.seq (Sv.Jh ?_);rfl';refine⟨λi ρ=>∃(r:Bool) (n N R M:Sl),ρ=[.d false (.list (row.map .int)), .d false (.int s), .d false (.dict (wk.map bQ)), .d false (.list (ws.map .int)), .own l r ((dN row wh ws s 0 i).map dg),n,N,R,M],⟨_,_,_,_,_,rfl⟩,?_,?_⟩
  · rintro i d ρ ⟨hi,rfl⟩ ⟨r,n,N,R,M,rfl⟩
    have hi:i+1<row.length:=∅
    refine Gv.n6 ?_;refine Sv.seq (Sv.rY λo=>?_);refine Sv.seq (Sv.forL (Ev.lst ?_));rfl';refine λv=>⟨λj ρ=>∃(e:Bool) (R M:Sl),ρ=[.d false (.list (row.map .int)), .d false (.int s), .d false (.dict (wk.map bQ)), .d false (.list (ws.map .int)), .own l r ((dN row wh ws s 0 i).map dg), .d true (.int (1+(i:Int))), .own o e ((jd row wh ws s (i+1) j).map j7),R,M],⟨_,_,_,rfl⟩,?_,?_⟩
    · rintro j d ρ hd ⟨e,R,M,rfl⟩
      have hfl:(jd row wh ws s (i+1) j).length<10000:=by have:=RL (row:=row) (wh:=wh) (ws:=ws) (s:=s) (t:=i+1) (j:=j);omega
      match j,hd with
      | 0, hd =>
        cases hd;rfl';show jV _ _ _ _ [aF ((s:Int)-(1+(i:Int))),aF ((s:Int)-(1+(i:Int)))] _;rfl';by_cases c:i+1<=s
        · have e1:(s:Int)-(1+(i:Int))=((s-(i+1):Nat):Int):=∅
          have hk:s-(i+1)<row.length:=∅
          have h1:=hat _ hk;have h2:=S _ (iu hk);have h3:=J (s-(i+1)) ∅;have ep:jd row wh ws s (i+1) 1=[mq row wh ws (s-(i+1)) (s-(i+1))]:=if_pos c;rw[e1,if_pos (decide_eq_true ∅)];rfl';refine Ev.xu (Ev.var rfl ⟨wk,rfl,Ev.var rfl ⟨_,rfl,_,h3,?_⟩⟩);rfl';show∃(e:Bool) (R M:Sl),(_:Rh)=[.d false (.list (row.map .int)), .d false (.int s), .d false (.dict (wk.map bQ)), .d false (.list (ws.map .int)), .own l r ((dN row wh ws s 0 i).map dg), .d true (.int (1+(i:Int))), .own o e ((jd row wh ws s (i+1) 1).map j7),R,M];rw[ep];exact⟨_,_,_,rfl⟩
        · have ep:jd row wh ws s (i+1) 1=[]:=if_neg c
          rw[if_neg (by simp;omega)];rfl';show∃(e:Bool) (R M:Sl),(_:Rh)=[.d false (.list (row.map .int)), .d false (.int s), .d false (.dict (wk.map bQ)), .d false (.list (ws.map .int)), .own l r ((dN row wh ws s 0 i).map dg), .d true (.int (1+(i:Int))), .own o e ((jd row wh ws s (i+1) 1).map j7),R,M];rw[ep];exact⟨_,_,_,rfl⟩
      | 1, hd =>
        cases hd;rfl';show jV _ _ _ _ [aF ((s:Int)+(1+(i:Int))),aF ((s:Int)+(1+(i:Int))-1)] _;rfl';have e2:jd row wh ws s (i+1) 2=jd row wh ws s (i+1) 1++if s+(i+1)<row.length then[mq row wh ws (s+(i+1)) (s+(i+1)-1)] else[]:=rfl
        by_cases c:s+(i+1)<row.length
        · have e1:(s:Int)+(1+(i:Int))=((s+(i+1):Nat):Int):=∅
          have e3:((s+(i+1):Nat):Int)-1=((s+(i+1)-1:Nat):Int):=∅
          have h1:=hat _ c;have h2:=S _ (iu c);have h3:=J (s+(i+1)-1) ∅;rw[if_pos c] at e2;rw[e1,e3,if_pos (decide_eq_true (by rw[ao];omega))];rfl';refine Ev.xu (Ev.var rfl ⟨wk,rfl,Ev.var rfl ⟨_,rfl,_,h3,?_⟩⟩);rfl';refine⟨by rw[ao];exact hfl,?_⟩;show∃(e:Bool) (R M:Sl),(_:Rh)=[.d false (.list (row.map .int)), .d false (.int s), .d false (.dict (wk.map bQ)), .d false (.list (ws.map .int)), .own l r ((dN row wh ws s 0 i).map dg), .d true (.int (1+(i:Int))), .own o e ((jd row wh ws s (i+1) 2).map j7),R,M];rw[e2,eN];exact⟨_,_,_,rfl⟩
        · rw[if_neg c,fT] at e2
          rw[if_neg (by simp;omega)];rfl';show∃(e:Bool) (R M:Sl),(_:Rh)=[.d false (.list (row.map .int)), .d false (.int s), .d false (.dict (wk.map bQ)), .d false (.list (ws.map .int)), .own l r ((dN row wh ws s 0 i).map dg), .d true (.int (1+(i:Int))), .own o e ((jd row wh ws s (i+1) 2).map j7),R,M];rw[e2];exact⟨_,_,_,rfl⟩
      |j+2,hd=>cases hd
    · rintro ρ ⟨e,R,M,rfl⟩
      have e2:jd row wh ws s (i+1) 2=c9 row wh ws s (i+1):=rfl;have jw:=DN (row:=row) (wh:=wh) (ws:=ws) (s:=s) (k:=i) (t:=0);rw[Nat.zero_add] at jw;have hrl:=AV (row:=row) (wh:=wh) (ws:=ws) (s:=s) (k:=i) (t:=0);show Sv _ [.d false (.list (row.map .int)), .d false (.int s), .d false (.dict (wk.map bQ)), .d false (.list (ws.map .int)), .own l r ((dN row wh ws s 0 i).map dg), .d true (.int (1+(i:Int))), .own o e ((c9 row wh ws s (i+1)).map j7),R,M] _ _;refine Sv.j8 (Tv.lend 6 rfl ?_);rfl';refine⟨GI _,FD,_,rfl,?_⟩;rw[lC,E7];have eX:=z0 (row:=row) (wh:=wh) (ws:=ws) (s:=s) (t:=i+1);have p:∀{cs':List aZ},cs'.Perm (c9 row wh ws s (i+1))->cs'.Pairwise (λc d=>jL d c=false)->cs'=(c9 row wh ws s (i+1)).mergeSort λa b=>decide (a.1<=b.1):=λ{cs'} hp hw=>by
        have nd:=Dl (wh:=wh) (ws:=ws) C O (t:=i+1) ∅;refine tX ?_ (IU nd) (hp.trans (nB _ _).symm);have y:cs'.Pairwise λa b=>a.1≠b.1:=nN.mp ((hp.map λm:aZ=>m.1).nodup_iff.mpr nd);refine(hw.and y).imp λ{a b} ⟨h1,h2⟩=>?_;unfold jL at h1;rw[if_neg (λz=>h2 z.symm)] at h1;have:=of_decide_eq_false h1;omega
      by_cases c:c9 row wh ws s (i+1)=[]
      · rw[if_neg (by rw[decide_eq_true c];simp)]
        rw[if_pos c,fT] at jw;refine Sv.next ?_
        show∃(r:Bool) (n N R M:Sl),(_:Rh)=[.d false (.list (row.map .int)), .d false (.int s), .d false (.dict (wk.map bQ)), .d false (.list (ws.map .int)), .own l r ((dN row wh ws s 0 (i+1)).map dg),n,N,R,M];rw[jw];exact⟨_,_,_,_,_,rfl⟩
      · rw[if_pos (by rw[decide_eq_false c];rfl)]
        rw[if_neg c] at jw;refine Sv.l8 6 rfl ?_;refine Sv.append rfl (aC.ev (aC.Ux (Ev.var rfl ⟨c9 row wh ws s (i+1),rfl,∅,λcs' g hp hw=>?_⟩)));refine⟨by rw[ao];omega,?_⟩;rw[p hp hw];show∃(r:Bool) (n N R M:Sl),(_:Rh)=[.d false (.list (row.map .int)), .d false (.int s), .d false (.dict (wk.map bQ)), .d false (.list (ws.map .int)), .own l r ((dN row wh ws s 0 (i+1)).map dg),n,N,R,M];rw[jw,eN];exact⟨_,_,_,_,_,rfl⟩
  · rintro ρ ⟨r,n,N,R,M,rfl⟩
    refine Sv.l8 4 rfl ?_;rfl';rw[G,show((row.length:Int)-1).toNat=row.length-1 by omega];exact q _
def qz(C:aw):CF:=λc ds Φ=>∃(x dx l:aw) (p n a:Int) (cs:List au) (wd:Wo),c=aU C x dx (fX (cS p n cs) l wd)/\ds=[.int a]/\0<=a/\a<n/\wd.length=n.toNat/\Φ (aU C x dx (fX (cS p n cs) l (wd.set a.toNat none))) true .none
theorem Tj:kF (qz C):=by
 intro c ds Φ Ψ h z;obtain⟨x,dx,l,p,n,a,cs,wd,e1,e2,h1,h2,h3,q⟩:=h;exact⟨x,dx,l,p,n,a,cs,wd,e1,e2,h1,h2,h3,z _ _ _ q⟩
theorem K0:cD ["self","place"] ["self","place"] (aT pY):=⟨rfl,rfl,rfl,by decide+kernel,rfl,by decide+kernel,by decide+kernel⟩
theorem UP(F:bT K "lose" "Mender.lose" pY f fd){aB:aw}(j:dO K aB)(k:fB K aB "letters")(y:fB K aB "net")(g:Callee P w K mg base "ask_place" 1 ["n","place"] (c6 2 B5)):
  bx P w K mg base bO 2 f fd ["self","place"] (dw 2 (qz aB)):=by
 refine F.ok K0 (λvs H Q E h=>h.1) (λcdv A outer s H vs Q E hr h=>?_);obtain⟨_,nb,c,ws,ds,rfl,u,t,b,G,B,I⟩:=h;obtain⟨Φ,D,I⟩:∃Φ:Cu->Pd,(∀c' f d v H',Φ c' f d->mw c c' H H'->c'.P (λa=>nb a\/a∈c'.F) H'->ah (λa=>nb a\/a∈c'.F\/(f=true/\H a≠none)) H' d v->Q v H')/\qz aB c ds Φ:=⟨_,λc' f d v H' q=>q v H',I⟩;obtain⟨x,dx,l,p,n,a,cs,wd,rfl,rfl,T,a1,hl,q⟩:=I;refine⟨_,(@az _ _ _ _ _ (@lP _ _ _ _ (@aX _ _ _ _ _ _ _ _ _ _ g (hr.mono ⋯) (@aa _ _ _ _ _ (@aK _ _ _ _ _ _ (e7 K) fU (@o8 _ _ _ _ _ (pv 0) rfl) ak (λ_ _=>rfl)) (@aa _ _ _ _ _ (pv 1) ai rfl) rfl) (by rfl) ⋯ (by rfl) (by rfl)) (by rfl)) (@aL _ _ _ (@jc _ _ _ _ _ _ pO (jz (@o8 _ _ _ _ _ (pv 0) rfl) (pv 1) set_list) (by rfl) (by rfl) (by rfl)))),?_⟩;refine Sv.ou u t b G B D (ρ:=[.cu _, .d false _]) rfl ?_;clear D B;refine Sv.seq ?_;refine Sv.drop ?_;refine Ev.gv NT ?_;refine Av.cons (Ev.BR (Ev.fld rfl j y rfl ?_));rfl';refine⟨rfl,n,a,rfl,T,a1,?_⟩;refine Sv.Je rfl j k rfl ?_;rfl';refine⟨_,a.toNat,rfl,uD T (by rw[ao];omega),?_⟩;have e:(wd.map gx).set a.toNat .none=(wd.set a.toNat none).map gx:=by rw[wJ];rfl
 rw[e,HM];exact⟨_,rfl,⟨rfl,rfl,λa m=>m⟩,q⟩
theorem zV(wd:Wo)(h:wd.length<=10000):pG (n+2) (ff wd):= .inr ⟨_, .inl rfl,by rw[ao];exact h,λe he=>by
 obtain⟨o,_,rfl⟩:=cF.mp he;cases o<;>exact .inl rfl⟩
theorem Pa(ms:List aZ)(h:ms.length<=10000):pG (n+3) (dg ms):= .inr ⟨_, .inl rfl,by rw[ao];exact h,λe he=>by
 obtain⟨m,_,rfl⟩:=cF.mp he
 exact .inr ⟨_, .inr rfl,(by decide:3<=10000),λe he=>by
  rcases aO.mp he with rfl|he
  .exact .inl rfl
  rcases aO.mp he with rfl|he
  .exact .inl rfl
  rcases aO.mp he with rfl|he
  .exact .inl rfl
  .cases he⟩⟩
theorem xR(J:List (List aZ))(h:J.length<=10000)(h2:∀r∈J,r.length<=10000):pG (n+4) (.list (J.map dg)):= .inr ⟨_, .inl rfl,by rw[ao];exact h,λe he=>by
 obtain⟨m,hm,rfl⟩:=cF.mp he;exact Pa m (h2 m hm)⟩
structure GK(row:List Int)(wk:Ks)(wh:Nat->Nat):Prop where
 val:∀j:Nat,j+1<row.length->dh wk j=some (.int (wh j))
 has:∀j:Int,fZ wk j=decide (0<=j/\j+1<row.length)
def wA(C:aw):CF:=λc ds Φ=>∃(x dx l:aw) (p:Int) (cs:List au) (row ws:List Int) (ns:List Nat) (wh:Nat->Nat) (wk:Ks) (a:Nat),c=aU C x dx (fX (cS p ws.length cs) l (ws.map some))/\ds=[.list (row.map .int), .int a, .dict (wk.map bQ), .list (ws.map .int)]/\iF p row ns cs ws wh/\GK row wk wh/\a<row.length/\2<=row.length/\ws.length<=400/\row.length<=400/\Φ (aU C x dx (fX (cS p ws.length cs) l (ws.map some))) true (.bool true)
theorem LY:kF (wA C):=by
 intro c ds Φ Ψ h z;obtain⟨x,dx,l,p,cs,row,ws,ns,wh,wk,a,e1,e2,h1,h2,h3,h4,h5,d,q⟩:=h;exact⟨x,dx,l,p,cs,row,ws,ns,wh,wk,a,e1,e2,h1,h2,h3,h4,h5,d,z _ _ _ q⟩
theorem yX:cD ["mender","row","at","where","word","some","due"] ["mender","row","at","where","word"] (aT sE):=⟨rfl,rfl,rfl,by decide+kernel,rfl,by decide+kernel,by decide+kernel⟩
theorem Pr(F:bT K "_law_once_more" "_law_once_more" sE f fd){aB:aw}(T:iC P w K mg base aB "lose" 2 ["self","place"] (dw 2 (qz aB)))(qZ:iC P w K mg base aB "mend" 7 ["self"] (dw 1 (nH aB)))(qb:iC P w K mg base aB "word" 1 ["self"] (dw 1 (mY aB)))(lN:Callee P w K mg base "_law_alike" 5 ["found","due"] (c6 2 (nv 5)))(AZ:mg "min"=none):
    bx P w K mg base bO 8 f fd ["mender","row","at","where","word"] (dw 5 (wA aB)):=by
  refine F.ok yX (λvs H Q E h=>h.1) (λcdv A outer s H vs Q E hr h=>?_);obtain⟨_,nb,c,ws,ds,rfl,u,t,b,G,B,I⟩:=h;obtain⟨Φ,D,I⟩:∃Φ:Cu->Pd,(∀c' f d v H',Φ c' f d->mw c c' H H'->c'.P (λa=>nb a\/a∈c'.F) H'->ah (λa=>nb a\/a∈c'.F\/(f=true/\H a≠none)) H' d v->Q v H')/\wA aB c ds Φ:=⟨_,λc' f d v H' q=>q v H',I⟩;obtain⟨x,dx,l,p,cs,row,ws,ns,wh,wk,k,rfl,rfl,hC,hW,hk,O,U,hrl,q⟩:=I;refine⟨_,(@az _ _ _ _ _ (@lP _ _ _ _ (@P0 _ _ _ _ _ _ _ _ _ _ _ _ _ _ T (pv 0) (hr.mono ⋯) (@aa _ _ _ _ _ (@aK _ _ _ _ _ _ (cO K) bD (pv 1) (pv 2) (λ_ _=>rfl)) ai rfl) (by rfl) (by rfl) (by rfl)) (by rfl)) (@az _ _ _ _ _ (zU (i:=5) yX.nd rfl rfl (gD.of (show jb (aT sE) ["mender","row","at","where","word","some","due"] _ ["link","where"] [none,some 3]=true by decide+kernel)) (jo (K:=K) rfl (@fO _ _ _ _ (@aa _ _ _ _ _ (@aH _ _ _ _ _ _ _ _ iJ (pv 2) ak) (@aa _ _ _ _ _ (pv 2) ai rfl) rfl))) (λ_ _ _ _=>⟨(cg (i:=0) (by show da (["link","where"]:List Str);decide+kernel) rfl (aR rfl)),(zF (@cU _ _ _ _ _ _ _ _ (Tg hr.units) (pv 0) (pv 1) (by with_unfolding_all rfl))),(@aK _ _ _ _ _ _ (oH) Bl (pv 1) (pv 0) (λ_ _=>rfl))⟩)) (@az _ _ _ _ _ (@aN _ _ (6) _ _ _ _ yX.nd rfl (aR rfl) (@fO _ _ _ _ (@aa _ _ _ _ _ (@fO _ _ _ _ (@aa _ _ _ _ _ (@fS _ _ _ _ _ (@aa _ _ _ _ _ (@aK _ _ _ _ _ _ (cO K) bD (pv 1) (pv 2) (λ_ _=>rfl)) (@aa _ _ _ _ _ (@cM _ _ _ _ _ _ _ _ (BK K) (KP rfl) rfl AZ pa (@aa _ _ _ _ _ (pv 5) ai rfl) ⋯ ⋯ (by rfl) (by rfl)) (@aa _ _ _ _ _ (@aK _ _ _ _ _ _ (cO K) bD (pv 4) (@aK _ _ _ _ _ _ (cO K) bD (pv 1) (pv 2) (λ_ _=>rfl)) (λ_ _=>rfl)) ai rfl) rfl) rfl)) ai rfl)) ai rfl)) (by rfl) (by first|exact .inl rfl|exact .inr rfl|assumption)) (@aL _ _ _ (@bY _ _ _ _ (@GG _ _ _ _ _ _ _ (@aX _ _ _ _ _ _ _ _ _ _ lN (hr.mono ⋯) (@aa _ _ _ _ _ (@lE _ _ _ _ _ _ _ _ _ _ _ qZ (pv 0) (hr.mono ⋯) (by rfl)) (@aa _ _ _ _ _ (pv 6) ai rfl) rfl) (by rfl) ⋯ (by rfl) (by rfl)) (@zP _ _ _ _ _ (@aX _ _ _ _ _ _ _ _ _ _ lN (hr.mono ⋯) (@aa _ _ _ _ _ (@lE _ _ _ _ _ _ _ _ _ _ _ qb (pv 0) (hr.mono ⋯) (by rfl)) (@aa _ _ _ _ _ (pv 4) ai rfl) rfl) (by rfl) ⋯ (by rfl) (by rfl))))))))),?_⟩;refine Sv.ou u t b G B D (ρ:=[.cu _, .d false _, .d false _, .d false _, .d false _, .no, .no]) rfl ?_;clear D B;have p2:=hC.nq.1.1;have ir:=hC.nq.2.1;have hxk:=hC.rg _ (iu hk);have hat:bB (row.map aF) (k:Int)=some (.int (row.getD k 0)):=fL ∅ (by rw[ic,bC,iD hk];rfl);have S:bB (ws.map aF) (row.getD k 0)=some (.int (ws.getD (row.getD k 0).toNat 0)):=fL hxk.1 (by rw[bC,iD (row:=ws) ∅];rfl);have hws:(ws.map some).set (row.getD k 0).toNat none=aM ws [row.getD k 0]:=by rw[<-uV,DU hxk.1];rfl
  refine Sv.seq (Sv.Kc (aQ.kW Tj rfl rfl (aU.is rfl) ?_));rfl';refine⟨rfl,x,dx,l,p,ws.length,row.getD k 0,cs,ws.map some,rfl,rfl,hxk.1,hxk.2,by rw[ao];omega,?_⟩;rw[hws];refine Sv.seq ?_;refine Sv.setC (aC.ev (aC.ny ⋯ rfl ?_));refine Ev.lst ?_;rfl';have o:∀j:Int,fZ wk j=decide (0<=j/\j+1<row.length):=hW.has;refine λv=>⟨false,λi es=>es=(lu row.length wh k i).map fM,rfl,?_,?_⟩
  · rintro i d es hd hl' rfl
    match i,hd with
    | 0, hd =>
      cases hd;rfl';refine⟨by walk_at "wk",Tv.test (Ev.Jk (Ev.var rfl ⟨_,rfl,Ev.var rfl ⟨wk,rfl,_,rfl,?_⟩⟩))⟩;rw[zz,o];by_cases c:1<=k
      · have e1:(k:Int)-1=((k-1:Nat):Int):=∅
        have h3:=hW.val (k-1) ∅;rw[if_pos (decide_eq_true ∅),e1];refine Ev.xu (Ev.var rfl ⟨wk,rfl,Ev.var rfl ⟨_,rfl,_,h3,λz=>(by cases z),?_⟩⟩);show _=((if 1<=k then[wh (k-1)] else[]:List Nat)).map fM;rw[if_pos c]
        rfl
      · rw[if_neg (by simp;omega)]
        show _=((if 1<=k then[wh (k-1)] else[]:List Nat)).map fM;rw[if_neg c]
        rfl
    | 1, hd =>
      cases hd;rfl';refine⟨by walk_at "wk",Tv.test (Ev.Jk (Ev.var rfl ⟨_,rfl,Ev.var rfl ⟨wk,rfl,_,rfl,?_⟩⟩))⟩;rw[zz,o];by_cases c:k+1<row.length
      · have h3:=hW.val k c
        rw[if_pos (decide_eq_true ∅)];refine Ev.xu (Ev.var rfl ⟨wk,rfl,Ev.var rfl ⟨_,rfl,_,h3,λz=>(by cases z),?_⟩⟩);show _=((if 1<=k then[wh (k-1)] else[]:List Nat)++if k+1<row.length then[wh k] else[]).map fM;rw[if_pos c,eN]
        rfl
      · rw[if_neg (by simp;omega)]
        show _=((if 1<=k then[wh (k-1)] else[]:List Nat)++if k+1<row.length then[wh k] else[]).map fM;rw[if_neg c,fT]
        rfl
    |j+2,hd=>cases hd
  · rintro es hl' rfl
    have g:∀m:Nat,m∈lu row.length wh k 2↔(1<=k/\m=wh (k-1))\/(k+1<row.length/\m=wh k):=λm=>by
      show m∈(if 1<=k then[wh (k-1)] else[]:List Nat)++(if k+1<row.length then[wh k] else[])↔_;rw[ia];by_cases h1:1<=k<;>by_cases h2:k+1<row.length<;>simp[h1,h2]
    have N:(lu row.length wh k 2).map fM=((lu row.length wh k 2).map λ(j:Nat)=>(j:Int)).map .int:=by rw[jl];rfl
    have R:(lu row.length wh k 2).map (λ(j:Nat)=>(j:Int))≠[]:=λz=>by
      have z:=List.map_eq_nil_iff.mp z;by_cases h1:1<=k
      · have:=(g (wh (k-1))).mpr (.inl ⟨h1,rfl⟩)
        rw[z] at this;cases this
      · have:=(g (wh k)).mpr (.inr ⟨∅,rfl⟩)
        rw[z] at this;cases this
    show Sv _ [.cu (aU aB x dx (fX (cS p ws.length cs) l (aM ws [row.getD k 0]))), .d false (.list (row.map .int)), .d false (.int k), .d false (.dict (wk.map bQ)), .d false (.list (ws.map .int)), .d (false||eK ((lu row.length wh k 2).map fM)) (.list ((lu row.length wh k 2).map fM)), .no] _ _;generalize eX:(lG (sG _ _):TS)=tl;refine Sv.seq (Sv.asg ?_);rfl';refine Ev.Po (Ev.var rfl ⟨_,by rw[N],R,λM J n=>?_⟩);obtain⟨m,hm,rfl⟩:=cF.mp J;have C:∀a∈lu row.length wh k 2,m<=a:=λa ha=>by
      have:=n _ (cF.mpr ⟨a,ha,rfl⟩);omega
    obtain⟨o1,o2⟩:=hC.one hk (M:=m) (by
      rcases(g m).mp hm with ⟨h1,rfl⟩|⟨h1,rfl⟩
      · exact⟨k-1,(hC.mK (k-1) ∅).1, .inr ∅⟩
      · exact⟨k,(hC.mK k h1).1, .inl rfl⟩) (λc hc j hj=>by
      have hjl:=(hC.lk c j hj).1;refine⟨λz=>?_,λz=>?_⟩
      · subst z
        have:=C _ ((g (wh j)).mpr (.inr ⟨hjl,rfl⟩));exact(hC.mK j hjl).2 c ∅ hj
      · have e:j=k-1:=∅
        subst e;have:=C _ ((g (wh (k-1))).mpr (.inl ⟨∅,rfl⟩));exact(hC.mK (k-1) ∅).2 c ∅ hj)
    rfl';subst eX;show Sv _ [.cu (aU aB x dx (fX (cS p ws.length cs) l (aM ws [row.getD k 0]))), .d false (.list (row.map .int)), .d false (.int k), .d false (.dict (wk.map bQ)), .d false (.list (ws.map .int)),_, .d false (.list ([[(row.getD k 0,((m:Nat):Int),ws.getD (row.getD k 0).toNat 0)]].map dg))] _ _;have L:gc p cs (aM ws [row.getD k 0]).length:=by rw[fj];exact hC.nq
    have V:iU (aM ws [row.getD k 0]):=λy hy=>by
      obtain⟨j,hj⟩:=jr hy;have hjl:=(bG.mp hj).1;rw[fj] at hjl;rw[jC hjl] at hj;split at hj;· cases hj
      · have e:=fF (fF hj)
        have:=hC.hr _ (dz (iD (row:=ws) hjl));rw[e] at this;unfold Sm;omega
    refine Sv.qO (aQ.Az (aQ.gv (mL 5) (lq.cons (aQ.kW zk rfl rfl (aU.is rfl) (Av.nil ⟨rfl,x,dx,l,p,ws.length,cs,aM ws [row.getD k 0],rfl,rfl,L,V,by rw[fj];omega,?_,?_⟩)))))
    · rw[o1]
      intro r hr;rw[aJ.mp hr];exact(by decide:1<64)
    rw[o1,o2];rfl';refine⟨rfl, .list ([[(row.getD k 0,((m:Nat):Int),ws.getD (row.getD k 0).toNat 0)]].map dg),rfl,xR _ (AU rfl) (λr hr=>by rw[aJ.mp hr];exact(by decide:1<=10000)),true,rfl,?_⟩;rw[if_pos rfl];refine aQ.gv (mL 5) (lq.cons (aQ.kW yo rfl rfl (aU.is rfl) (Av.nil ⟨rfl,x,dx,l,cS p ws.length cs,ws.map some,rfl,rfl,?_⟩)));rfl';refine⟨rfl,ff (ws.map some),by show[ff (ws.map some),ec (ws.map .int)]=_;rw[show ec (ws.map .int)=ff (ws.map some) by show _=ec _;rw[jl];rfl],zV _ (by rw[ao];omega),?_⟩;intro ay v' H' hv;exact⟨_,_,_,rfl,⟨rfl,rfl,λa m=>m⟩,q,hv⟩
def oG(ns:List Nat)(wk:Ks)(i:Nat):Prop:=∀j:Int,dh wk j=if 0<=j/\j.toNat∈ns.take i then some (.int (ns.idxOf j.toNat)) else none
theorem oG.step{ns:List Nat}{wk:Ks}{I:Nat}(h:oG ns wk i)(hj:ns[i]?=some I):oG ns (lT wk (I:Int) ((dh wk (I:Int)).getD (.int (i:Int)))) (i+1):=λj=>by
 have hi:=(bG.mp hj).1;rw[RE,rr hj];by_cases c:j=(I:Int)
 .subst c;rw[if_pos rfl];refine Eq.trans ?_ (if_pos (c:=0<=(I:Int)/\(I:Int).toNat∈ns.take i++[I]) ⟨∅,by rw[ic];exact iG _ (aJ.mpr rfl)⟩).symm;rw[h,ic];by_cases m:I∈ns.take i;·rw[if_pos ⟨∅,m⟩];rfl
  .rw[if_neg λz=>m z.2];have e:ns.idxOf I=i:=by
    have hm:I∈ns:=dz hj;have hl:=Et hm;rcases Nat.lt_trichotomy (ns.idxOf I) i with z|z|z
    .refine absurd ?_ m;have:=h8 hl;exact dz (i:=ns.idxOf I) (by rw[List.getElem?_take,if_pos z,aA hl,this])
    .exact z
    .have:=Ge (p:=(· ==I)) (xs:=ns) (i:=i) z;rw[aA hi] at hj;simp at this;exact absurd (fF hj) this
   rw[e];rfl
 .rw[if_neg c,h];by_cases m:0<=j/\j.toNat∈ns.take i;·rw[if_pos m,if_pos ⟨m.1,mU _ m.2⟩]
  .rw[if_neg m,if_neg];rintro⟨z1,z2⟩;rcases ia.mp z2 with z2|z2
   .exact m ⟨z1,z2⟩
   .have:=aJ.mp z2;omega
theorem oG.ok{ns:List Nat}{wk:Ks}(h:oG ns wk ns.length)(hm:row.length=m+1)(h1:∀j∈ns,j<m)(h2:∀j,j<m->j∈ns):GK row wk λj=>ns.idxOf j:=by
 refine⟨λj hj=>?_,λj=>?_⟩;·rw[h,j3,ic,if_pos ⟨∅,h2 j ∅⟩]
 .rw[<-A7,h,j3];by_cases c:0<=j/\j+1<row.length;·rw[if_pos ⟨c.1,h2 _ ∅⟩,decide_eq_true c];rfl
  .rw[if_neg λz=>c ⟨z.1,by have:=h1 _ z.2;omega⟩,decide_eq_false c];rfl
theorem nG.Qo{order:List Int}{sp:Nat}{o:List au}{ns:List Nat}(h:nG p order sp ws m o)(hp:fK p)(ir:p<10^40)(C:order.Nodup)(V:∀x∈order,0<=x/\x<order.length)(U:ws.length=order.length)(Z:∀x∈ws,0<=x/\x<p)(hm:order.length=sp+m+1)(hn:ns.length<=1000)(h1:∀j∈ns,j<m)(h2:∀j,j<m->j∈ns):
  iF p (order.drop sp) ns (ns.map λj=>o.getD j []) ws λj=>ns.idxOf j:=by
 have p2:=hp.1;have hls:=h.1;have rl:(order.drop sp).length=m+1:=by rw[pF];omega
 have rg:∀{j:Nat},j<m+1->(order.drop sp).getD j 0=order.getD (sp+j) 0:=λ{j} hj=>by
  rw[bq,bq,List.getElem?_drop]
 have lk:∀{j:Nat},j<m->∃prs,o[j]?=some prs/\o.getD j []=prs/\k7 p order sp ws j prs:=λ{j} hj=>by
  have e:o[j]?=some o[j]:=aA ∅;exact⟨_,e,by rw[bq,e];rfl,h.2 j _ e⟩
 have b:∀prs∈ns.map (λj=>o.getD j []),∃j,k7 p order sp ws j prs:=λprs hm=>by
  obtain⟨j,hj,rfl⟩:=cF.mp hm;obtain⟨prs,_,e,hk⟩:=lk (h1 j hj);exact⟨j,by rw[e];exact hk⟩
 refine⟨⟨hp,ir,by rw[ao];exact hn,λprs hm=>?_⟩,Z,λprs hm=>(b prs hm).elim λj k=>k.du,(List.drop_sublist sp order).nodup C,λx hx=>by rw[U];exact V x (DL hx),by rw[ao],λc j hc=>?_,λj hj=>?_⟩
 .obtain⟨j,k⟩:=b prs hm;refine⟨by have:=k.len;omega,λpr a=>?_,λpr a=>?_⟩
  .have:=k.rg pr a;exact⟨this.1,by rw[U];exact this.2.1,by unfold Sm;omega⟩
  .have:=k.rg pr a;rw[yW ∅ this.2.2.2];omega
 .have Sd:=h1 j (dz hc);obtain⟨prs,_,e,hk⟩:=lk Sd;refine⟨∅,prs,by rw[bC,hc];show some (o.getD j [])=_;rw[e],hk.nd,λx hx=>?_⟩;rw[rg ∅,rg ∅];refine⟨λM=>?_,λz=>?_⟩
  .rcases hk.ma x M with z|z|⟨k,hks,z⟩
   .exact .inl z
   .exact .inr z
   .obtain⟨t,ht⟩:=jr hx;have eX:=(bG.mp ht).1;have:order.getD (sp+t) 0=x:=by
     rw[<-rg ∅,bq,ht];rfl
    have:=fQ C (j:=sp+t) (k:=k) ∅ ∅ (by rw[this,z]);omega
  .rcases z with z|z
   .rw[z];exact hk.m0
   .rw[z];exact hk.m1
 .have d:j∈ns:=h2 j ∅;have hl:=Et d;refine⟨by rw[aA hl,h8 hl],λc hc e=>?_⟩;have hcl:=(bG.mp e).1;have:=Ge (p:=(· ==j)) (xs:=ns) (i:=c) hc;rw[aA hcl] at e;simp at this;exact this (fF e)
noncomputable abbrev nK(a:aw)(S:Nat)(kn p:Int)(sp:Nat)(order:List Int)(st ag:Nat)(ws:List Int)(ls:List au)(Ny s12 T7 K6 Kw OY Mz xj uE wM:Sl):Rh:=[.raw (.ref a), .aj, .d true (.int S), .d true (.bool (decide (0<kn))), .d true (.int p), .d true (.int sp), .d false (.list (order.map .int)), .d true (.int st), .d true (.int ag), .d false (.list (ws.map .int)), .d false (.list (ls.map gg)),Ny,s12,T7,K6,Kw,OY,Mz,xj,uE,wM]
noncomputable def jx(row:List Int)(s:Nat)(kn:Bool)(i:Nat):List Int:=((a3 i).filter λa=>decide (a≠s)||!kn).map λa=>row.getD a 0
theorem OW{s:Nat}(O:s<row.length)(hn:row.Nodup):aM ws (jx row s true row.length)=aM ws (eY row s 0):=by
 refine mO λi _=>?_;unfold jx eY;simp only[cF,dQ,dM];constructor
 .rintro⟨a,⟨h1,h2⟩,e⟩;exact⟨a,⟨h1,decide_eq_true (by simp at h2;omega)⟩,e⟩
 .rintro⟨a,⟨h1,h2⟩,e⟩;exact⟨a,⟨h1,by have:=of_decide_eq_true h2;simp;omega⟩,e⟩
theorem MC{s:Nat}:aM ws (jx row s false row.length)=aM ws row:=by
 refine mO λi _=>?_;unfold jx;simp only[cF,dQ,dM];constructor
 .rintro⟨a,⟨h1,_⟩,e⟩;rw[<-e];exact iu h1
 .intro m;obtain⟨a,ha⟩:=jr m;have hal:=(bG.mp ha).1;exact⟨a,⟨hal,by simp⟩,by rw[bq,ha];rfl⟩
theorem eZ:cD ["script","bag","size","known","p","springs","order","start","again","word","links","numbers","where","k","net","row","lossy","at","due","found","mender"] ["script"] (aT jH):=⟨rfl,rfl,rfl,by decide+kernel,rfl,by decide+kernel,by decide+kernel⟩
theorem Sa(F:bT K "law" "law" jH f fd){aB:aw}(qZ:iC P w K mg base aB "mend" 7 ["self"] (dw 1 (nH aB)))(qb:iC P w K mg base aB "word" 1 ["self"] (dw 1 (mY aB)))(ym:wF P w K mg base aB "Mender" 2 ["self","net","word"] (dw 3 (pJ aB)))(OH:Callee P w K mg base "_law_bag" 1 ["script"] (Ez K))(RG:Callee P w K mg base "_law_prime" 2 ["bag"] (gS 1 zJ))(zj:Callee P w K mg base "_law_turned" 2 ["bag","row"] (gS 2 wX))(O:Callee P w K mg base "_law_draw" 1 ["bag","many"] j5)(UW:Callee P w K mg base "_law_chain" 3 ["bag","p","order","springs","word"] (rG [false,false,false,true] AE))(Ll:Callee P w K mg base "_law_numbers" 3 ["bag","many"] (gS 2 yt))(RA:Callee P w K mg base "_law_letter" 2 ["bag","p"] (gS 2 yC))(NS:Callee P w K mg base "_law_rounds" 1 ["row","start","where","word"] (c6 4 zm))(Kv:Callee P w K mg base "mended" 8 ["net","word"] (c6 2 xO))(lN:Callee P w K mg base "_law_alike" 5 ["found","due"] (c6 2 (nv 5)))(Fj:Callee P w K mg base "_law_copy" 1 ["net"] (c6 1 zh))(Ms:Callee P w K mg base "_law_once_more" 8 ["mender","row","at","where","word"] (dw 5 (wA aB)))(cL:mg "range"=none)(bW:mg "list"=none)(bV:mg "len"=none):
    bx P w K mg base bO 9 f fd ["script"] (uM K):=by
  refine F.ok eZ (λvs H Q E h=>?_) (λcdv A outer s H vs Q E hr h=>?_)
  · obtain⟨a,ns,rfl,N,hl,q⟩:=h
    rfl
  obtain⟨a,ns,rfl,N,hl,q⟩:=h;refine⟨_,(@az _ _ _ _ _ (@aN _ _ (1) _ _ _ _ eZ.nd rfl (ee rfl) (@aX _ _ _ _ _ _ _ _ _ _ OH (hr.mono ⋯) (@aa _ _ _ _ _ (pv 0) ai rfl) (by rfl) ⋯ (by rfl) (by rfl)) (by rfl) (by first|exact .inl rfl|exact .inr rfl|assumption)) (@az _ _ _ _ _ (@aN _ _ (2) _ _ _ _ eZ.nd rfl (aR rfl) (@aH _ _ _ _ _ _ _ _ eB ak (@aX _ _ _ _ _ _ _ _ _ _ O (hr.mono ⋯) (@aa _ _ _ _ _ (pv 1) (@aa _ _ _ _ _ (@aK _ _ _ _ _ _ (cO K) bD (@fO _ _ _ _ (@Gj _ _ _ rfl)) (@aX _ _ _ _ _ _ _ _ _ _ O (hr.mono ⋯) (@aa _ _ _ _ _ (pv 1) (@aa _ _ _ _ _ ak ai rfl) rfl) (by rfl) ⋯ (by rfl) (by rfl)) (λ_ _=>rfl)) ai rfl) rfl) (by rfl) ⋯ (by rfl) (by rfl))) (by rfl) (by first|exact .inl rfl|exact .inr rfl|assumption)) (@az _ _ _ _ _ (@aN _ _ (3) _ _ _ _ eZ.nd rfl (aR rfl) (@vK _ _ _ _ _ _ _ _ HU (@aX _ _ _ _ _ _ _ _ _ _ O (hr.mono ⋯) (@aa _ _ _ _ _ (pv 1) (@aa _ _ _ _ _ ak ai rfl) rfl) (by rfl) ⋯ (by rfl) (by rfl)) ak (cA _)) (by rfl) (by first|exact .inl rfl|exact .inr rfl|assumption)) (@az _ _ _ _ _ (@aN _ _ (4) _ _ _ _ eZ.nd rfl (ee rfl) (@aX _ _ _ _ _ _ _ _ _ _ RG (hr.mono ⋯) (@aa _ _ _ _ _ (pv 1) ai rfl) (by rfl) ⋯ (by rfl) (by rfl)) (by rfl) (by first|exact .inl rfl|exact .inr rfl|assumption)) (@az _ _ _ _ _ (@aN _ _ (5) _ _ _ _ eZ.nd rfl (aR rfl) (@aH _ _ _ _ _ _ _ _ eB ak (@aX _ _ _ _ _ _ _ _ _ _ O (hr.mono ⋯) (@aa _ _ _ _ _ (pv 1) (@aa _ _ _ _ _ ak ai rfl) rfl) (by rfl) ⋯ (by rfl) (by rfl))) (by rfl) (by first|exact .inl rfl|exact .inr rfl|assumption)) (@az _ _ _ _ _ (@aN _ _ (6) _ _ _ _ eZ.nd rfl (aR rfl) (@aX _ _ _ _ _ _ _ _ _ _ zj (hr.mono ⋯) (@aa _ _ _ _ _ (pv 1) (@aa _ _ _ _ _ (@iX _ _ _ _ _ _ _ _ _ (E6 rfl) rfl bW g9 (@aa _ _ _ _ _ (@iX _ _ _ _ _ _ _ _ _ Dp rfl cL HK (@aa _ _ _ _ _ (@aH _ _ _ _ _ _ _ _ eB (pv 2) (pv 5)) ai rfl) ⋯ ⋯ (by rfl) (by rfl)) ai rfl) ⋯ ⋯ (by rfl) (by rfl)) ai rfl) rfl) (by rfl) ⋯ (by rfl) (by rfl)) (by rfl) (by first|exact .inl rfl|exact .inr rfl|assumption)) (@az _ _ _ _ _ (@aN _ _ (7) _ _ _ _ eZ.nd rfl (aR rfl) (@aK _ _ _ _ _ _ (cO K) bD (@fO _ _ _ _ (@aa _ _ _ _ _ ak (@aa _ _ _ _ _ (@aH _ _ _ _ _ _ _ _ iJ (pv 2) ak) (@aa _ _ _ _ _ (@aX _ _ _ _ _ _ _ _ _ _ O (hr.mono ⋯) (@aa _ _ _ _ _ (pv 1) (@aa _ _ _ _ _ (pv 2) ai rfl) rfl) (by rfl) ⋯ (by rfl) (by rfl)) ai rfl) rfl) rfl)) (@aX _ _ _ _ _ _ _ _ _ _ O (hr.mono ⋯) (@aa _ _ _ _ _ (pv 1) (@aa _ _ _ _ _ ak ai rfl) rfl) (by rfl) ⋯ (by rfl) (by rfl)) (λ_ _=>rfl)) (by rfl) (by first|exact .inl rfl|exact .inr rfl|assumption)) (@az _ _ _ _ _ (@aN _ _ (8) _ _ _ _ eZ.nd rfl (aR rfl) (@aX _ _ _ _ _ _ _ _ _ _ O (hr.mono ⋯) (@aa _ _ _ _ _ (pv 1) (@aa _ _ _ _ _ (pv 2) ai rfl) rfl) (by rfl) ⋯ (by rfl) (by rfl)) (by rfl) (by first|exact .inl rfl|exact .inr rfl|assumption)) (@az _ _ _ _ _ (zU (i:=9) eZ.nd rfl rfl (gD.of (show jb (aT jH) ["script","bag","size","known","p","springs","order","start","again","word","links","numbers","where","k","net","row","lossy","at","due","found","mender"] _ ["place","bag","p"] [none,some 1,some 4]=true by decide+kernel)) (jo (K:=K) rfl (pv 6)) (λ_ _ _ _=>⟨(cg (i:=0) (by show da (["place","bag","p"]:List Str);decide+kernel) rfl (aR rfl)),mh,(@aX _ _ _ _ _ _ _ _ _ _ RA (hr.mono ⋯) (@aa _ _ _ _ _ (pv 1) (@aa _ _ _ _ _ (pv 2) ai rfl) rfl) (by rfl) ⋯ (by rfl) (by rfl))⟩)) (@az _ _ _ _ _ (@aN _ _ (10) _ _ _ _ eZ.nd rfl (ee rfl) (@aX _ _ _ _ _ _ _ _ _ _ UW (hr.mono ⋯) (@aa _ _ _ _ _ (pv 1) (@aa _ _ _ _ _ (pv 4) (@aa _ _ _ _ _ (pv 6) (@aa _ _ _ _ _ (pv 5) (@aa _ _ _ _ _ (pv 9) ai rfl) rfl) rfl) rfl) rfl) (by rfl) ⋯ (by rfl) (by rfl)) (by rfl) (by first|exact .inl rfl|exact .inr rfl|assumption)) (@az _ _ _ _ _ (@aN _ _ (11) _ _ _ _ eZ.nd rfl (aR rfl) (@aX _ _ _ _ _ _ _ _ _ _ Ll (hr.mono ⋯) (@aa _ _ _ _ _ (pv 1) (@aa _ _ _ _ _ (@cM _ _ _ _ _ _ _ _ (fP K) iK rfl bV g8 (@aa _ _ _ _ _ (pv 10) ai rfl) ⋯ ⋯ (by rfl) (by rfl)) ai rfl) rfl) (by rfl) ⋯ (by rfl) (by rfl)) (by rfl) (by first|exact .inl rfl|exact .inr rfl|assumption)) (@az _ _ _ _ _ (@aN _ _ (12) _ _ _ _ eZ.nd rfl (aR rfl) CZ (by rfl) (by first|exact .inl rfl|exact .inr rfl|assumption)) (@az _ _ _ _ _ (@jP _ _ _ _ _ _ _ _ iM rfl (@pU _ _ _ _ _ _ rfl cL (@aa _ _ _ _ _ (@cM _ _ _ _ _ _ _ _ (fP K) iK rfl bV g8 (@aa _ _ _ _ _ (pv 11) ai rfl) ⋯ ⋯ (by rfl) (by rfl)) ai rfl) (by rfl)) (cg (i:=13) eZ.nd rfl (aR rfl)) (@aL _ _ _ (@jc _ _ _ _ _ _ (lz PySem.F.plainAttrs_dict DG PySem.F.type_dict_get Sg (pv 12) (@aa _ _ _ _ _ (@aK _ _ _ _ _ _ (cO K) bD (pv 11) (pv 13) (λ_ _=>rfl)) (@aa _ _ _ _ _ (pv 13) ai rfl) rfl)) (jz (pv 12) (@aK _ _ _ _ _ _ (cO K) bD (pv 11) (pv 13) (λ_ _=>rfl)) set_dict) (by rfl) (by rfl) (by rfl))) (by intro _;rfl)) (@az _ _ _ _ _ (@aN _ _ (14) _ _ _ _ eZ.nd rfl (aR rfl) (@fS _ _ _ _ _ (@aa _ _ _ _ _ (pv 4) (@aa _ _ _ _ _ (@cM _ _ _ _ _ _ _ _ (fP K) iK rfl bV g8 (@aa _ _ _ _ _ (pv 6) ai rfl) ⋯ ⋯ (by rfl) (by rfl)) (@aa _ _ _ _ _ (lJ (gD.of (show jb (aT jH) ["script","bag","size","known","p","springs","order","start","again","word","links","numbers","where","k","net","row","lossy","at","due","found","mender"] _ ["link","links"] [none,some 10]=true by decide+kernel)) (jo (K:=K) rfl (pv 11)) (λ_ _ _ _=>⟨(cg (i:=0) (by show da (["link","links"]:List Str);decide+kernel) rfl (aR rfl)),mh,(@iX _ _ _ _ _ _ _ _ (iA K) kU rfl bW g9 (@aa _ _ _ _ _ (@aK _ _ _ _ _ _ (cO K) bD (pv 1) (pv 0) (λ_ _=>rfl)) ai rfl) ⋯ ⋯ (by rfl) (by rfl))⟩)) ai rfl) rfl) rfl)) (by rfl) (by first|exact .inl rfl|exact .inr rfl|assumption)) (@az _ _ _ _ _ (@aN _ _ (15) _ _ _ _ eZ.nd rfl (aR rfl) (@Cf _ _ _ _ _ _ _ _ _ (pD K) B9 (pv 6) (@xN _ _ _ (pv 5)) zY) (by rfl) (by first|exact .inl rfl|exact .inr rfl|assumption)) (@az _ _ _ _ _ (@aN _ _ (16) _ _ _ _ eZ.nd rfl (aR rfl) (@iX _ _ _ _ _ _ _ _ (iA K) kU rfl bW g9 (@aa _ _ _ _ _ (pv 9) ai rfl) ⋯ ⋯ (by rfl) (by rfl)) (by rfl) (by first|exact .inl rfl|exact .inr rfl|assumption)) (@az _ _ _ _ _ (@jP _ _ _ _ _ _ _ _ iM rfl (@pU _ _ _ _ _ _ rfl cL (@aa _ _ _ _ _ (pv 2) ai rfl) (by rfl)) (cg (i:=17) eZ.nd rfl (aR rfl)) (@aL _ _ _ (@fG _ _ _ _ _ _ _ _ (PW.pt (sj (@cU _ _ _ _ _ _ _ _ lX (pv 17) (pv 7) (cA _)) (qF (@vA _ _ _ _ (@l9 _ (K) _ _ rfl (pv 3) (λ_=>rfl)))))) (@aL _ _ _ (@jc _ _ _ _ _ _ pO (jz (pv 16) (@aK _ _ _ _ _ _ (cO K) bD (pv 15) (pv 17) (λ_ _=>rfl)) set_list) (by rfl) (by rfl) (by rfl))) fR)) (by intro _;rfl)) (@az _ _ _ _ _ (@aN _ _ (18) _ _ _ _ eZ.nd rfl (aR rfl) (@xJ _ _ _ _ _ _ _ _ (@l9 _ (K) _ _ rfl (pv 3) (λ_=>rfl)) (@aX _ _ _ _ _ _ _ _ _ _ NS (hr.mono ⋯) (@aa _ _ _ _ _ (pv 15) (@aa _ _ _ _ _ (pv 7) (@aa _ _ _ _ _ (pv 12) (@aa _ _ _ _ _ (pv 9) ai rfl) rfl) rfl) rfl) (by rfl) ⋯ (by rfl) (by rfl)) (@fO _ _ _ _ ai)) (by rfl) (by first|exact .inl rfl|exact .inr rfl|assumption)) (@az _ _ _ _ _ (@fG _ _ _ _ _ _ _ _ (@cU _ _ _ _ _ _ _ _ jZ (@aX _ _ _ _ _ _ _ _ _ _ O (hr.mono ⋯) (@aa _ _ _ _ _ (pv 1) (@aa _ _ _ _ _ ak ai rfl) rfl) (by rfl) ⋯ (by rfl) (by rfl)) ak (cA _)) (@az _ _ _ _ _ (@aN _ _ (19) _ _ _ _ eZ.nd rfl (aR rfl) (@aX _ _ _ _ _ _ _ _ _ _ Kv (hr.mono ⋯) (@aa _ _ _ _ _ (@aX _ _ _ _ _ _ _ _ _ _ Fj (hr.mono ⋯) (@aa _ _ _ _ _ (pv 14) ai rfl) (by rfl) ⋯ (by rfl) (by rfl)) (@aa _ _ _ _ _ (@iX _ _ _ _ _ _ _ _ (iA K) kU rfl bW g9 (@aa _ _ _ _ _ (pv 16) ai rfl) ⋯ ⋯ (by rfl) (by rfl)) ai rfl) rfl) (by rfl) ⋯ (by rfl) (by rfl)) (by rfl) (by first|exact .inl rfl|exact .inr rfl|assumption)) (@aL _ _ _ (@bY _ _ _ _ (@aX _ _ _ _ _ _ _ _ _ _ lN (hr.mono ⋯) (@aa _ _ _ _ _ (pv 19) (@aa _ _ _ _ _ (@fS _ _ _ _ _ (@aa _ _ _ _ _ (@xJ _ _ _ _ _ _ _ _ (@l9 _ (K) _ _ rfl (pv 3) (λ_=>rfl)) (pv 9) (pv 16)) (@aa _ _ _ _ _ (pv 18) ai rfl) rfl)) ai rfl) rfl) (by rfl) ⋯ (by rfl) (by rfl))))) fR) (@az _ _ _ _ _ (@aN _ _ (20) _ _ _ _ eZ.nd rfl (aR rfl) (@Jl _ _ _ _ _ _ _ _ _ _ _ ym (hr.mono ⋯) (@aa _ _ _ _ _ (@aX _ _ _ _ _ _ _ _ _ _ Fj (hr.mono ⋯) (@aa _ _ _ _ _ (pv 14) ai rfl) (by rfl) ⋯ (by rfl) (by rfl)) (@aa _ _ _ _ _ (@iX _ _ _ _ _ _ _ _ (iA K) kU rfl bW g9 (@aa _ _ _ _ _ (pv 16) ai rfl) ⋯ ⋯ (by rfl) (by rfl)) ai rfl) rfl) (by rfl) ⋯ (by rfl) (by rfl)) (by rfl) (by first|exact .inl rfl|exact .inr rfl|assumption)) (@az _ _ _ _ _ (@fG _ _ _ _ _ _ _ _ (PW.pt (sj (@vA _ _ _ _ (@l9 _ (K) _ _ rfl (@aX _ _ _ _ _ _ _ _ _ _ lN (hr.mono ⋯) (@aa _ _ _ _ _ (@lE _ _ _ _ _ _ _ _ _ _ _ qZ (pv 20) (hr.mono ⋯) (by rfl)) (@aa _ _ _ _ _ (pv 18) ai rfl) rfl) (by rfl) ⋯ (by rfl) (by rfl)) (λ_=>rfl))) (qF (@vA _ _ _ _ (@l9 _ (K) _ _ rfl (@aX _ _ _ _ _ _ _ _ _ _ lN (hr.mono ⋯) (@aa _ _ _ _ _ (@lE _ _ _ _ _ _ _ _ _ _ _ qb (pv 20) (hr.mono ⋯) (by rfl)) (@aa _ _ _ _ _ (@xJ _ _ _ _ _ _ _ _ (@l9 _ (K) _ _ rfl (pv 3) (λ_=>rfl)) (pv 9) (pv 16)) ai rfl) rfl) (by rfl) ⋯ (by rfl) (by rfl)) (λ_=>rfl)))))) (@aL _ _ _ (@bY _ _ _ _ sU)) fR) (@aL _ _ _ (@bY _ _ _ _ (@Dg _ _ _ _ _ _ _ (@Ma _ _ _ _ (pv 3)) (@Dg _ _ _ _ _ _ _ (@vK _ _ _ _ _ _ _ _ jZ (pv 2) ak (cA _)) (@zP _ _ _ _ _ (@aX _ _ _ _ _ _ _ _ _ _ Ms (hr.mono ⋯) (@aa _ _ _ _ _ (pv 20) (@aa _ _ _ _ _ (pv 15) (@aa _ _ _ _ _ (pv 8) (@aa _ _ _ _ _ (pv 12) (@aa _ _ _ _ _ (pv 9) ai rfl) rfl) rfl) rfl) rfl) (by rfl) ⋯ (by rfl) (by rfl)))))))))))))))))))))))))))),?_⟩;walk_at "st";refine⟨a,ns,rfl,N,hl,λb l H1 s1 f1 B1=>?_⟩;have xG:=s1.seq N;have key:∀(t:TS) (D:Ends),(∀H,D.rt (.bl true) H)->Sv (AX b l H1) [.raw (.ref a), .aj, .no, .no, .no, .no, .no, .no, .no, .no, .no, .no, .no, .no, .no, .no, .no, .no, .no, .no, .no] t {nx:=λ_=>False,rt:=λ_ d=>d= .bool true}->t D [some (.ref a),some (.ref b),none,none,none,none,none,none,none,none,none,none,none,none,none,none,none,none,none,none,none] H1:=λt D d2 h=>h _ _ _ D (UA (m:=19) B1) (MJ d2);refine R.CV ?_;dsimp only;refine key _ _ (λH=>?_) ?_;· exact q _
  clear key q;rfl';intro w w0 w1;obtain⟨m,em,m0,m1⟩:=pick (L:=[12,12,12,12,12,12,40,396]) w0 (by show w<8;omega) (λx=>1<=x/\x<=396) ⋯;refine⟨_,rfl,_,em,_,rfl,∅,by unfold Sm;omega,λu u0 u1=>⟨_,rfl,?_⟩⟩;rfl';intro kn kn0 kn1;rfl';refine Ev.kR M6 rfl ?_;rfl';refine⟨rfl,λp hp ir Z=>?_⟩;have p2:=hp.1;rfl';intro sp' sp0 sp1;rfl';refine Ev.kR Jd rfl ?_;rfl';refine aC.ev (aC.Df ?_);rfl';obtain⟨S,CL⟩:∃S:Nat,1+u=(S:Int):=⟨(1+u).toNat,∅⟩;obtain⟨sp,jN⟩:∃s:Nat,1+sp'=(s:Int):=⟨(1+sp').toNat,∅⟩;rw[CL,jN];have xG:1<=S:=∅
  have Vw:S<=396:=∅
  have hs1:1<=sp:=∅
  have Y:sp<=4:=∅
  clear CL jN u0 u1 sp0 sp1 em m0 m1 w0 w1;rw[show((S:Int)+(sp:Int)).toNat=S+sp by omega];refine⟨rfl,_,rfl,by rw[ao,gI];omega,λorder w6=>?_⟩;have E3:order.length=sp+(S-1)+1:=by rw[w6.length_eq,ao,gI];omega
  have C:order.Nodup:=w6.nodup_iff.mpr (by
    refine qM _ (λa b (h:a≠b)=>?_) List.nodup_range;omega)
  have V:∀x∈order,0<=x/\x<order.length:=λx hx=>by
    obtain⟨j,hj,rfl⟩:=cF.mp (w6.mem_iff.mp hx);have:=dM.mp hj;omega
  clear w6;have tR:(order.map aF).length=order.length:=ao ..;generalize eX:(jR (rS 9 _) _:TS)=tl;rfl';intro d d0 d1;rfl';intro t t0 t1;obtain⟨st,DO,hst⟩:∃st:Nat,bB [aF 0, .int ((S:Int)-1), .int d] t=some (.int st)/\st<S:=by
    have:t=0\/t=1\/t=2:=∅
    rcases this with rfl|rfl|rfl
    · exact⟨0,rfl,∅⟩
    · exact⟨S-1,by rw[show(((S-1:Nat)):Int)=(S:Int)-1 by omega];rfl,∅⟩
    · exact⟨d.toNat,by rw[show((d.toNat:Nat):Int)=d by omega];rfl,∅⟩
  refine⟨_,rfl,_,DO,?_⟩;rfl';intro ag' ag0 ag1;obtain⟨ag,TM⟩:∃s:Nat,ag'=(s:Int):=⟨ag'.toNat,∅⟩;subst TM;rfl';subst eX;clear DO t0 t1 d0 d1;refine Sv.seq (Sv.LJ (aC.ny ⋯ rfl ?_));rfl';refine λv=>⟨true,λi es=>∃ws:List Int,es=ws.map .int/\ws.length=i/\∀x∈ws,0<=x/\x<p,⟨[],rfl,rfl,λ_ m=>by cases m⟩,?_,?_⟩
  · rintro i d es hd hl' ⟨ws,rfl,hwi,hws⟩
    rfl';refine⟨by walk_at "wk",?_⟩;rfl';refine Ev.kR Ld rfl ?_;rfl';refine⟨rfl,p,rfl,p2,ir,λx X x1=>?_⟩;rfl';refine⟨λ_=>rfl,ws++[x],by rw[eN];rfl,by rw[fq,hwi];rfl,λy m=>?_⟩;rcases ia.mp m with m|m
    · exact hws y m
    · rw[aJ.mp m];exact⟨X,x1⟩
  rintro es hl' ⟨ws,rfl,hwi,hwr⟩;rw[ao] at hwi;clear hl';intro A9;refine Sv.seq ?_;refine Sv.eT 9 rfl ?_;refine Sv.tF (aQ.Sn [9] [eT A9 (ws.map .int)] SR ⋯ rfl (.mk rfl .vD) (PB rfl) ?_);refine gT.data (Ev.var rfl (gT.data (Ev.var rfl (gT.data (Ev.var rfl (gT.thing rfl (gT.nil ⟨trivial,?_⟩)))))));refine⟨A9,p,order,ws,sp,rfl,rfl,hp,ir,C,V,∅,hs1,∅,hwi,hwr,λn o fl pT ow T=>?_⟩;clear hwr;rw[show order.length-1-sp=S-1 by omega] at T;refine Gv.vJ ?_;refine Sv.tW 9 rfl ?_;refine Sv.l8 9 rfl ?_;have hls:o.length=S-1:=T.1;have RV:(o.map gg).length=o.length:=ao ..;rw[hwi] at pT;clear hwi;show Sv _ (nK a S kn p sp order st ag n o .no .no .no .no .no .no .no .no .no .no) _ _;generalize eX:(jR (fk xX _) _:TS)=tl;rfl';refine Ev.kR Q0 rfl ?_;rfl';refine⟨rfl,S-1,by rw[RV,hls];rfl,∅,λnm hnl hn1 M fn=>?_⟩;subst eX;refine Gv.vJ ?_;have hnm:(nm.map fM).length=nm.length:=ao ..;refine Sv.seq (Sv.Dq (qp.new λSH=>?_));refine Sv.seq (Sv.wg ?_);rfl';refine⟨λi ρ=>∃(jB:Bool) (wk:Ks) (lF:Sl),ρ=nK a S kn p sp order st ag n o (.d false (m7 nm)) (.bF SH jB wk) lF .no .no .no .no .no .no .no/\wk.length<=i/\oG nm wk i,⟨_,[],_,rfl,iE _,λj=>by rw[DQ];simp⟩,?_,?_⟩
  · rintro i d ρ ⟨hi,rfl⟩ ⟨jB,wk,lF,rfl,nU,hI⟩
    obtain⟨I,hj0⟩:∃j,nm[i]?=some j:=⟨_,aA ∅⟩;have hat:bB (nm.map fM) (0+(i:Int))=some (.int (I:Int)):=fL ∅ (by rw[show(0+(i:Int)).toNat=i by omega,bC,hj0];rfl);refine Gv.n6 ?_;refine Sv.ED rfl ?_;refine Ev.UB rfl ?_;rfl';refine⟨_,_,_,rfl,?_,?_⟩
    · unfold lT
      split;· rw[ao];omega
      · rw[fq];exact ke nU
    · rw[sA]
      exact hI.step hj0
  rintro ρ ⟨jB,wk,lF,rfl,nU,hI⟩;rw[hnm,ic] at hI;clear nU;refine Sv.Mm 12 rfl ?_;have hrl:(order.drop sp).length=S-1+1:=by rw[pF];omega
  have hW:=hI.ok hrl hn1 M;have hC:=T.Qo (ns:=nm) hp ir C V ∅ ow E3 ∅ hn1 M;clear hI;have KA:∀j:Nat,j<S-1->bB (o.map gg) (j:Int)=some (gg (o.getD j [])):=λj hj=>fL ∅ (by rw[ic,bC,bq,aA ∅];rfl);show Sv _ (nK a S kn p sp order st ag n o (.d false (m7 nm)) (.d jB (.dict (wk.map bQ))) lF .no .no .no .no .no .no .no) _ _;generalize eX:(jR (fk (oY _ _ _ _) (eV 15)) _:TS)=tl;rfl';refine aC.ev (aC.ny ⋯ rfl ?_);rfl';refine λv=>⟨false,λi es=>es=((nm.take i).map λj=>o.getD j []).map gg,rfl,?_,?_⟩
  · rintro i d es hd hl' rfl
    obtain⟨I,hj0,rfl⟩:=mD hd;have hat:=KA I (hn1 I (dz hj0));rfl';refine⟨by walk_at "wk",?_⟩;rfl';refine⟨λz=>(by cases z),?_⟩;show _=dn gg (dn _ (nm.take (i+1)));rw[rr hj0,eN,eN]
    rfl
  rintro es hl' rfl;rw[hnm,j3];rfl';subst eX;generalize hcs:(nm.map λj=>o.getD j [])=cs at*;rw[tR,<-pT];have hdr:(order.drop sp).map aF=kZ (order.map aF) (some (sp:Int)) none:=by
    unfold kZ;rw[HT.Nk,HT.Pn,tR,Nat.min_eq_left ∅,ox];exact(sC (by rw[pF];omega)).symm
  generalize VC:order.drop sp=row at*;show Sv _ (nK a S kn p sp order st ag n o (.d false (m7 nm)) (.d jB (.dict (wk.map bQ))) lF (.d false (cS p n.length cs)) .no .no .no .no .no .no) _ _;generalize eX:(jR (fk (eH (iA K) (aV (bE 9) bI)) (eV 16)) _:TS)=tl;refine Sv.seq (Sv.asg ?_);rfl';rw[<-hdr];rfl';subst eX;refine Sv.seq (Sv.oX (aC.listOf (Ev.var rfl ⟨_, .inl rfl,λO7=>?_⟩)));have hws:n.map aF=(aM n (jx row st (decide (0<kn)) 0)).map gx:=by
    rw[show jx row st (decide (0<kn)) 0=[] from rfl,uV,jl];rfl
  rw[hws];generalize uQ:decide (0<kn)=W at*;have Qc:∀k:Nat,k<row.length->bB (row.map aF) (k:Int)=some (.int (row.getD k 0)):=λk hk=>fL ∅ (by rw[ic,bC,iD hk];rfl);refine Sv.seq (Sv.wg ?_);rfl';refine⟨λi ρ=>∃(jF:Bool) (sq:Sl),ρ=nK a S kn p sp order st ag n o (.d false (m7 nm)) (.d jB (.dict (wk.map bQ))) lF (.d false (cS p n.length cs)) (.d false (.list (row.map .int))) (.own O7 jF ((aM n (jx row st W i)).map gx)) sq .no .no .no,⟨_,_,rfl⟩,?_,?_⟩
  · rintro i d ρ ⟨hi,rfl⟩ ⟨jF,sq,rfl⟩
    have hi:i<row.length:=∅
    have h1:=Qc i hi;have nk:=hC.rg _ (iu hi);refine Gv.n6 ?_;rw[sA];have jw:jx row st W (i+1)=jx row st W i++if(decide (i≠st)||!W)=true then[row.getD i 0] else[]:=by
      unfold jx;rw[MN,eN];split<;>rfl
    refine Sv.j8 (Tv.monoB (Ψ:=λb=>b=(decide (i≠st)||!W)) ?_ λb hb=>?_)
    · rfl'
      by_cases c:i=st
      · rw[if_neg (by simp[c])]
        refine Tv.not (Tv.m8 (Ev.var rfl ⟨W,by rw[uQ],?_⟩));simp[c]
      · rw[if_pos (by simp;omega)]
        simp[c]
    subst hb;by_cases c:(decide (i≠st)||!W)=true
    · rw[if_pos c] at jw⊢
      refine Sv.ud rfl ?_;rfl';refine⟨_,(row.getD i 0).toNat,rfl,uD nk.1 (by rw[ao,fj];omega),?_⟩;refine⟨(jF && true), .d true (.int i),?_⟩;rw[jw,<-DU nk.1,wJ]
      rfl
    · rw[if_neg c] at jw⊢
      rw[fT] at jw;refine Sv.next ?_
      refine⟨jF, .d true (.int i),?_⟩;rw[jw]
      rfl
  rintro ρ ⟨jF,sq,rfl⟩;refine Sv.l8 16 rfl ?_;rw[show((S:Int)).toNat=row.length by omega];obtain⟨wd,J,ew,zc,hr1,hr0,Ek,P7,h1,h2,h3,h4,U⟩:∃(wd:Wo) (J:List (List aZ)) (ew:Wo),aM n (jx row st W row.length)=wd/\(W=true->J=dN row (λj=>nm.idxOf j) n st 0 (row.length-1))/\(W=false->J=[])/\(W=true->ew=n.map some)/\(W=false->ew=wd)/\dm p cs wd=J/\gw p cs wd=ew/\(∀r∈J,r.length<=2)/\J.length<=400/\wd.length=n.length:=by
    cases W with
    | true =>
      obtain⟨o1,o2⟩:=hC.rounds (s:=st) ∅ (k:=row.length-1) (t:=0) ∅;rw[<-OW ∅ hC.nd] at o1 o2;exact⟨_,_,_,rfl,λ_=>rfl,(λz=>by cases z),λ_=>rfl,(λz=>by cases z),o1,o2,HR,by have:=AV (row:=row) (wh:=λj=>nm.idxOf j) (ws:=n) (s:=st) (k:=row.length-1) (t:=0);omega,fj⟩
    | false =>
      have o1:=hC.none;rw[<-MC (s:=st)] at o1;exact⟨_,[],_,rfl,(λz=>by cases z),λ_=>rfl,(λz=>by cases z),λ_=>rfl,oR o1,tD o1,(λ_ z=>by cases z),iE _,fj⟩
  rw[zc];have IS:iU wd:=by
    rw[<-zc];intro y hy;obtain⟨j,hj⟩:=jr hy;have hjl:=(bG.mp hj).1;rw[fj] at hjl;rw[jC hjl] at hj;split at hj;· cases hj
    · have e:=fF (fF hj)
      have:=hC.hr _ (dz (iD (row:=n) hjl));rw[e] at this;unfold Sm;omega
  clear zc;have kX:gc p cs wd.length:=by rw[U];exact hC.nq
  show Sv _ (nK a S kn p sp order st ag n o (.d false (m7 nm)) (.d jB (.dict (wk.map bQ))) lF (.d false (cS p n.length cs)) (.d false (.list (row.map .int))) (.d jF (ff wd)) sq .no .no .no) _ _;refine Sv.seq (Sv.asg (Ev.mono (Ψ:=λ_ d=>d= .list (J.map dg)) (Ev.xZ (Tv.m8 (Ev.var rfl ⟨W,by rw[uQ],?_⟩))) ?_))
  · cases W with
    | true =>
      rw[if_pos rfl];refine Ev.gv Kh ?_;rfl';refine⟨rfl,row,n,st,wk,λj=>nm.idxOf j,rfl,∅,∅,hC.nd,hC.rg,∅,hW.val,λ_=>?_⟩;rw[hr1 rfl]
    | false =>
      rw[if_neg ⋯];rfl';rw[hr0 rfl];rfl
  rintro Al d rfl;refine Gv.vJ ?_;have g:∀r∈dm p cs wd,r.length<64:=λr hr=>by
    rw[h1] at hr;have:=h3 r hr;omega
  have hcl:cs.length<=1000:=hC.nq.2.2.1;have B:∀prs∈cs,prs.length<=10000:=λprs m=>by have:=(hC.nq.2.2.2 prs m).1;omega
  have hel:ew.length=n.length:=by rw[<-h2,(QL (p:=p) ∅ kX.rg).2.2.2.2,U]
  have EM:∀{G:Gx} {Φ:Pd} {xj uE wM:Sl},(∀f,Φ f (ff ew))->Ev G (nK a S kn p sp order st ag n o (.d false (m7 nm)) (.d jB (.dict (wk.map bQ))) lF (.d false (cS p n.length cs)) (.d false (.list (row.map .int))) (.d jF (ff wd)) sq xj uE wM) (yd (t7 K (bE 3)) (bE 9) (bE 16)) Φ:=λ{G Φ xj uE wM} h=>by
    refine Ev.xZ (Tv.m8 (Ev.var rfl ⟨W,by rw[uQ],?_⟩));cases W with
    | true =>
      rw[if_pos rfl];refine Ev.var rfl ?_;have:=h false;rw[Ek rfl] at this;rw[show ec (n.map .int)=ff (n.map some) by show _=ec _;rw[jl];rfl];exact this
    | false =>
      rw[if_neg ⋯];refine Ev.var rfl ?_;have:=h jF;rw[P7 rfl] at this;exact this
  refine Sv.seq (Sv.j8 ?_);rfl';intro v v0 v1;rfl';by_cases cv:v=0
  · rw[if_pos (decide_eq_true cv)]
    rfl';refine Ev.gv Mx ?_;rfl';refine Ev.gv D9 ?_;rfl';refine⟨rfl,p,n.length,cs,rfl,∅,λUT=>?_⟩;rfl';refine⟨rfl,p,n.length,cs,wd,rfl,kX,IS,∅,g,?_⟩;rw[h1,h2];generalize eX:(lG _:TS)=tl;rfl';subst eX;refine Sv.ret ?_;refine Ev.gv (mL 5) ?_;refine Av.cons (Ev.var rfl ?_);refine Av.cons (Ev.tup ?_);refine Av.cons (EM λfw=>?_);rfl';refine⟨rfl, .tuple [ff ew, .list (J.map dg)],rfl, .inr ⟨_, .inr rfl,(by decide:2<=10000),λe he=>?_⟩,rfl⟩;rcases aO.mp he with rfl|he
    · exact zV _ ∅
    · rw[aJ.mp he]
      exact xR _ ∅ λr hr=>by have:=h3 r hr;omega
  rw[if_neg (by simpa using cv)];refine Sv.next ?_
  refine Sv.seq (Sv.make DJ ?_);rfl';refine Ev.gv D9 ?_;rfl';refine⟨rfl,p,n.length,cs,rfl,∅,λUT=>?_⟩;rfl';refine⟨rfl,λx dx=>⟨x,dx,p,n.length,cs,wd,rfl,rfl,∅,B,λCv=>⟨rfl,?_⟩⟩⟩;refine Sv.seq (Sv.Tz (ie.or (ie.not (ie.m8 (aQ.gv (mL 5) (lq.cons (aQ.kW zk rfl rfl (aU.is rfl) (Av.nil ⟨rfl,x,dx,Cv,p,n.length,cs,wd,rfl,rfl,kX,IS,∅,g,?_⟩))))))));rw[h1,h2];rfl';refine⟨rfl, .list (J.map dg),rfl,xR _ ∅ (λr hr=>by have:=h3 r hr;omega),_,rfl,?_⟩;rw[if_neg ⋯];refine ie.not (ie.m8 (aQ.gv (mL 5) (lq.cons (aQ.kW yo rfl rfl (aU.is rfl) (Av.nil ⟨rfl,x,dx,Cv,cS p n.length cs,ew,rfl,rfl,?_⟩)))));refine Av.cons (EM λfw=>?_);rfl';refine⟨rfl,ff ew,rfl,zV _ ∅,_,rfl,?_⟩;rw[if_neg ⋯];refine Sv.next ?_
  refine Sv.retS (aQ.Ho (aQ.MR (aQ.of (Ev.var rfl ⟨W,by rw[uQ],_,rfl,?_⟩))));cases W with
  |false=>rw[if_pos (by rfl)]
  | true =>
    rw[if_neg ⋯];rw[Ek rfl];refine aQ.Ho (aQ.of ?_);rfl';by_cases c:S=1;· rw[if_pos (decide_eq_true ∅)]
    · rw[if_neg (by simp;omega)]
      refine aQ.callC LY rfl rfl ?_;rfl';exact⟨rfl,x,dx,Cv,p,cs,row,n,nm,λj=>nm.idxOf j,wk,ag,rfl,rfl,hC,hW,∅,∅,∅,∅,rfl⟩
end
local macro_rules| `(tactic|walk_at "bn")=> `(tactic|(intro _ _ _ _ _ _ us hl;first|(obtain⟨_,h⟩:=Ib hl;subst h;rfl)|(obtain⟨_,_,h⟩:=ln2 hl;subst h;rfl)|(obtain⟨_,_,_,h⟩:=DC hl;subst h;rfl)|(obtain⟨_,_,_,_,h⟩:=I0 hl;subst h;rfl)|(obtain⟨_,_,_,_,_,h⟩:=J1 hl;subst h;rfl)|(obtain⟨_,_,_,_,_,_,h⟩:=ln6 hl;subst h;rfl)|(obtain⟨_,_,_,_,_,_,_,h⟩:=ln7 hl;subst h;rfl)))
theorem all_mk:Ox:=by
 intro l w K h mg fa f0 f1 f2 f3 f4 f5 f6 f7 f8 f9 Iz CU jB Il Dw EH jF HE Al DI EK Hl Gs sJ pL pH nV pI oh X G nQ JQ yz Gn Jo Bw yV BE tG z5 DB Io E2 FZ Fz II EJ Bk GF Dt Iq JG JU EN D5 FO BP DK DX Ij G4 Gb EL Fo FH zx G8 Gq E8 IM Jw Em C3 Hw yb EA Ep JL Gu IV Hs Hi Iw Ax IP aB wV vB v5 tU w9 sP wQ ji gO d0 d1 d2 d3 d4 d5 d6 d7 d8 d9 xr xE wU v7 uA vn ua um xg sy v8 vS vd uC vE xw vC uU vP tM uR xh wB u9 tV ve rP sY sV uc uX rK wL tB u7 tP rj wY uw xx vM rL xB vY xD sS vO wW tN xC vZ uW wj wI vf;have e:=nQ.symm.trans (cW X G uC);cases e;obtain⟨T,_,u⟩:=d0;have b0:=u.binds (ps:=["p","a","b"]) (by walk_at "bn");obtain⟨a1,_,z⟩:=d1;have b1:=z.binds (ps:=["p","b"]) (by walk_at "bn");obtain⟨a2,_,A⟩:=d2;have b2:=A.binds (ps:=["p","pairs","word"]) (by walk_at "bn");obtain⟨n,_,H⟩:=d3;have b3:=H.binds (ps:=["n","place"]) (by walk_at "bn");obtain⟨M,_,t⟩:=d4;have b4:=t.binds (ps:=["net","word","c"]) (by walk_at "bn");obtain⟨a5,_,I⟩:=d5;have b5:=I.binds (ps:=["p","pairs","rest","word"]) (by walk_at "bn");obtain⟨a6,_,B⟩:=d6;have b6:=B.binds (ps:=["net","word"]) (by walk_at "bn");obtain⟨a7,_,E⟩:=d7;have b7:=E.binds (ps:=["net"]) (by walk_at "bn");obtain⟨a8,_,i⟩:=d8;have b8:=i.binds (ps:=["net","word"]) (by walk_at "bn");obtain⟨R,_,C⟩:=d9;have b9:=C.binds (ps:=["script"]) (by walk_at "bn");obtain⟨Q,_,F⟩:=xr;have Qw:=F.binds (ps:=["bag","many"]) (by walk_at "bn");obtain⟨O,_,d⟩:=xE;have Tf:=d.binds (ps:=["number"]) (by walk_at "bn");obtain⟨V,_,f⟩:=wU;have L1:=f.binds (ps:=["bag"]) (by walk_at "bn");obtain⟨UQ,_,p⟩:=v7;have RH:=p.binds (ps:=["p","a","b"]) (by walk_at "bn");obtain⟨Y,_,q⟩:=uA;have M5:=q.binds (ps:=["bag","p"]) (by walk_at "bn");obtain⟨N,_,m⟩:=vn;have Pp:=m.binds (ps:=["bag","p"]) (by walk_at "bn");obtain⟨L7,_,D⟩:=ua;have Th:=D.binds (ps:=["bag","row"]) (by walk_at "bn");obtain⟨Qz,_,J⟩:=um;have MD:=J.binds (ps:=["net"]) (by walk_at "bn");obtain⟨b,_,a⟩:=xg;have o5:=a.binds (ps:=["found","due"]) (by walk_at "bn");obtain⟨U,_,c⟩:=sy;have Ro:=c.binds (ps:=["bag","p","order","springs","word"]) (by walk_at "bn");obtain⟨KU,_,y⟩:=v8;have QM:=y.binds (ps:=["bag","many"]) (by walk_at "bn");obtain⟨Z,_,x⟩:=vS;have Q5:=x.binds (ps:=["row","start","where","word"]) (by walk_at "bn");obtain⟨S,_,o⟩:=vd;have Ql:=o.binds (ps:=["mender","row","at","where","word"]) (by walk_at "bn");have TF:=nO (st:=jH) vE xw vC;have D4:=nO (st:=nY) tM uR xh;have ML:=D4.binds (ps:=["self","net","word"]) (by walk_at "bn");have Ig:=nO (st:=oE) tV ve rP;have Oq:=Ig.binds (ps:=["self"]) (by walk_at "bn");have Ei:=nO (st:=oq) uc uX rK;have UI:=Ei.binds (ps:=["self"]) (by walk_at "bn");have EX:=nO (st:=pY) u7 tP rj;have LM:=EX.binds (ps:=["self","place"]) (by walk_at "bn");have Jx:=nO (st:=pN) xx vM rL;have RW:=Jx.binds (ps:=["self"]) (by walk_at "bn");have j:dO K aB:=⟨vB,v5,tU,w9⟩;have yy:=iT X G xB;have mF:=iT X G vY;have l7:=iT X G xD;have lV:=iT X G sS;have gP:=iT X G vO;have bV:=iT X G wW;have bW:=iT X G tN;have AZ:=iT X G xC;have cL:=iT X G vZ;have B7:=iT X G uW;have k9:=iT X G wj;have lS:=iT X G wI;have l5:=iT X G vf;refine⟨PySem.W.fnOf "law" "law" (jj jH) (iQ jH) (aT jH) .none Bw yV BE yz tG z5,λs v=> .of_eq rfl,λbase _ _=>?_⟩;have KO:=Callee.mk' z (Q7 (P:=l.prog) (w:=w) (base:=base) z) b1 (cW X G a1);have Rk:=Callee.mk' u (Rl (P:=l.prog) (w:=w) (base:=base) u KO) b0 (cW X G T);have OZ:=Callee.mk' A (O9 (P:=l.prog) (w:=w) (base:=base) A) b2 (cW X G a2);have PR:=Callee.mk' H (RO (P:=l.prog) (w:=w) (base:=base) H) b3 (cW X G n);have L0:=Callee.mk' I (OF (P:=l.prog) (w:=w) (base:=base) I Rk OZ bV) b5 (cW X G a5);have Ud:=Callee.mk' t (LH (P:=l.prog) (w:=w) (base:=base) t L0) b4 (cW X G M);have P8:=Callee.mk' B (Qh (P:=l.prog) (w:=w) (base:=base) B Ud cL bV k9) b6 (cW X G a6);have S0:=Callee.mk' E (Lp (P:=l.prog) (w:=w) (base:=base) E bW) b7 (cW X G a7);have Ue:iC l.prog w K mg base aB "step" 6 ["self"] (dw 1 (qo aB)):=⟨j,pH,_,KS (P:=l.prog) (w:=w) (base:=base) Ig j ji gO P8,Oq,⟨wB,u9,rP⟩⟩;have g:iC l.prog w K mg base aB "mend" 7 ["self"] (dw 1 (nH aB)):=⟨j,nV,_,UU (P:=l.prog) (w:=w) (base:=base) Ei Ue,UI,⟨sY,sV,rK⟩⟩;have r:iC l.prog w K mg base aB "word" 1 ["self"] (dw 1 (mY aB)):=⟨j,oh,_,Nt (P:=l.prog) (w:=w) (base:=base) Jx j gO bW,RW,⟨wY,uw,rL⟩⟩;have L:wF l.prog w K mg base aB "Mender" 2 ["self","net","word"] (dw 3 (pJ aB)):=⟨pL,_,PK (P:=l.prog) (w:=w) (base:=base) D4 j ji gO S0 bW,ML,⟨sP,uU,vP,wQ⟩,cW X G wV⟩;have PU:=Callee.mk' i (Ly (P:=l.prog) (w:=w) (base:=base) i g r L) b8 (cW X G a8);have Nd:=Callee.mk' C (Ub (P:=l.prog) (w:=w) (base:=base) C yy) b9 (cW X G R);have nu:=Callee.mk' F (Lj (P:=l.prog) (w:=w) (base:=base) F bV) Qw (cW X G Q);have Ra:=Callee.mk' d (Mu (P:=l.prog) (w:=w) (base:=base) d cL) Tf (cW X G O);have TL:=Callee.mk' f (Rz (P:=l.prog) (w:=w) (base:=base) f nu Ra) L1 (cW X G V);have T3:=Callee.mk' p (TQ (P:=l.prog) (w:=w) (base:=base) p) RH (cW X G UQ);have O4:=Callee.mk' q (RP (P:=l.prog) (w:=w) (base:=base) q nu) M5 (cW X G Y);have Tn:=Callee.mk' m (Mn (P:=l.prog) (w:=w) (base:=base) m nu) Pp (cW X G N);have GQ:=Callee.mk' D (Rv (P:=l.prog) (w:=w) (base:=base) D nu bW cL bV) Th (cW X G L7);have UJ:=Callee.mk' J (KG (P:=l.prog) (w:=w) (base:=base) J bW) MD (cW X G Qz);have Ml:=Callee.void (P:=l.prog) (w:=w) (base:=base) (k:=0) (sp:=c6 2 (nv 0)) a o5 (cW X G b) Mf;have Pq:=Callee.mk' a (qW (P:=l.prog) (w:=w) (base:=base) 0 a Ml gP bW l5 mF bV l7 lV lS cL) o5 (cW X G b);have RT:=Callee.mk' a (qW (P:=l.prog) (w:=w) (base:=base) 1 a Pq gP bW l5 mF bV l7 lV lS cL) o5 (cW X G b);have Kf:=Callee.mk' a (qW (P:=l.prog) (w:=w) (base:=base) 2 a RT gP bW l5 mF bV l7 lV lS cL) o5 (cW X G b);have Me:=Callee.mk' a (qW (P:=l.prog) (w:=w) (base:=base) 3 a Kf gP bW l5 mF bV l7 lV lS cL) o5 (cW X G b);have P4:=Callee.mk' a (qW (P:=l.prog) (w:=w) (base:=base) 4 a Me gP bW l5 mF bV l7 lV lS cL) o5 (cW X G b);have Dc:=P4;have M3:=Callee.mk' c (Ka (P:=l.prog) (w:=w) (base:=base) c T3 nu Tn cL bV k9) Ro (cW X G U);have M4:=Callee.mk' y (OB (P:=l.prog) (w:=w) (base:=base) y nu GQ bW cL B7 bV) QM (cW X G KU);have JY:=Callee.mk' x (S3 (P:=l.prog) (w:=w) (base:=base) x cL bV k9) Q5 (cW X G Z);have T5:iC l.prog w K mg base aB "lose" 2 ["self","place"] (dw 2 (qz aB)):=⟨j,pI,_,UP (P:=l.prog) (w:=w) (base:=base) EX j gO ji PR,LM,⟨wL,tB,rj⟩⟩;have TY:=Callee.mk' o (Pr (P:=l.prog) (w:=w) (base:=base) o T5 g r Dc AZ) Ql (cW X G S);exact Sa TF g r L Nd TL GQ nu M3 M4 O4 JY PU Dc UJ TY cL bW bV
end K25
end
section
open PySem PySem.W PyProof.Rows
theorem PySem.Challenge.cw_fewchecks_k25_long_chains_holds : PySem.Challenge.rw_fewchecks_k25_long_chains.Holds := by
 w_on
 o_law
 k_head
 (case hw=>w_witness2)
 k_fill
 refine K25.walk (l:=PySem.Challenge.rw_fewchecks_k25_long_chains) rfl rfl (λw h Y=>PySem.W.kIn_of Y) ?F
 case F=>
  intro w mg fa h KX G hmg
  refine' K25.all_mk KX G hmg ..
  any_goals first|(refine' L2.bf.mk ..;any_goals k_is)|k_is
end
