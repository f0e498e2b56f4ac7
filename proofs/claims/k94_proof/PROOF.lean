import PyProof.Rows.All
import Wide.All
import OpenK.AllK
import Wide.FinOn
import Lean
import PyProof.EqAt
import PyProof.EqKinds
import PyProof.TupleCall
import PySem.Challenge.RW_longrounds_k94_whole_what_bars_a_goal
set_option Elab.async false
set_option linter.all false
set_option maxRecDepth 100000
set_option genSizeOf false
set_option maxHeartbeats 4000000
open And renaming intro->ni
open Array renaming length_toList->jg,getElem?_eq_getElem->nq,getElem_toList->vf,getElem?_toList->Kn,toList_push->a7z,getElem?_eq_none->a8q
open Bool renaming and_eq_true->gN,false_eq_true->kf,false_ne_true->oN,not_true->xD,or_eq_true->DU,false_and->a5h
open Classical renaming byContradiction->xh
open Eq renaming symm->Sf
open False renaming elim->di
open ForInStep renaming yield->oQ
open Int renaming mul_assoc->dN,mul_zero->gq,zero_mul->gP,mul_comm->iH,zero_add->iI,one_mul->jj,mul_le_mul->jD,pow_succ->jE,mul_one->j8,emod_eq_of_lt->ke,neg_mul->m_,zero_emod->pR,toNat_natCast->rk,eq_ofNat_of_zero_le->sV,mul_add->uT,dvd_of_emod_eq_zero->u0,pow_zero->xk,emod_eq_zero_of_dvd->xl,le_trans->xp,le_refl->AG,natCast_pow->DK,emod_add_mul_ediv->DL,lt_trichotomy->DM,lt_or_le->DN,add_mul->DP,sub_zero->DQ,sub_self->Ju,add_zero->Jv,mul_le_mul_of_nonneg_right->Jz,le_of_dvd->JG,dvd_refl->Sg,sub_emod->Sh,emod_nonneg->Si,emod_lt_of_pos->Sj,add_comm->Sr,natCast_nonneg->Sz,mul_neg_of_pos_of_neg->SA,mul_le_mul_of_nonneg_left->SI,natCast_mul->SN,mul_nonneg->SO,fdiv_eq_ediv_of_nonneg->a5l,emod_emod_of_dvd->a6b,natAbs_natCast->a6d,mul_emod_left->a6g,ediv_nonneg->a6h,ediv_le_self->a6i,sub_add_cancel->a6o,natCast_add->a6u,dvd_mul_of_dvd_right->a6w,ediv_eq_zero_of_lt->a7i
open List renaming length_map->bD,range->bL,mem_cons_self->bV,mem_cons_of_mem->bY,getElem?_map->cf,getElem?_eq_getElem->cD,map_cons->cN,mem_append_right->dh,size_toArray->dj,length_cons->dE,replicate->dI,getElem?_eq_none->eY,mem_cons->fh,getElem?_set_ne->gM,not_mem_nil->gR,length_append->hU,map_append->hV,getElem?_set_self->jB,length_set->kd,mem_of_getElem?->kN,length_take->lX,map_map->lZ,getElem?_range->l8,mem_append_left->m7,sum_cons->nc,append_nil->oJ,replicate_succ->pQ,getElem_mem->pS,length_drop->rf,all_eq_true->rj,length->uR,range_succ->uU,length_nil->uV,mem_of_mem_take->uW,mem_map->uY,filterMap_cons->wW,flatten_cons->w0,length_singleton->w7,map_take->w8,map_drop->w9,drop_zero->w_,take_length->xc,mem_singleton->xg,getElem?_append_right->Ax,getElem?_append_left->Ay,map_nil->Az,append_assoc->AA,take_of_length_le->AE,drop_length->AF,map_congr_left->AH,filter_cons->AK,take_add_one->AL,length_zip->AM,getElem?_of_mem->AN,of_mem_zip->DB,ext_getElem->DH,drop_eq_getElem_cons->DW,isEmpty_nil->D5,getElem?_take_of_lt->Jm,all_map->Jt,length_range->Jw,nil_append->Jy,filter_cons_of_pos->JA,filter_cons_of_neg->JB,replicate_zero->JK,findIdx?_cons->JL,any_cons->JN,lookup_cons->JP,lookup_cons_self->Kf,getElem?_replicate->RY,range_succ_eq_map->Sk,any_eq_true->Sl,mem_range->Sm,map_filterMap->Sn,mem_of_mem_drop->Ss,cons_append->Sv,take_zero->SJ,any_map->SQ,nodup_nil->S_,forIn_nil->Tq,sum_append->a6a,take_append_drop->a6c,range_eq_range'->a6f,getElem_zip->a6j,pairwise_singleton->a6k,zip_cons_cons->a6l,filter_sublist->a6m,isEmpty_cons->a6n,perm_cons_erase->a6p,length_erase_of_mem->a6q,mem_erase_of_ne->a6r,zipIdx_cons->a7o,zipIdx_nil->a7p,forIn_cons->a7q,getElem?_cons_succ->a7u,length_eraseIdx_of_lt->a8m,getElem?_toArray->a8n
open List.Pairwise renaming nil->a5x
open List.Perm renaming cons->JE
open Nat renaming le_refl->bA,lt_of_lt_of_le->b_,ne_of_lt->cX,lt_or_ge->dt,le_trans->dD,lt_irrefl->dS,zero_add->gO,zero_le->ji,ne_of_gt->jC,add_zero->oO,not_lt_zero->rm,eq_zero_or_pos->sU,le_of_lt->uM,mul_comm->uX,gcd->uZ,mul_le_mul_right->u9,lt_succ_self->xw,lt_succ_of_lt->xA,add_comm->AB,pow_zero->AJ,le_of_dvd->AO,mod_lt->AP,lt_of_le_of_lt->DF,sub_zero->DG,sub_self->DI,pow_succ->DJ,lt_trichotomy->DO,le_of_not_lt->Js,div_add_mod->JF,mul_one->JH,mul_left_comm->JI,mul_div_cancel_left->JJ,lt_trans->Kh,min_eq_left->Se,two_pow_pos->Su,add_assoc->Sw,zero_mul->Sy,mul_zero->SD,add_mul->SE,gcd_dvd_left->SF,gcd_dvd_right->SG,pow_pos->SH,div_le_self->SK,dvd_trans->SM,le_succ_of_le->Ta,succ_le_succ->Tc,le_antisymm->Td,min_eq_right->a5z,mod_eq_of_lt->a6e,mod_eq_zero_of_dvd->a6t,mul_le_mul->a6v
open Nat.Coprime renaming dvd_of_dvd_mul_left->a6s
open Ne renaming symm->eC
open Option renaming map_some->AI,getD_none->Sa,getD_some->So
open Option.some renaming inj->iZ,injEq->xj
open Or renaming inr->fF,inl->iJ
open Prod renaming fst->oP,snd->sX
open Prod.mk renaming injEq->Ki
open PyProof renaming noPylong_small->a5m
open PyProof.Rows renaming IntsAre->ka,AllBare->m6,firstMet->oW,IsTup->qX,envOfC->uQ,callWith_type1->u_,seqObj->vh,Call_->DT,slot_tuple_getitem->Jq,Subscript_->S4,boot_range->S8,firstMet_succ->Tx,slicePart_none->a5q,entry_tuple_getitem->a5t,args_tuple_getitem->a5u,subscriptTail_builtinR->a5w,callWith_builtin1->a7a,firstMet_length_le->a8b
open PyProof.Rows.F renaming plain_set_update_loop->Tw,entry_set_update_loop->a8a
open PyProof.Rows.IsTup renaming new->R8
open PySem renaming Value->ae,Shared->aq,wpAny_bind->ay,wpAny->az,wpAny_mono->aH,model->aJ,wpAny_pure->aP,World->aY,Program->bw,starEach->bR,sizeLine->cq,Scope->cT,FuncData->da,backTo->de,mainGlobals->dU,SetTable->fH,wpAny_field->f_,Builtin->gr,intKind->gK,IsPair->gQ,pyNext->hG,binaryOp->hJ,spliced->h_,compEnvC->ib,relabel->ic,mem_of_lookup->iG,assign->jh,cLine->j9,wpAny_call_entry->j_,sizeLine_eq->lV,NameKind->lW,wpAny_newObj_type->lY,compareOp->m8,codeAny->m9,Model->oI,wpAny_holding->oK,wpAny_callSpecial?_slot->oM,wpAny_passesOwn->oR,field->oV,wpAny_setField_rec->pU,IsEnum->pV,bootBuiltins->qY,Keyword->qZ,IsPart->q_,Params->rh,isTrue->rn,wpAny_Call_Name_kw->rp,wpAny_pyIter_list->rq,backToKw->rA,keywordEach->rB,wpAny_seqItems->rC,scanBound->rF,setNext->rG,pyIter->sR,codeAny_mono->sT,wpAny_setField->sY,bindL->uO,bindC->uP,callerA->uS,wpAny_rule->vc,wpAny_attempt->ve,getItem->wY,sliceBounds->wZ,call_meets->w6,wpAny_pyIter_tuple->xq,newList->xr,foldedSetIterable->xt,swapsWith->xu,ZipApart->xy,codeAny_builtin->xC,assignEach->Au,Result->Aw,holding->AQ,Meets->AR,lookup_relabel_local->AW,wpAny_standAt->AX,notedBy->AZ,relayAll->A1,wpAny_setState_of->A2,argsOk->A3,Drawn->Dz,wpAny_typeOf->DD,wpAny_call->DS,newFunctionEnv->DV,closureFor->DX,wpAny_comprehension_free->DY,compPost->DZ,wpAny_execs_nil->D0,slotArgs->D4,wpAny_setEntries_of->D6,pickOrder->D7,importedModules->D8,treeTable->D9,builtinsNs->Jf,GenState->Jg,wpAny_assign_Name->Jh,letOwnedTupleGo->Ji,IsRangeIter->Jj,behindInMarks->Jk,concat_meets->Jo,wpAny_ite_false->JM,attributeBase->JQ,wpAny_Call_method_late->JR,numAt->JV,newExc->JZ,firstArgMember->J2,wpAny_of_eq->J3,wpAny_onRaise->J4,wpAny_letGo->J_,wpAny_isInstance->Kc,wpAny_pyIter_enum->Ke,ElemsOf->Kj,plainId_quiet->Kk,wants->Kl,wpAny_fieldsOf->Ko,IsEnumOut->Kp,wpAny_Name->RU,bindArgs->RV,leaving->RW,cellsFrom->RX,noFill_tuple_add->RZ,seq_tuple_add->R1,typeLookup->R7,seqIndex_of->R9,seqIndex_neg->R_,call->Sd,wpAny_BinOp->SR,wpAny_truthy_bool->SS,standAt->SU,wpAny_tests_nil->S9,wpAny_list_append_plain->Tb,codeAny_compStart_list->Tf,wpAny_Return_some->Tg,exec_Assign_Name_used->Th,comprehension->Ti,noteFrame->Tn,raiseNew->Tp,wpAny_updateSeq_pair->Tr,wpAny_newTuple->Ts,isSubtype_stop->Tt,wpAny_alloc->Tu,codeAny_of_tree->TB,wpAny_askSetting->TC,codeAny_call_builtin->TF,isSubtype_type->TH,entryFor->TJ,signature?_of->TK,wpAny_pyIter_slot->TL,drawOrder->TM,collect->TN,OsState->TV,wpAny_pyNext_range_end->a5i,wpAny_pyIter_rangeiter->a5j,wpAny_pyIter_range->a5k,recursionLimit->a5o,wpAny_sequenceKey->a5s,seqSlot_of->a6y,wpAny_tests_one->a7b,wpAny_newFunctionEnv->a7c,codeAny_compLoop_tests->a7d,wpAny_execs_cons->a7e,wpAny_Assign_Name->a7f,wpAny_Expr_any->a7g,codeAny_forLoop_any->a7h,wpAny_nextOf_list_item->a7m,wpAny_nextOf_list_end->a7n,wpAny_pyIter_zip->a7t,wpAny_letOwnedTupleGo_enum->a7v,wpAny_storeSet_of->a7x,fits_of_scanBound->a7y,checkBuiltinCall->a8c,weight_type_call_type->a8h,wpAny_runValue->a8i,typeLookup_type->a8j,builtinLookup_eq_fast->a8k,entryFor_alias->a8l,wpAny_setEpoch_of->a8p,filterMap_getElem?_range->a8r,wpAny_updateSeq->a8w
open PySem.Around renaming under_plainId->D3,under_plain->a8g
open PySem.AutoSeq1 renaming idx_int->SV
open PySem.Builtin.Int renaming intBits->JU
open PySem.Builtin.List renaming listTooLong->Sb,listLengthHint->a8s,listExtendWith->a8u,listSameRef->a8v
open PySem.Builtin.Range renaming rangeSize->Av,small->a7j
open PySem.Builtin.Slice renaming slicePlaces->Jp,sliceAdjust->R6,sliceApplied->a5r
open PySem.Builtin.SmallTypes renaming nextOf->vd,ownedTupleIsFree->A0,ownedTupleHandOut->Ka
open PySem.Builtin.Tuple renaming tupleExact->Jr,tupleItemsOf->a5v,tupleTooMany->a6x
open PySem.Calls renaming spliced_cons->jk,spliced_nil->l9,callWith_builtin->JS,evalArgs_plain->JT,Name_function_global->a5g
open PySem.Challenge renaming pw_longrounds_k94_whole_what_bars_a_goal->Ks
open PySem.Code renaming quiet_builtin->a8e
open PySem.F renaming slot_tuple_iterator_next->JW,slot_zip_next->Kb,slot_enumerate_next->Kq,slot_tuple_add->R3,entry_tuple_add->R4,args_tuple_add_2->R5,slot_tuple_mul->SW,entry_tuple_mul->SX,args_tuple_mul_2->SY,plainAttrs_list->Tj,slot_int_rmul->a6z,entry_tuple_iterator_next->a7k,args_tuple_iterator_next_1->a7l,entry_zip_next->a7r,args_zip_next_1->a7s,plain_set_new->a8d,entry_type_call->a8f,slot_set_iter->a8o,plain_list_iadd->a8t,slot_list_index->a8x,entry_enumerate_next->a8z,args_enumerate_next_1->a9a
open PySem.Heap renaming lt_size->bx,get?_push_of_some->bB,get?_push_size->c_,size_push->fG,SameBut->sQ,get?_update_self->sS,get?_none_of_le->wX,get?_update_other->DE,IsList->D2,ExtBut->JY,IsTuple->Kd
open PySem.Heap.SameBut renaming update->rD
open PySem.NameKind renaming free->kO,cell->rE
open PySem.Obj renaming data_mapFields->oU,mapSeq->rg,mapFields->xx,isFreed_of_fields->AY,cls_mapFields->JX,putSet->Tv
open PySem.PyData renaming eqv->pT,canLay0->sW,depth->AS,canLayAll0->AU,depthAll->AV,eqvAll->DR
open PySem.SeqAt renaming readOf->a8y
open PySem.SetTable renaming below->vg,grown->xB
open PySem.SetTable.below renaming go->Kg
open PySem.SetTable.probe renaming go->a7w
open PySem.Shared renaming heap->sZ,TypeIs->Km
open PySem.Str renaming ofString->bt
open PySem.Value renaming ref->gJ,int->kM,none->lU,type->wV,isInt->RP,str->RQ,bool->RS
open PySem.W renaming Frag->aK,boot_heap->jF,nsIn->nj,findIn->uN,mg_of->AD,SharedT->A4,keepIn->DA,fnOf->DC,mroIn->Jl,codeIn->Jn,callWith_K->JO,through->Kr,methodObj->RT,excIn->To,staticsOk->TP,namesBound->TQ,gensDone->TR,laidKept->TU,topFrom->TX,view->TY,instObj->a5f,specialIn->a5n,cellsFrom_some->a5p,OpenLaw->a5y
open Sum renaming inl->wR,inr->wU
noncomputable section
namespace L2
open PySem PySem.Spec PyProof.Rows
abbrev Key:=Sum Int Str
def Kt:Key->ae->Bool
 | .inl k,v=>RP k v
 | .inr x,v=>Value.isStrOf x v
def TZ(w:aY):Key->Int
 | .inl k=>hashInt k
 | .inr x=>hashStr w x
theorem pX:∀{k:Key} {v:ae},Kt k v=true->(∃i t,k=wR i/\v=kM i t)∨(∃x t,k=wU x/\v=RQ x t)
 | .inl i,v,h=>by
   obtain⟨t,e⟩:=Value.isInt_shape (k:=i) (v:=v) h
   exact .inl ⟨i,t,rfl,e⟩
 | .inr x,v,h=>by
   obtain⟨t,e⟩:=Value.isStrOf_shape (x:=x) (v:=v) h
   exact .inr ⟨x,t,rfl,e⟩
theorem T2(a b:Int):decide ((wR a:Key)=wR b)=(a==b):=by
 by_cases e:a=b
 ·subst e;simp
 ·have h:¬(wR a:Key)=wR b:=λq=>e (Sum.inl.inj q)
  rw[decide_eq_false h]
  exact(beq_eq_false_iff_ne.mpr e).symm
theorem T3(a b:Str):decide ((wU a:Key)=wU b)=decide (a=b):=by
 by_cases e:a=b
 ·subst e;simp
 ·have h:¬(wU a:Key)=wU b:=λq=>e (Sum.inr.inj q)
  rw[decide_eq_false h,decide_eq_false e]
theorem T4(a:Int)(b:Str):decide ((wR a:Key)=wU b)=false:=decide_eq_false (λq=>nomatch q)
theorem T5(a:Str)(b:Int):decide ((wU a:Key)=wR b)=false:=decide_eq_false (λq=>nomatch q)
def Ku(prog:bw)(w:aY):PySem.KeyKind prog w Key where
 is:=Kt
 hash:=TZ w
 inj:=λv a b ha hb=>by
  rcases pX ha with ⟨i,t,rfl,rfl⟩ | ⟨x,t,rfl,rfl⟩
  ·rcases pX hb with ⟨j,u,rfl,e⟩ | ⟨y,u,rfl,e⟩
   ·injection e with e1 _;rw[e1]
   ·exact nomatch e
  ·rcases pX hb with ⟨j,u,rfl,e⟩ | ⟨y,u,rfl,e⟩
   ·exact nomatch e
   ·injection e with e1 _;rw[e1]
 byValue:=λk v h=>by
  rcases pX h with ⟨i,t,rfl,rfl⟩ | ⟨x,t,rfl,rfl⟩<;>rfl
 pyHash:=λhv h=>by
  rcases pX hv with ⟨i,t,rfl,rfl⟩ | ⟨x,t,rfl,rfl⟩
  ·exact wpAny_pyHash_int h
  ·exact wpAny_pyHash_str h
 eqBool:=λhu hv h=>by
  rcases pX hu with ⟨i,t,rfl,rfl⟩ | ⟨x,t,rfl,rfl⟩
  ·rcases pX hv with ⟨j,u,rfl,rfl⟩ | ⟨y,u,rfl,rfl⟩
   ·rw[T2] at h;exact wpAny_eqBool_int h
   ·rw[T4] at h;exact SeqAt.EqAt.int_str i t y u _ _ _ _ h
  ·rcases pX hv with ⟨j,u,rfl,rfl⟩ | ⟨y,u,rfl,rfl⟩
   ·rw[T5] at h;exact SeqAt.EqAt.str_int x t j u _ _ _ _ h
   ·rw[T3] at h;exact wpAny_eqBool_str h
 «strs»:=λk x t v h=>by
  rcases pX h with ⟨i,u,rfl,e⟩ | ⟨y,u,rfl,e⟩
  ·exact nomatch e
  ·injection e with e1 _
   subst e1
   cases v<;>rfl
end L2
namespace L2
open PySem PySem.Spec PyProof.Rows
inductive V where
 | bS | bl (b:Bool) | int (i:Int) | str (x:Str) | D_ (b:Array UInt8) | xE (b:UInt64) | ref (a:Addr) | ty (n:String)
 deriving DecidableEq
def RelV:V->ae->Prop
 | .bS,u=>u=lU
 | .bl b,u=>u=RS b
 | .int i,u=>∃t,u=kM i t
 | .str x,u=>∃t,u=RQ x t
 | .D_ b,u=>∃t,u=Value.bytes b t
 | .xE b,u=>∃t,u=Value.float b t
 | .ref a,u=>u=gJ a
 | .ty n,u=>u=wV n
abbrev Vals:List V->List ae->Prop:=Paired RelV
theorem Vals.length{xs:List V}{us:List ae}(r:Vals xs us):xs.length=us.length:=Paired.length r
theorem Vals.get:∀{xs:List V} {us:List ae} {i:Nat} {x:V},Vals xs us->xs[i]? = some x->∃u,us[i]? = some u/\RelV x u
 | _,_,_,_,.nil,e=>by simp at e
 | _,_,0,_,.cons r _,e=>by simp at e;subst e;exact⟨_,rfl,r⟩
 | _,_,i+1,x,.cons _ t,e=>by
   obtain⟨u,h1,h2⟩:=Vals.get (i:=i) (x:=x) t (by simpa using e)
   exact⟨u,by simpa using h1,h2⟩
theorem Vals.set{x:V}{u:ae}(r:RelV x u):∀{xs:List V} {us:List ae} (i:Nat),Vals xs us->Vals (xs.set i x) (us.set i u)
 | _,_,_,.nil=>.nil
 | _,_,0,.cons _ t=>.cons r t
 | _,_,i+1,.cons q t=>.cons q (Vals.set r i t)
theorem Vals.append:∀{xs ys:List V} {us ws:List ae},Vals xs us->Vals ys ws->Vals (xs++ys) (us++ws)
 | _,_,_,_,.nil,s=>s
 | _,_,_,_,.cons r t,s=>.cons r (Vals.append t s)
theorem Vals.take:∀{xs:List V} {us:List ae} (n:Nat),Vals xs us->Vals (xs.take n) (us.take n)
 | _,_,0,_=>.nil
 | _,_,_+1,.nil=>.nil
 | _,_,n+1,.cons r t=>.cons r (Vals.take n t)
theorem Vals.drop:∀{xs:List V} {us:List ae} (n:Nat),Vals xs us->Vals (xs.drop n) (us.drop n)
 | _,_,0,r=>r
 | _,_,_+1,.nil=>.nil
 | _,_,n+1,.cons _ t=>Vals.drop n t
def Kv:Option V->Option ae->Prop
 | some v,some u=>RelV v u
 | none,none=>True
 | _,_=>False
def KV{κ:Type}:List (κ×V)->List (κ×ae)->Prop:=Paired λ(p:κ×V) (q:κ×ae)=>p.1=q.1/\RelV p.2 q.2
def kV:Key->V
 | .inl i=>.int i
 | .inr x=>.str x
inductive HO where
 | lst (xs:List V)
 | tup (xs:List V)
 | dK (fi:List (Key×V)) | dT (fi:List (List Key×V))
 | set (S:Int->Bool) (n:Nat)
 | ins (C dx:Addr) (fs:List (Str×V))
 | own (x:Addr)
 | xd (fs:List (Str×V))
 | met (f x:Addr)
 | A5 (lo hi:Int)
 | iK (o:Obj) (u:HO)
 | rH (ps:Array ae)
 | ext (φ:Heap->Prop)
abbrev Hp:=Addr->Option HO
def upd(H:Hp)(a:Addr)(o:HO):Hp:=λb=>if b=a then some o else H b
theorem dq{H:Hp}{a:Addr}{o:HO}:upd H a o a=some o:=by unfold upd;rw[if_pos rfl]
theorem bP{H:Hp}{a b:Addr}{o:HO}(h:b≠a):upd H a o b=H b:=by unfold upd;rw[if_neg h]
theorem fI{H:Hp}{a b:Addr}{o:HO}(h:H a=some o)(h':H b=none):a≠b:=by
 intro e;subst e;rw[h] at h';cases h'
section
variable (P:bw)(w:aY)
def i4(H:Hp)(h:Heap)(a:Addr):HO->Prop
 | .lst xs=>xs.length<=cq/\∃(its:List ae) (n:Nat),Vals xs its/\h.get? a=some { cls:=.type "list",data:=.seq its.toArray n }
 | .tup xs=>xs.length<=cq/\∃its:List ae,Vals xs its/\qX h a its.toArray
 | .dK fi=>fi.length<=cq/\(a==sysModules)=false/\∃vs,KV fi vs/\h.DictOf (Ku P w) a vs
 | .dT fi=>fi.length<=cq/\(a==sysModules)=false/\∃xs:List (List Key×Addr×ae),
    Paired (λ(p:List Key×V) (q:List Key×Addr×ae)=>p.1=q.1/\H q.2.1=some (.tup (p.1.map kV))/\RelV p.2 q.2.2) fi xs /\
    ∃o es ep,h.get? a=some o/\o.ExactDict/\o.data = .dict es ep/\es.toList=xs.map (entryOfKey (tupleKind (Ku P w)))/\(xs.map (·.1)).Nodup
 | .set S n=>h.SetOf (gK P w) a S n
 | .ins C dx fs=>H dx=some (.own a)/\fs.length<=1000/\dx≠a/\h.get? a=some (a5f C dx) /\
    ∃mA,h.Ns1 dx mA/\(∀f,Kv (fs.lookup f) (mA f))/\PySem.Within mA (fs.map (·.1))
 | .own _=>∃o,h.get? a=some o
 | .xd fs=>∃mA,h.Ns1 a mA/\∀f,Kv (fs.lookup f) (mA f)
 | .A5 lo hi=>∃t u v,h.get? a=some { cls:=.type "range",data:=.fields #[.int lo t,.int hi u,.int 1 v] }
 | .iK o u=>h.get? a=some o/\i4 H h a u
 | .rH ps=>h.get? a=some { cls:=.none,data:=.fields ps }
 | .met f x=>h.get? a=some (RT (.ref f) (.ref x))
 | .ext φ=>φ h/\(∃o,h.get? a=some o)/\∀h1 h2:Heap,φ h1->(∀o,h1.get? a=some o->h2.get? a=some o)->φ h2
def du(H:Hp)(h:Heap):Prop:=∀a o,H a=some o->i4 P w H h a o
end
section
variable {P:bw}{w:aY}{H H':Hp}{h h':Heap}{a:Addr}{o:HO}
theorem i4.lt(x:i4 P w H h a o):a<h.objs.size:=by
 cases o with
 | lst xs=>obtain⟨_,_,_,_,e⟩:=x;exact bx e
 | tup xs=>obtain⟨_,_,_,p⟩:=x;exact p.lt
 | dK fi=>obtain⟨_,_,_,_,o,_,_,e,_⟩:=x;exact bx e
 | dT fi=>obtain⟨_,_,_,_,o,_,_,e,_⟩:=x;exact bx e
 | set S n=>obtain⟨o,_,_,_,e,_⟩:=x;exact bx e
 | ins C dx fs=>obtain⟨_,_,_,e,_⟩:=x;exact bx e
 | own y=>obtain⟨_,e⟩:=x;exact bx e
 | xd fs=>obtain⟨_,⟨_,_,_,e,_⟩,_⟩:=x;exact bx e
 | A5 lo hi=>obtain⟨_,_,_,e⟩:=x;exact bx e
 | iK ob u=>obtain⟨e,_⟩:=x;exact bx e
 | rH ps=>exact bx (show h.get? a=some _ from x)
 | met f y=>exact bx (show h.get? a=some _ from x)
 | ext φ=>obtain⟨_,⟨_,e⟩,_⟩:=x;exact bx e
theorem Paired.Kw{α β:Type}{F G:α->β->Prop}:∀{Kx:List α} {Ky:List β},Paired F Kx Ky->(∀a b,F a b->G a b)->Paired G Kx Ky
 | _,_,.nil,_=>.nil
 | _,_,.cons r t,f=>.cons (f _ _ r) (Paired.Kw t f)
theorem i4.nu(x:i4 P w H h a o)(k:∀b u,(b=a∨H b=some (.own a))->h.get? b=some u->h'.get? b=some u)
 (ho:∀b,H b=some (.own a)->H' b=some (.own a)) (ht:∀b xs,H b=some (.tup xs)->H' b=some (.tup xs)):i4 P w H' h' a o:=by
 induction o with
 | lst xs=>obtain⟨z,its,n,r,e⟩:=x;exact⟨z,its,n,r,k _ _ (.inl rfl) e⟩
 | tup xs=>obtain⟨z,its,r,ob,e,c⟩:=x;exact⟨z,its,r,ob,k _ _ (.inl rfl) e,c⟩
 | dK fi=>obtain⟨z,y,vs,r,ob,es,ep,e,c⟩:=x;exact⟨z,y,vs,r,ob,es,ep,k _ _ (.inl rfl) e,c⟩
 | dT fi =>
   obtain⟨z,y,xs,r,ob,es,ep,e,c⟩:=x
   exact⟨z,y,xs,Paired.Kw r λp q z=>⟨z.1,ht _ _ z.2.1,z.2.2⟩,ob,es,ep,k _ _ (.inl rfl) e,c⟩
 | set S n=>obtain⟨ob,es,ep,t,e,c⟩:=x;exact⟨ob,es,ep,t,k _ _ (.inl rfl) e,c⟩
 | ins C dx fs =>
   obtain⟨d,z,ne,e,mA,⟨od,es,ep,e2,c⟩,r⟩:=x
   exact⟨ho _ d,z,ne,k _ _ (.inl rfl) e,mA,⟨od,es,ep,k _ _ (.inr d) e2,c⟩,r⟩
 | own y=>obtain⟨ob,e⟩:=x;exact⟨ob,k _ _ (.inl rfl) e⟩
 | xd fs=>obtain⟨mA,⟨od,es,ep,e,c⟩,r⟩:=x;exact⟨mA,⟨od,es,ep,k _ _ (.inl rfl) e,c⟩,r⟩
 | A5 lo hi=>obtain⟨t,u,v,e⟩:=x;exact⟨t,u,v,k _ _ (.inl rfl) e⟩
 | iK ob u ih=>obtain⟨e,q⟩:=x;exact⟨k _ _ (.inl rfl) e,ih q⟩
 | rH ps =>
   have e:h.get? a=some { cls:=.none,data:=.fields ps }:=x
   show h'.get? a=some { cls:=.none,data:=.fields ps }
   exact k a _ (.inl rfl) e
 | met f y =>
   have e:h.get? a=some (RT (.ref f) (.ref y)):=x
   show h'.get? a=some (RT (.ref f) (.ref y))
   exact k a _ (.inl rfl) e
 | ext φ=>obtain⟨p,⟨o,e⟩,st⟩:=x;exact⟨st _ _ p λo q=>k _ _ (.inl rfl) q,⟨o,k _ _ (.inl rfl) e⟩,st⟩
theorem du.lt(x:du P w H h)(e:H a=some o):a<h.objs.size:=(x a o e).lt
theorem du.fresh(x:du P w H h)(e:h.objs.size<=a):H a=none:=by
 cases q:H a with
 | none=>rfl
 | some u=>exact absurd (b_ (x.lt q) e) (dS _)
theorem du.kept(x:du P w H h)(k:∀b u,h.get? b=some u->h'.get? b=some u):du P w H h':=λa o e =>
 (x a o e).nu (λb u _ q=>k b u q) (λ_ q=>q) λ_ _ q=>q
theorem du.laid(x:du P w H h)(k:∀b u,h.get? b=some u->h'.get? b=some u)(hp:h.objs.size<=a)(new:i4 P w (upd H a o) h' a o):du P w (upd H a o) h':=λb u e=>by
 have hn:=x.fresh hp
 by_cases hb:b=a
 ·subst hb;rw[dq] at e;cases e;exact new
 ·rw[bP hb] at e
  exact(x b u e).nu (λc v _ q=>k c v q) (λc q=>by rw[bP (fI q hn)];exact q) λc xs q=>by rw[bP (fI q hn)];exact q
end
def Rd(H:Hp)(a:Addr)(u:HO):Prop:=H a=some u∨∃o,H a=some (.iK o u)
theorem Rd.ok{P:bw}{w:aY}{H:Hp}{h:Heap}{a:Addr}{u:HO}(r:Rd H a u)(x:du P w H h):i4 P w H h a u:=by
 rcases r with r | ⟨o,r⟩
 ·exact x a u r
 ·obtain⟨_,q⟩:=x a _ r
  exact q
def A6:Option HO->Prop
 | some (.lst _)=>True
 | some (.dK _)=>True
 | some (.dT _)=>True
 | some (.set _ _)=>True
 | some (.ins _ _ _)=>True
 | some (.ext _)=>True
 | _=>False
section
variable {P:bw}{w:aY}{H:Hp}{h h':Heap}{x e:Addr}{o':HO}
theorem du.write(ok:du P w H h)(mu:A6 (H x))(he:e=x∨H e=some (.own x))(k:∀b u,b≠e->h.get? b=some u->h'.get? b=some u)(vi:∃u,h'.get? e=some u)
 (new:i4 P w (upd H x o') h' x o'):du P w (upd H x o') h':=λb u q=>by
 have Kz:∀c y,H c=some (.own y)->c≠x:=λc y r z=>by subst z;rw[r] at mu;exact mu
 have T6:∀c xs,H c=some (.tup xs)->c≠x:=λc xs r z=>by subst z;rw[r] at mu;exact mu
 by_cases hb:b=x
 ·subst hb;rw[dq] at q;cases q;exact new
 ·rw[bP hb] at q
  by_cases s9:b=e
  ·have q':H b=some (.own x):=by
    rcases he with z | z
    ·exact absurd (s9.trans z) hb
    ·rw[s9];exact z
   rw[q] at q';cases q'
   obtain⟨v,hv⟩:=vi
   exact⟨v,by rw[s9];exact hv⟩
  ·refine(ok b u q).nu (λc v hc r=>k c v ?_ r) (λc r=>by rw[bP (Kz c b r)];exact r) λc xs r=>by rw[bP (T6 c xs r)];exact r
   rcases hc with rfl | hc
   ·exact s9
   ·rintro rfl
    rcases he with z | z
    ·exact Kz c b hc z
    ·rw[hc] at z;cases z;exact hb rfl
end
structure Un (fs ex:List Addr) (H H':Hp) (h h':Heap):Prop where
 keep:∀b o,h.get? b=some o->H b=none->b ∉ fs->b ∉ ex->h'.get? b=some o
 slot:∀b o,h.get? b=some o->H b=none->b∈fs->b ∉ ex->∃sl,h'.get? b=some { o with slots:=sl }
 free:∀b o,h.get? b=some o->H b=none->b ∉ ex->H' b=none
 there:∀b o,h.get? b=some o->b ∉ ex->∃o',h'.get? b=some o'
 l_:∀b xs,H b=some (.tup xs)->H' b=some (.tup xs)
 kP:∀b o u,H b=some (.iK o u)->H' b=some (.iK o u)
 md:∀b ps,H b=some (.rH ps)->∃more,H' b=some (.rH (ps++more))
section
variable {fs T7 ex ex':List Addr}{H H1 H2:Hp}{h h1 h2 h':Heap}{a x e:Addr}{o:HO}
theorem Un.any(u:Un fs ex H H1 h h1){b:Addr}{ob:Obj}(q:h.get? b=some ob)(n:H b=none)(hx:b ∉ ex):∃sl,h1.get? b=some { ob with slots:=sl }:=by
 by_cases hb:b∈fs
 ·exact u.slot b ob q n hb hx
 ·exact⟨ob.slots,u.keep b ob q n hb hx⟩
theorem Un.kept(k:∀b u,h.get? b=some u->h'.get? b=some u):Un fs ex H H h h' :=
 ⟨λb ob q _ _ _=>k b ob q,λb ob q _ _ _=>⟨ob.slots,k b ob q⟩,λ_ _ _ n _=>n,λb ob q _=>⟨ob,k b ob q⟩,λ_ _ q=>q,λ_ _ _ q=>q,λ_ ps q=>⟨#[],by rw[q];simp⟩⟩
theorem Un.refl:Un fs ex H H h h:=Un.kept λ_ _ q=>q
theorem Un.laid(k:∀b u,h.get? b=some u->h'.get? b=some u)(hp:h.objs.size<=a)(hn:H a=none):Un fs ex H (upd H a o) h h' where
 keep:=λb u q _ _ _=>k b u q
 slot:=λb u q _ _ _=>⟨u.slots,k b u q⟩
 free:=λb u q n _=>by rw[bP (cX (b_ (bx q) hp))];exact n
 there:=λb u q _=>⟨u,k b u q⟩
 l_:=λb xs q=>by rw[bP (fI q hn)];exact q
 kP:=λb u xs q=>by rw[bP (fI q hn)];exact q
 md:=λb ps q=>⟨#[],by rw[bP (fI q hn),q];simp⟩
theorem Un.write(mu:A6 (H x))(he:e=x∨H e=some (.own x))(k:∀b u,b≠e->h.get? b=some u->h'.get? b=some u)(vi:∃u,h'.get? e=some u):Un fs ex H (upd H x o) h h':=by
 have hx:∀b,H b=none->b≠x:=λb n z=>by subst z;rw[n] at mu;exact mu
 have hb:∀b,H b=none->b≠e:=λb n z=>by
  subst z
  rcases he with r | r
  ·exact hx b n r
  ·rw[n] at r;cases r
 have hm:∀b u,H b=some u->¬A6 (some u)->b≠x:=λb u q nm z=>by subst z;rw[q] at mu;exact nm mu
 refine⟨λb u q n _ _=>k b u (hb b n) q,λb u q n _ _=>⟨u.slots,k b u (hb b n) q⟩,λb u q n _=>by rw[bP (hx b n)];exact n,λb u q _=>?_,
  λb xs q=>by rw[bP (hm b _ q λz=>z)];exact q,λb u xs q=>by rw[bP (hm b _ q λz=>z)];exact q,λb ps q=>⟨#[],by rw[bP (hm b _ q λz=>z),q];simp⟩⟩
 by_cases s9:b=e
 ·subst s9;exact vi
 ·exact⟨u,k b u s9 q⟩
end
def A7(h:Heap)(H:Hp):List Addr:=(bL h.objs.size).filter λa=>(H a).isSome
def jm(h:Heap)(H:Hp):Heap:=PySem.W.hideAll h (A7 h H)
theorem T8(h:Heap)(H:Hp):(jm h H).objs.size=h.objs.size:=PySem.W.hideAll_size _ _
theorem Ea{h:Heap}{H:Hp}{b:Addr}{o:Obj}(e:h.get? b=some o)(n:H b=none):(jm h H).get? b=some o :=
 PySem.W.hideAll_get _ e λhm=>by
  have q:(H b).isSome=true:=(List.mem_filter.mp hm).2
  rw[n] at q;simp at q
theorem Eb{h:Heap}{H:Hp}{b:Addr}{o:Obj}(e:(jm h H).get? b=some o):h.get? b=some o/\H b=none:=by
 have e':h.get? b=some o:=PySem.W.of_hideAll (A7 h H) e
 refine⟨e',?_⟩
 cases q:H b with
 | none=>rfl
 | some x =>
   have hm:b∈A7 h H:=List.mem_filter.mpr ⟨List.mem_range.mpr (bx e'),by simp[q]⟩
   have z:(jm h H).get? b=none:=PySem.W.hideAll_none (A7 h H) hm
   rw[z] at e;cases e
def T9(g h:Heap)(L:Addr):List (Addr×Obj):=(bL h.objs.size).filterMap λa=>if a=L∨(g.get? a).isSome=true then none else (h.get? a).map λo=>(a,o)
def rest(g h:Heap)(L d:Addr):List (Addr×Obj):=(T9 g h L).filter λp=>decide (p.1≠d)
end L2
namespace L2
open PySem PySem.Spec PyProof.Rows
structure Mod (K:aK) (mg:Str->Option ae) (base:Heap):Prop where
 s_:K.In base
 glob:base.Ns dU mg
 blt:∃mb,base.Ns Jf mb/\∀x:Str,x≠"__name__"->mb x=qY x
 nolimit:base.NoLimit
structure Cx where
 prog:bw
 w:aY
 K:aK
 mg:Str->Option ae
 base:Heap
 A:Around
 N:List Str
 s₀:aq
 H₀:Hp
 env:Env
 outer:List Env
 stack:List Env
 ex:List Addr
 fn:Str->Bool
 calm:Bool
 pn:List (Addr×Obj)
 xe:ae->aq->Prop
def cY(l:List Env):List Addr:=l.filterMap (·.frame)
abbrev Cx.fs (X:Cx):List Addr:=cY X.outer
def ny(sc:cT)(x:Str):Prop:=sc.names.lookup x=some .local∨sc.names.lookup x=some .cell∨sc.names.lookup x=some .free
def Loc(sc:cT)(x:Str):Prop:=sc.names.lookup x=some .local∨sc.names.lookup x=some .cell
def Look(env:Env)(h:Heap)(m:Str->Option ae)(x:Str)(u:ae):Prop :=
 (env.kindOf x=some .local/\m x=some u)∨((env.kindOf x=some .cell∨env.kindOf x=some .free)/\∃c,env.cells.lookup x=some c/\h.IsCell c (some u))
structure Cx.Ok (X:Cx):Prop where
 mod:Mod X.K X.mg X.base
 kind:X.env.scope.kind = .function
 glob:X.env.globals=dU
 blt:X.env.builtins=Jf
 above:X.s₀.heap.objs.size<=X.env.locals
 inj:∀x y c,X.env.cells.lookup x=some c->X.env.cells.lookup y=some c->x=y
 has:∀x,(X.env.kindOf x=some .cell∨X.env.kindOf x=some .free)->∃c,X.env.cells.lookup x=some c
 xF:∀x c,X.fn x=true->X.env.cells.lookup x=some c->X.s₀.heap.objs.size<=c
 hd:X.calm=true->X.A.handled=none
 frames:X.A.frames=some X.stack
 A8:X.stack=X.outer∨(X.stack=X.env::X.outer/\X.env.frame=some X.env.locals)
 KA:∀b∈X.ex,b≠X.env.locals/\∀x c,X.env.cells.lookup x=some c->c≠b
 bs:∀b o,X.base.get? b=some o->X.s₀.heap.get? b=some o/\X.H₀ b=none
 kQ:X.base.objs.size<=X.s₀.heap.objs.size
 td:∀b o,X.base.get? b=some o->b ∉ X.ex
 A9:∀b∈X.ex,b ∉ X.fs
 me:X.s₀.heap.FunFrames X.base X.outer
 rJ:∀b∈X.fs,X.H₀ b=none
structure Inv (X:Cx) (pins:List (Addr×Obj)) (σ:List (Option V)) (H:Hp) (s:aq):Prop where
 ok:X.Ok
 os:s.os=X.s₀.os
 bare:m6 s.gens
 base:Un X.fs X.ex X.H₀ H X.s₀.heap s.heap
 loc:∃m,s.heap.Ns X.env.locals m/\∀(i:Nat) (x:Str) (v:V),X.N[i]? = some x->σ[i]? = some (some v)->ny X.env.scope x->∃u,RelV v u/\Look X.env s.heap m x u
 cell:∀x c,X.env.cells.lookup x=some c->∃v,s.heap.IsCell c v
 free:H X.env.locals=none
 mf:∀x c,X.env.cells.lookup x=some c->H c=none
 pin:∀p∈X.pn++pins,s.heap.get? p.1=some p.2/\H p.1=none/\p.1≠X.env.locals/\p.1 ∉ X.fs/\∀v,p.2.data ≠ .cell v
 aQ:du X.prog X.w H s.heap
 len:σ.length=X.N.length
section
variable {X:Cx}{pins:List (Addr×Obj)}{σ:List (Option V)}{H H':Hp}{s:aq}{h':Heap}
theorem Cx.Ok.T_(ok:X.Ok){b:Addr}{o:Obj}(e:X.base.get? b=some o):b ∉ X.fs:=λhb=>by
 have:=(ok.me.mem hb).1
 rw[e] at this;cases this
theorem Inv.bs(I:Inv X pins σ H s):∀b o,X.base.get? b=some o->s.heap.get? b=some o/\H b=none:=λb o e =>
 ⟨I.base.keep b o (I.ok.bs b o e).1 (I.ok.bs b o e).2 (I.ok.T_ e) (I.ok.td b o e),I.base.free b o (I.ok.bs b o e).1 (I.ok.bs b o e).2 (I.ok.td b o e)⟩
theorem Inv.bk(I:Inv X pins σ H s):∀b o,X.base.get? b=some o->s.heap.get? b=some o:=λb o e=>(I.bs b o e).1
theorem Inv.mod(I:Inv X pins σ H s):Mod X.K X.mg X.base:=I.ok.mod
theorem Inv.nA(I:Inv X pins σ H s):X.K.In s.heap:=I.ok.mod.s_.keeps I.bk
theorem Inv.lt(I:Inv X pins σ H s):X.env.locals<s.heap.objs.size:=let ⟨_,hn,_⟩:=I.loc;hn.lt
theorem Inv.sz(I:Inv X pins σ H s):X.s₀.heap.objs.size<=s.heap.objs.size:=dD I.ok.above (uM I.lt)
theorem Inv.A_(I:Inv X pins σ H s){a:Addr}(h:s.heap.objs.size<=a):a ∉ X.fs:=λhb=>by
 obtain⟨_,o,ho,_⟩:=I.ok.me.mem hb
 exact absurd (b_ (bx ho) (dD I.sz h)) (dS _)
theorem Inv.pY(I:Inv X pins σ H s):∀x c,X.env.cells.lookup x=some c->c≠X.env.locals:=λx c e z=>by
 obtain⟨v,o,ho,hd⟩:=I.cell x c e
 obtain⟨m,⟨o',es,ep,dm,fR,_⟩,_⟩:=I.loc
 rw[z,dm] at ho;cases ho;rw[fR] at hd;cases hd
theorem Inv.me(I:Inv X pins σ H s):s.heap.FunFrames X.base X.outer:=by
 have all:∀(l:List Env),(∀b∈cY l,b∈X.fs)->X.s₀.heap.FunFrames X.base l->s.heap.FunFrames X.base l:=by
  intro l
  induction l with
  | nil=>intro _ _;trivial
  | cons env r ih =>
    intro hs hl
    obtain⟨hk,⟨L,o,hf,hn,ho,hd⟩,hr⟩:=hl
    have hL:L∈X.fs:=hs L (by unfold cY;rw[wW,hf];exact bV)
    obtain⟨sl,e⟩:=I.base.slot L o ho (I.ok.rJ L hL) hL λz=>I.ok.A9 L z hL
    exact⟨hk,⟨L,_,hf,hn,e,hd⟩,ih (λb hb=>hs b (by unfold cY;rw[wW,hf];exact bY _ hb)) hr⟩
 exact all X.outer (λ_ hb=>hb) I.ok.me
theorem Inv.stack(I:Inv X pins σ H s):s.heap.FunFrames X.base X.stack:=by
 rcases I.ok.A8 with e | ⟨e,hf⟩
 ·rw[e];exact I.me
 ·rw[e]
  obtain⟨m,hn,_⟩:=I.loc
  refine .cons (by rw[I.ok.kind];decide) hf hn ?_ I.me
  exact wX (dD I.ok.kQ I.ok.above)
theorem Inv.kg(I:Inv X pins σ H s):∀b∈cY X.stack,b∈X.env.locals::X.fs:=λb hb=>by
 rcases I.ok.A8 with e | ⟨e,hf⟩
 ·rw[e] at hb;exact bY _ hb
 ·rw[e] at hb
  unfold cY at hb
  rw[wW,hf] at hb
  exact hb
theorem Inv.xG(I:Inv X pins σ H s):∀b∈cY X.stack,H b=none:=λb hb=>by
 rcases List.mem_cons.mp (I.kg b hb) with e | hb
 ·rw[e];exact I.free
 ·obtain⟨_,o,ho,_⟩:=I.ok.me.mem hb
  exact I.base.free b o ho (I.ok.rJ b hb) λz=>I.ok.A9 b z hb
theorem Inv.step{g':Array Jg}{t':Nat}{d':Dz}{ch:List Addr}(I:Inv X pins σ H s)
 (i5:∀b∈ch,(b∈X.ex∨X.s₀.heap.get? b=none)/\b≠X.env.locals/\(∀x c,X.env.cells.lookup x=some c->c≠b)/\∀p∈X.pn++pins,p.1≠b)
 (keep:∀b o,b≠X.env.locals->b ∉ X.fs->b ∉ ch->s.heap.get? b=some o->H b=none->h'.get? b=some o)
 (slot:∀b o,b≠X.env.locals->b∈X.fs->b ∉ ch->s.heap.get? b=some o->H b=none->∃sl,h'.get? b=some { o with slots:=sl }) (free:∀b o,b ∉ ch->s.heap.get? b=some o->H b=none->H' b=none)
 (there:∀b o,b ∉ ch->s.heap.get? b=some o->∃o',h'.get? b=some o')
 (l_:∀b xs,H b=some (.tup xs)->H' b=some (.tup xs)) (kP:∀b o u,H b=some (.iK o u)->H' b=some (.iK o u)) (md:∀b ps,H b=some (.rH ps)->∃more,H' b=some (.rH (ps++more)))
 (ns:∀m,s.heap.Ns X.env.locals m->h'.Ns X.env.locals m) (aQ:du X.prog X.w H' h') (hg:m6 g') :
 Inv X pins σ H' { s with heap:=h',gens:=g',drawn:=d',toks:=t' }:=by
 have KC:∀b o,X.s₀.heap.get? b=some o->b≠X.env.locals:=λb o e=>cX (b_ (bx e) I.ok.above)
 have Ba:∀b o,X.s₀.heap.get? b=some o->b ∉ X.ex->b ∉ ch:=λb o e hx hb=>by
  rcases(i5 b hb).1 with z | z
  ·exact hx z
  ·rw[e] at z;cases z
 have cellK:∀x c,X.env.cells.lookup x=some c->∀v,s.heap.IsCell c v->h'.IsCell c v:=λx c e v ⟨o,ho,hd⟩=>by
  have xH:c ∉ ch:=λz=>(i5 c z).2.2.1 x c e rfl
  by_cases hc:c∈X.fs
  ·obtain⟨sl,q⟩:=slot c o (I.pY x c e) hc xH ho (I.mf x c e)
   exact⟨_,q,hd⟩
  ·exact⟨o,keep c o (I.pY x c e) hc xH ho (I.mf x c e),hd⟩
 refine⟨I.ok,I.os,hg,⟨λb o e n hb hx=>?_,λb o e n hb hx=>?_,λb o e n hx=>?_,λb o e hx=>?_,λb xs e=>l_ b xs (I.base.l_ b xs e),λb o xs e=>kP b o xs (I.base.kP b o xs e),λb ps e=>?_⟩,?_,λx c e=>?_,?_,λx c e=>?_,λp hp=>?_,aQ,I.len⟩
 ·exact keep b o (KC b o e) hb (Ba b o e hx) (I.base.keep b o e n hb hx) (I.base.free b o e n hx)
 ·obtain⟨sl,e1⟩:=I.base.slot b o e n hb hx
  obtain⟨KD,e2⟩:=slot b _ (KC b o e) hb (Ba b o e hx) e1 (I.base.free b o e n hx)
  exact⟨KD,e2⟩
 ·obtain⟨o',e1⟩:=I.base.there b o e hx
  exact free b o' (Ba b o e hx) e1 (I.base.free b o e n hx)
 ·obtain⟨o',e1⟩:=I.base.there b o e hx
  exact there b o' (Ba b o e hx) e1
 ·obtain⟨m1,e1⟩:=I.base.md b ps e
  obtain⟨m2,e2⟩:=md b _ e1
  exact⟨m1++m2,by rw[e2,Array.append_assoc]⟩
 ·obtain⟨m,hn,hl⟩:=I.loc
  refine⟨m,ns m hn,λi x v e1 e2 e3=>?_⟩
  obtain⟨u,r,l⟩:=hl i x v e1 e2 e3
  refine⟨u,r,?_⟩
  rcases l with l | ⟨k,c,e,z⟩
  ·exact .inl l
  ·exact .inr ⟨k,c,e,cellK x c e _ z⟩
 ·obtain⟨v,z⟩:=I.cell x c e
  exact⟨v,cellK x c e v z⟩
 ·obtain⟨m,⟨o,_,_,ho,_⟩,_⟩:=I.loc
  exact free _ o (λz=>(i5 _ z).2.1 rfl) ho I.free
 ·obtain⟨v,o,ho,hd⟩:=I.cell x c e
  exact free c o (λz=>(i5 c z).2.2.1 x c e rfl) ho (I.mf x c e)
 ·obtain⟨e,n,ne,nf,d⟩:=I.pin p hp
  have xH:p.1 ∉ ch:=λz=>(i5 p.1 z).2.2.2 p hp rfl
  exact⟨keep p.1 p.2 ne nf xH e n,free p.1 p.2 xH e n,ne,nf,d⟩
theorem Inv.un{t':Nat}(I:Inv X pins σ H s)(u:Un X.fs [] H H' s.heap h')(aQ:du X.prog X.w H' h'):Inv X pins σ H' { s with heap:=h',toks:=t' }:=by
 obtain⟨m,⟨o,es,ep,ho,r⟩,_⟩:=id I.loc
 obtain⟨sl,hL⟩:=u.any ho I.free (by simp)
 exact I.step (g':=s.gens) (d':=s.drawn) (ch:=[]) (λ_ z=>nomatch z) (λb o _ hb _ e n=>u.keep b o e n hb (by simp)) (λb o _ hb _ e n=>u.slot b o e n hb (by simp)) (λb o _ e n=>u.free b o e n (by simp)) (λb o _ e=>u.there b o e (by simp)) u.l_ u.kP u.md (λm' hm=>by
  obtain⟨o',cU,Ec,dm,r'⟩:=hm
  rw[ho] at dm;cases dm
  exact⟨_,cU,Ec,hL,r'⟩) aQ I.bare
theorem Inv.call{g':Array Jg}{t':Nat}{d':Dz}{ch:List Addr}(I:Inv X pins σ H s)(u:Un (cY X.stack) ch H H' s.heap h')(aQ:du X.prog X.w H' h')(hg:m6 g')
 (i5:∀b∈ch,(b∈X.ex∨X.s₀.heap.get? b=none)/\b≠X.env.locals/\(∀x c,X.env.cells.lookup x=some c->c≠b)/\∀p∈X.pn++pins,p.1≠b) :
 Inv X pins σ H' { s with heap:=h',gens:=g',drawn:=d',toks:=t' }:=by
 obtain⟨m,⟨o,es,ep,ho,r⟩,_⟩:=id I.loc
 obtain⟨sl,hL⟩:=u.any ho I.free λz=>(i5 _ z).2.1 rfl
 exact I.step (ch:=ch) i5 (λb o hL hb hc e n=>u.keep b o e n (λz=>(List.mem_cons.mp (I.kg b z)).elim hL hb) hc) (λb o _ _ hc e n=>u.any e n hc) (λb o hc e n=>u.free b o e n hc) (λb o hc e=>u.there b o e hc) u.l_ u.kP u.md (λm' hm=>by
  obtain⟨o',cU,Ec,dm,r'⟩:=hm
  rw[ho] at dm;cases dm
  exact⟨_,cU,Ec,hL,r'⟩) aQ hg
theorem Inv.turned{t':Nat}{it:Addr}(I:Inv X pins σ H s)(k:∀b o,b≠it->s.heap.get? b=some o->h'.get? b=some o)(hn:H it=none)(hL:it≠X.env.locals)
 (h1:it∈X.ex∨X.s₀.heap.objs.size<=it) (h2:∀x c,X.env.cells.lookup x=some c->c≠it) (h3:∀p∈X.pn++pins,p.1≠it):Inv X pins σ H { s with heap:=h',toks:=t' }:=by
 have rK:∀b u,H b=some u->b≠it:=λb u e z=>by rw[z,hn] at e;cases e
 refine I.step (g':=s.gens) (d':=s.drawn) (ch:=[it]) (λb hb=>?_) (λb o _ _ hc e _=>k b o (λz=>hc (by simp[z])) e) (λb o _ _ hc e _=>⟨o.slots,k b o (λz=>hc (by simp[z])) e⟩) (λ_ _ _ _ n=>n)
  (λb o hc e=>⟨o,k b o (λz=>hc (by simp[z])) e⟩) (λ_ _ e=>e) (λ_ _ _ e=>e) (λb ps e=>⟨#[],by rw[e];simp⟩) (λm hm=>?_) (λb u e=>?_) I.bare
 ·have e:b=it:=by simpa using hb
  subst e
  exact⟨h1.imp_right λz=>wX z,hL,h2,h3⟩
 ·obtain⟨o,es,ep,ho,r⟩:=hm
  exact⟨o,es,ep,k _ o (eC hL) ho,r⟩
 ·refine(I.aQ b u e).nu (λc v hc q=>k c v ?_ q) (λ_ q=>q) λ_ _ q=>q
  rcases hc with z | z
  ·rw[z];exact rK b u e
  ·exact rK c _ z
theorem Inv.tok(I:Inv X pins σ H s)(t:Nat):Inv X pins σ H { s with toks:=t }:=I.un (h':=s.heap) (t':=t) Un.refl I.aQ
theorem Inv.kept{t':Nat}(I:Inv X pins σ H s)(k:∀b u,s.heap.get? b=some u->h'.get? b=some u):Inv X pins σ H { s with heap:=h',toks:=t' }:=I.un (Un.kept k) (I.aQ.kept k)
theorem Inv.laid{a:Addr}{o:HO}{t':Nat}(I:Inv X pins σ H s)(k:∀b u,s.heap.get? b=some u->h'.get? b=some u)(hp:s.heap.objs.size<=a)(new:i4 X.prog X.w (upd H a o) h' a o) :
 Inv X pins σ (upd H a o) { s with heap:=h',toks:=t' }:=I.un (Un.laid k hp (I.aQ.fresh hp)) (I.aQ.laid k hp new)
theorem Inv.write{x e:Addr}{o:HO}{t':Nat}(I:Inv X pins σ H s)(mu:A6 (H x))(he:e=x∨H e=some (.own x))(k:∀b u,b≠e->s.heap.get? b=some u->h'.get? b=some u)(vi:∃u,h'.get? e=some u)
 (new:i4 X.prog X.w (upd H x o) h' x o):Inv X pins σ (upd H x o) { s with heap:=h',toks:=t' }:=I.un (Un.write mu he k vi) (I.aQ.write mu he k vi new)
theorem Inv.rL{xI:List (Addr×Obj)}(I:Inv X pins σ H s)(h:∀p∈xI,s.heap.get? p.1=some p.2/\H p.1=none/\p.1≠X.env.locals/\p.1 ∉ X.fs/\∀v,p.2.data ≠ .cell v):Inv X xI σ H s :=
 ⟨I.ok,I.os,I.bare,I.base,I.loc,I.cell,I.free,I.mf,λp hp=>(List.mem_append.mp hp).elim (λz=>I.pin p (m7 _ z)) (h p),I.aQ,I.len⟩
theorem KG{N:List Str}(hN:N.Nodup){i j:Nat}{x:Str}(a:N[i]? = some x)(b:N[j]? = some x):i=j:=by
 obtain⟨h1,e1⟩:=List.getElem?_eq_some_iff.mp a
 obtain⟨h2,e2⟩:=List.getElem?_eq_some_iff.mp b
 exact(List.getElem_inj hN).mp (e1.trans e2.symm)
theorem Bb{M:oI}{A:Around}{E:ae->aq->Prop}{i:Nat}{x:Str}{v:V}{u:ae}{Q:Unit->aq->Prop}(I:Inv X pins σ H s)(hN:X.N.Nodup)(hi:X.N[i]? = some x)(hx:Loc X.env.scope x)(r:RelV v u)
 (h:∀s',Inv X pins (σ.set i (some v)) H s'->(∃a,sQ a s.heap s'.heap/\(a=X.env.locals∨X.env.cells.lookup x=some a))->Q () s') (hf:X.fn x=true∨X.env.scope.names.lookup x=some .local:=by first | exact .inl rfl | exact .inr rfl | assumption):az M A (storeName X.env x u) Q E s:=by
 obtain⟨m,hn,hl⟩:=id I.loc
 have Ua:(X.env.scope.kind == .class||(X.env.scope.kind == .module&&X.env.locals != X.env.globals))=false:=by rw[I.ok.kind];rfl
 have KH:i<σ.length:=by rw[I.len];exact(List.getElem?_eq_some_iff.mp hi).1
 have pY:=I.pY
 have tracked:∀{a:Addr} {h':Heap},(∃o,s.heap.get? a=some o/\H a=none)->sQ a s.heap h'->du X.prog X.w H h':=λ{a h'} ha hs b ob e=>by
  obtain⟨_,_,xJ⟩:=ha
  refine(I.aQ b ob e).nu (λc w' hc q=>(hs.2 c ?_).trans q) (λ_ q=>q) λ_ _ q=>q
  rintro rfl
  rcases hc with rfl | hc
  ·rw[xJ] at e;cases e
  ·rw[xJ] at hc;cases hc
 rcases hx with hk | hk
 ·refine wpAny_storeName_local hk hn (λh' iL hs=>?_) Ua
  obtain⟨oL,_,_,Ub,_⟩:=id hn
  refine h _ ⟨I.ok,I.os,I.bare,⟨λb o e n hb hx=>?_,λb o e n hb hx=>?_,I.base.free,λb o e hx=>?_,I.base.l_,I.base.kP,I.base.md⟩,⟨_,iL,λj y v' e1 e2 e3=>?_⟩,λy c e=>?_,I.free,I.mf,λp hp=>?_,tracked ⟨oL,Ub,I.free⟩ hs,by simpa using I.len⟩ ⟨_,hs,.inl rfl⟩
  ·exact(hs.2 b (cX (b_ (bx e) I.ok.above))).trans (I.base.keep b o e n hb hx)
  ·obtain⟨sl,e1⟩:=I.base.slot b o e n hb hx
   exact⟨sl,(hs.2 b (cX (b_ (bx e) I.ok.above))).trans e1⟩
  ·obtain⟨o',e1⟩:=I.base.there b o e hx
   exact⟨o',(hs.2 b (cX (b_ (bx e) I.ok.above))).trans e1⟩
  ·by_cases hj:j=i
   ·subst hj
    rw[hi] at e1;cases e1
    rw[jB KH] at e2
    cases e2
    exact⟨u,r,.inl ⟨hk,by simp⟩⟩
   ·rw[gM (eC hj)] at e2
    obtain⟨u',r',q⟩:=hl j y v' e1 e2 e3
    refine⟨u',r',?_⟩
    rcases q with ⟨k,e⟩ | ⟨k,c,e,z⟩
    ·refine .inl ⟨k,?_⟩
     have:y≠x:=λe=>hj (KG hN e1 (e ▸ hi))
     simp[this,e]
    ·exact .inr ⟨k,c,e,z.sameBut hs (pY y c e)⟩
  ·obtain⟨w',z⟩:=I.cell y c e
   exact⟨w',z.sameBut hs (pY y c e)⟩
  ·obtain⟨e,n,ne,nf,d⟩:=I.pin p hp
   exact⟨(hs.2 p.1 ne).trans e,n,ne,nf,d⟩
 ·have Ed:X.fn x=true:=by
   rcases hf with z | z
   ·exact z
   ·rw[z] at hk;cases hk
  obtain⟨c,hc⟩:=I.ok.has x (.inl hk)
  obtain⟨w',z⟩:=I.cell x c hc
  refine wpAny_storeName_cell I.ok.kind hk hc z (λh' tf hs=>?_)
  obtain⟨oc,KI,Uc⟩:=id z
  refine h { s with heap:=h' } ⟨I.ok,I.os,I.bare,⟨λb o e n hb hx=>?_,λb o e n hb hx=>?_,I.base.free,λb o e hx=>?_,I.base.l_,I.base.kP,I.base.md⟩,⟨m,hn.sameBut hs (eC (pY x c hc)),λj y v' e1 e2 e3=>?_⟩,λy c' e=>?_,I.free,I.mf,λp hp=>?_,tracked ⟨oc,KI,I.mf x c hc⟩ hs,by simpa using I.len⟩ ⟨c,hs,.inr hc⟩
  ·exact(hs.2 b (cX (b_ (bx e) (I.ok.xF x c Ed hc)))).trans (I.base.keep b o e n hb hx)
  ·obtain⟨sl,e1⟩:=I.base.slot b o e n hb hx
   exact⟨sl,(hs.2 b (cX (b_ (bx e) (I.ok.xF x c Ed hc)))).trans e1⟩
  ·obtain⟨o',e1⟩:=I.base.there b o e hx
   exact⟨o',(hs.2 b (cX (b_ (bx e) (I.ok.xF x c Ed hc)))).trans e1⟩
  ·by_cases hj:j=i
   ·subst hj
    rw[hi] at e1;cases e1
    rw[jB KH] at e2
    cases e2
    exact⟨u,r,.inr ⟨.inl hk,c,hc,tf⟩⟩
   ·rw[gM (eC hj)] at e2
    obtain⟨u',r',q⟩:=hl j y v' e1 e2 e3
    refine⟨u',r',?_⟩
    rcases q with q | ⟨k,c',e,z'⟩
    ·exact .inl q
    ·refine .inr ⟨k,c',e,z'.sameBut hs ?_⟩
     rintro rfl
     exact hj (KG hN e1 (I.ok.inj _ _ _ e hc ▸ hi))
  ·by_cases kh:c'=c
   ·subst kh;exact⟨_,tf⟩
   ·obtain⟨w2,z2⟩:=I.cell y c' e
    exact⟨w2,z2.sameBut hs kh⟩
  ·obtain⟨e,n,ne,nf,d⟩:=I.pin p hp
   refine⟨(hs.2 p.1 ?_).trans e,n,ne,nf,d⟩
   intro q
   rw[q,KI] at e
   have q':oc=p.2:=iZ e
   exact d w' (by rw[<-q'];exact Uc)
theorem Ee{M:oI}{A:Around}{E:ae->aq->Prop}{i:Nat}{x:Str}{v:V}{u:ae}{Q:Unit->aq->Prop}(I:Inv X pins σ H s)(hN:X.N.Nodup)(hi:X.N[i]? = some x)(hx:Loc X.env.scope x)(r:RelV v u)
 (h:∀s',Inv X pins (σ.set i (some v)) H s'->Q () s') (hf:X.fn x=true∨X.env.scope.names.lookup x=some .local:=by first | exact .inl rfl | exact .inr rfl | assumption):az M A (storeName X.env x u) Q E s :=
 Bb I hN hi hx r (λs' I' _=>h s' I') hf
theorem Inv.Ud{s':aq}{ch:List Addr}(I:Inv X pins σ H s)(ho:s'.os=s.os)(u:Un (cY X.stack) ch H H' s.heap s'.heap)(aQ:du X.prog X.w H' s'.heap)(hg:m6 s'.gens)
 (i5:∀b∈ch,(b∈X.ex∨X.s₀.heap.get? b=none)/\b≠X.env.locals/\(∀x c,X.env.cells.lookup x=some c->c≠b)/\∀p∈X.pn++pins,p.1≠b):Inv X pins σ H' s':=by
 obtain⟨h',g',d',t',o'⟩:=s'
 have e:o'=s.os:=ho
 subst e
 exact I.call (g':=g') (t':=t') (d':=d') u aQ hg i5
end
abbrev XK:=ae->Option Addr->Hp->Prop
abbrev St:=List (Option V)
abbrev VK:=V->Hp->Prop
abbrev TE:=St->Hp->VK->Prop
abbrev TT:=St->Hp->(Bool->Hp->Prop)->Prop
abbrev TA:=St->Hp->(List V->Hp->Prop)->Prop
structure Ends where
 nx:St->Hp->Prop
 rt:VK
 bk:St->Hp->Prop:=λ_ _=>False
 ct:St->Hp->Prop:=λ_ _=>False
abbrev TS:=Ends->St->Hp->Prop
def EP(X:Cx)(pins:List (Addr×Obj))(σ:St)(Q:VK)(u:ae)(s':aq):Prop:=∃v H',Inv X pins σ H' s'/\RelV v u/\Q v H'
def SP(X:Cx)(pins:List (Addr×Obj))(D:Ends)(f:Flow)(s':aq):Prop :=
 match f with
 | .next=>∃a8 H',Inv X pins a8 H' s'/\D.nx a8 H'
 | .brk=>∃a8 H',Inv X pins a8 H' s'/\D.bk a8 H'
 | .cont=>∃a8 H',Inv X pins a8 H' s'/\D.ct a8 H'
 | .ret u=>∃v a8 H',Inv X pins a8 H' s'/\RelV v u/\D.rt v H'
def PE(X:Cx)(e:Expr)(t:TE):Prop :=
 ∀(pins:List (Addr×Obj)) (s:aq) (σ:St) (H:Hp) (Q:VK),Inv X pins σ H s->t σ H Q->az (aJ X.prog X.w) X.A (eval e X.env) (EP X pins σ Q) X.xe s
def Ue(X:Cx)(st:List Stmt)(t:TS):Prop :=
 ∀(pins:List (Addr×Obj)) (s:aq) (σ:St) (H:Hp) (D:Ends),Inv X pins σ H s->t D σ H->az (aJ X.prog X.w) X.A (execs st X.env) (SP X pins D) X.xe s
theorem fm{α:Type}{t:Sem α}{Q Q':α->aq->Prop}{M:oI}{A:Around}{E:ae->aq->Prop}{s:aq}(h:az M A t Q E s)(hQ:∀a s,Q a s->Q' a s):az M A t Q' E s:=aH h hQ λ_ _ x=>x
end L2
namespace L2
open PySem PySem.Spec PyProof.Rows
section
variable {X:Cx}
def KJ(i:Nat):TE:=λσ H Q=>∃v,σ[i]? = some (some v)/\Q v H
def tC(v:V):TE:=λ_ H Q=>Q v H
theorem vj{i:Nat}{x:Str}{pos:Pos}(hN:X.N[i]? = some x)(hv:ny X.env.scope x)(hd:(x==("__debug__":Str))=false:=by decide)(fq:(x==("__classdict__":Str))=false:=by decide):PE X (.Name x pos) (KJ i):=by
 intro pins s σ H Q I h
 obtain⟨v,e,h⟩:=h
 obtain⟨m,hn,hl⟩:=I.loc
 obtain⟨u,r,l⟩:=hl i x v hN e hv
 have fin:EP X pins σ Q u s:=⟨v,H,I,r,h⟩
 rcases l with ⟨hk,hm⟩ | ⟨hk,c,hc,KL⟩
 ·exact RU (wpAny_loadName_local I.ok.kind hk hn hm fin) hd
 ·rcases hk with hk | hk
  ·exact RU (wpAny_loadName_cell I.ok.kind hk hc KL fin) hd
  ·exact RU (wpAny_loadName_free I.ok.kind hk hc KL fin fq) hd
theorem Ug{i j pos}:PE X (.Constant (.int i) j pos) (tC (.int i)):=λ_ _ _ H _ I h=>wpAny_Constant_int ⟨.int i,H,I.tok _,⟨_,rfl⟩,h⟩
theorem Uh{b j pos}:PE X (.Constant (.bool b) j pos) (tC (.bl b)):=λ_ _ _ H _ I h=>Constant_bool ⟨.bl b,H,I,rfl,h⟩
theorem Ui{j pos}:PE X (.Constant .none j pos) (tC .bS):=λ_ _ _ H _ I h=>Constant_none ⟨.bS,H,I,rfl,h⟩
theorem Uj{x j pos}:PE X (.Constant (.str x) j pos) (tC (.str x)):=λ_ _ _ H _ I h=>Calls.Constant_str ⟨.str x,H,I.tok _,⟨_,rfl⟩,h⟩
def Gl(X:Cx)(x:Str):Prop:=X.env.kindOf x=some .globalImplicit
theorem vm{E:ae->aq->Prop}{pins:List (Addr×Obj)}{s:aq}{σ:St}{H:Hp}{x:Str}{u:ae}{pos:Pos}{Q:ae->aq->Prop}(I:Inv X pins σ H s)(hg:Gl X x)(hm:X.mg x=some u)(h:Q u s)
 (hd:(x==("__debug__":Str))=false:=by decide):az (aJ X.prog X.w) X.A (eval (.Name x pos) X.env) Q E s :=
 a5g I.ok.kind hg (Calls.loadGlobal_global (by rw[I.ok.glob];exact I.mod.glob.keeps I.bk) hm h) hd
theorem nB{E:ae->aq->Prop}{pins:List (Addr×Obj)}{s:aq}{σ:St}{H:Hp}{x:Str}{u:ae}{pos:Pos}{Q:ae->aq->Prop}(I:Inv X pins σ H s)(hg:Gl X x)(hm:X.mg x=none)(hv:qY x=some u)(h:Q u s)
 (hn:x≠"__name__":=by decide) (hd:(x==("__debug__":Str))=false:=by decide):az (aJ X.prog X.w) X.A (eval (.Name x pos) X.env) Q E s:=by
 obtain⟨mb,h1,h2⟩:=I.mod.blt
 exact a5g I.ok.kind hg (Calls.loadGlobal_builtin (by rw[I.ok.glob];exact I.mod.glob.keeps I.bk) hm (by rw[I.ok.blt];exact h1.keeps I.bk) ((h2 x hn).trans hv) h) hd
theorem Uk{x:Str}{v:V}{u:ae}{pos:Pos}(hg:Gl X x)(hm:X.mg x=some u)(r:RelV v u)(hd:(x==("__debug__":Str))=false:=by decide):PE X (.Name x pos) (tC v) :=
 λ_ _ _ H _ I h=>vm I hg hm ⟨v,H,I,r,h⟩ hd
variable {a b:Expr}{ta tb:TE}{pos:Pos}
variable {tA tB':TT}{rest:List Expr}
end
end L2
namespace L2
open PySem PySem.Spec PyProof.Rows
def bW(K:aK)(H:Hp)(a:Addr)(xs:List V):Prop :=
 Rd H a (.lst xs) ∨
  ∃(o:Obj) (its:Array ae) (n:Nat),K.lookup a=some o/\o.cls = .type "list"/\o.dict=none/\o.data = .seq its n/\its.size<=cq/\Vals xs its.toList
def cE(K:aK)(H:Hp)(a:Addr)(xs:List V):Prop :=
 Rd H a (.tup xs) ∨
  ∃(o:Obj) (its:Array ae) (n:Nat),K.lookup a=some o/\o.cls = .type "tuple"/\o.data = .seq its n/\its.size<=cq/\Vals xs its.toList
def Ul:ae->Option V
 | .none=>some .bS
 | .bool b=>some (.bl b)
 | .int i _=>some (.int i)
 | .str x _=>some (.str x)
 | .bytes b _=>some (.D_ b)
 | .float b _=>some (.xE b)
 | .ref a=>some (.ref a)
 | .type n=>some (.ty n)
 | _=>none
theorem RelV.abs{x:V}{u:ae}(r:RelV x u):Ul u=some x:=by
 cases x with
 | bS=>cases r;rfl
 | bl _=>cases r;rfl
 | int _=>obtain⟨t,rfl⟩:=r;rfl
 | str _=>obtain⟨t,rfl⟩:=r;rfl
 | D_ _=>obtain⟨t,rfl⟩:=r;rfl
 | xE _=>obtain⟨t,rfl⟩:=r;rfl
 | ref _=>cases r;rfl
 | ty _=>cases r;rfl
theorem RelV.inj{x y:V}{u:ae}(r:RelV x u)(q:RelV y u):x=y:=iZ (r.abs.symm.trans q.abs)
theorem Vals.inj:∀{xs ys:List V} {us:List ae},Vals xs us->Vals ys us->xs=ys
 | _,_,_,.nil,.nil=>rfl
 | _,_,_,.cons r t,.cons r' t'=>by rw[r.inj r',Vals.inj t t']
section
variable {X:Cx}{pins:List (Addr×Obj)}{σ:St}{H:Hp}{s:aq}{a:Addr}{xs ys:List V}
theorem bW.of{K:aK}(h:H a=some (.lst xs)):bW K H a xs:=.inl (.inl h)
theorem cE.of{K:aK}(h:H a=some (.tup xs)):cE K H a xs:=.inl (.inl h)
theorem Inv.list(I:Inv X pins σ H s)(h:bW X.K H a xs):∃its:List ae,Vals xs its/\PlainL s.heap a its.toArray/\xs.length<=cq:=by
 rcases h with h | ⟨o,its,n,hk,hc,hd,hs,hz,r⟩
 ·obtain⟨z,its,n,r,e⟩:=h.ok I.aQ
  exact⟨its,r,⟨_,n,e,rfl,rfl,rfl⟩,z⟩
 ·refine⟨its.toList,r,⟨o,n,I.nA a o hk,hc,hd,by simpa using hs⟩,?_⟩
  have e:=r.length
  simp only[jg] at e
  lia
theorem Inv.tuple(I:Inv X pins σ H s)(h:cE X.K H a xs):∃its:List ae,Vals xs its/\qX s.heap a its.toArray/\xs.length<=cq:=by
 rcases h with h | ⟨o,its,n,hk,hc,hs,hz,r⟩
 ·obtain⟨z,its,r,p⟩:=h.ok I.aQ
  exact⟨its,r,p,z⟩
 ·refine⟨its.toList,r,⟨o,I.nA a o hk,hc,n,by simpa using hs⟩,?_⟩
  have e:=r.length
  simp only[jg] at e
  lia
theorem Inv.Bc(I:Inv X pins σ H s)(h:bW X.K H a xs)(h':bW X.K H a ys):xs=ys:=by
 obtain⟨its,r,⟨o,n,e,_,_,d⟩,_⟩:=I.list h
 obtain⟨its',r',⟨o',n',e',_,_,d'⟩,_⟩:=I.list h'
 rw[e] at e';cases e'
 rw[d] at d'
 injection d' with d1 _
 have:its=its':=by simpa using congrArg Array.toList d1
 subst this
 exact r.inj r'
theorem Inv.KN(I:Inv X pins σ H s)(h:cE X.K H a xs)(h':cE X.K H a ys):xs=ys:=by
 obtain⟨its,r,⟨o,e,_,n,d⟩,_⟩:=I.tuple h
 obtain⟨its',r',⟨o',e',_,n',d'⟩,_⟩:=I.tuple h'
 rw[e] at e';cases e'
 rw[d] at d'
 injection d' with d1 _
 have:its=its':=by simpa using congrArg Array.toList d1
 subst this
 exact r.inj r'
end
abbrev Cx.dw (X:Cx) (E:ae->aq->Prop):Cx:={ X with xe:=E }
abbrev Cx.bZ (X:Cx):Cx:=X.dw λ_ _=>False
theorem Cx.Ok.dw{X:Cx}(ok:X.Ok)(E:ae->aq->Prop):(X.dw E).Ok :=
 ⟨ok.mod,ok.kind,ok.glob,ok.blt,ok.above,ok.inj,ok.has,ok.xF,ok.hd,ok.frames,ok.A8,ok.KA,ok.bs,ok.kQ,ok.td,ok.A9,ok.me,ok.rJ⟩
theorem Cx.Ok.fJ{X:Cx}{E:ae->aq->Prop}(ok:(X.dw E).Ok):X.Ok :=
 ⟨ok.mod,ok.kind,ok.glob,ok.blt,ok.above,ok.inj,ok.has,ok.xF,ok.hd,ok.frames,ok.A8,ok.KA,ok.bs,ok.kQ,ok.td,ok.A9,ok.me,ok.rJ⟩
section
variable {X:Cx}{pins:List (Addr×Obj)}{σ:St}{H:Hp}{s:aq}{E:ae->aq->Prop}
theorem Inv.dw(I:Inv X pins σ H s)(E:ae->aq->Prop):Inv (X.dw E) pins σ H s:=⟨I.ok.dw E,I.os,I.bare,I.base,I.loc,I.cell,I.free,I.mf,I.pin,I.aQ,I.len⟩
theorem Inv.fJ(I:Inv (X.dw E) pins σ H s):Inv X pins σ H s:=⟨I.ok.fJ,I.os,I.bare,I.base,I.loc,I.cell,I.free,I.mf,I.pin,I.aQ,I.len⟩
end
section
variable {X:Cx}{st:Stmt}{rest:List Stmt}{t u:TS}{e:Expr}{te:TE}{pos:Pos}
theorem Inv.quiet{pins:List (Addr×Obj)}{σ:St}{H:Hp}{s:aq}(I:Inv X pins σ H s):interactive X.env=false:=by simp[interactive,I.ok.kind]
end
abbrev TG:=V->St->Hp->(St->Hp->Prop)->Prop
abbrev ti:=List V->St->Hp->(St->Hp->Prop)->Prop
def PG(X:Cx)(target:Expr)(t:TG):Prop :=
 ∀(pins:List (Addr×Obj)) (s:aq) (σ:St) (H:Hp) (v:V) (u:ae) (Q:St->Hp->Prop),Inv X pins σ H s->RelV v u->t v σ H Q ->
  az (aJ X.prog X.w) X.A (jh target X.env u) (λ_ s'=>∃a8 H',Inv X pins a8 H' s'/\Q a8 H') X.xe s
def Bd(X:Cx)(ts:List Expr)(t:ti):Prop :=
 ∀(pins:List (Addr×Obj)) (s:aq) (σ:St) (H:Hp) (vs:List V) (us:List ae) (Q:St->Hp->Prop),Inv X pins σ H s->Vals vs us->t vs σ H Q ->
  az (aJ X.prog X.w) X.A (assignInOrder ((Au ts X.env).map (·.2)) us) (λ_ s'=>∃a8 H',Inv X pins a8 H' s'/\Q a8 H') X.xe s
abbrev Um:=V->V->V->Hp->(Hp->Prop)->Prop
def Uo(X:Cx)(t:Um):Prop :=
 ∀(pins:List (Addr×Obj)) (s:aq) (σ:St) (H:Hp) (o i v:V) (ov iv u:ae) (Q:Hp->Prop),Inv X pins σ H s->RelV o ov->RelV i iv->RelV v u->t o i v H Q ->
  az (aJ X.prog X.w) X.A (setItem ov iv u) (λ_ s'=>∃H',Inv X pins σ H' s'/\Q H') X.xe s
section
variable {X:Cx}{pos:Pos}
def rM(i:Nat):TG:=λv σ H Q=>Q (σ.set i (some v)) H
theorem tj{i:Nat}{x:Str}(hN:X.N.Nodup)(hi:X.N[i]? = some x)(hx:Loc X.env.scope x)(hf:X.fn x=true∨X.env.scope.names.lookup x=some .local:=by first | exact .inl rfl | exact .inr rfl | assumption):PG X (.Name x pos) (rM i):=by
 intro pins s σ H v u Q I r h
 exact Jh (Ee I hN hi hx r (λs' I'=>⟨_,H,I',h⟩) hf)
def aB:ti:=λvs σ H Q=>vs=[]/\Q σ H
def ai(t:TG)(u:ti):ti:=λvs σ H Q=>∃v r,vs=v::r/\t v σ H λa8 H'=>u r a8 H' Q
theorem KO:Bd X [] aB:=by
 intro pins s σ H vs us Q I r h
 obtain⟨e,h⟩:=h
 subst e
 cases r
 exact assignInOrder_nil ⟨σ,H,I,h⟩
theorem Be{e:Expr}{es:List Expr}{t:TG}{u:ti}(h1:PG X e t)(h2:Bd X es u)
 (hs:(Au (e::es) X.env).map (·.2)=jh e X.env::(Au es X.env).map (·.2):=by rfl):Bd X (e::es) (ai t u):=by
 intro pins s σ H vs us Q I r h
 obtain⟨v,vr,e1,h⟩:=h
 subst e1
 cases r with
 | cons r rr =>
   rw[hs]
   refine assignInOrder_cons (fm (h1 pins s σ H _ _ _ I r h) λ_ s1 ⟨tp,H1,I1,q1⟩=>?_)
   exact h2 pins s1 tp H1 _ _ Q I1 rr q1
def dW(K:aK)(n:Nat)(t:ti):TG:=λv σ H Q=>∃a xs,v = .ref a/\cE K H a xs/\xs.length=n/\t xs σ H Q
theorem KP{es:List Expr}{k:Nat}{t:ti}{n:Nat}(hc:X.calm=true)(h:Bd X es t)
 (hn:(Au es X.env).length=n:=by rfl) (Up:(Au es X.env).findIdx? (·.1)=none:=by rfl):PG X (.Tuple es k pos) (dW X.K n t):=by
 intro pins s σ H v u Q I r hw
 obtain⟨a,xs,e1,hq,hl,hw⟩:=hw
 subst e1
 cases r
 obtain⟨its,rv,ht,hz⟩:=I.tuple hq
 refine assign_Tuple_tuple (I.ok.hd hc) ht (by simp[hn,<-hl,rv.length]) Up λh' hx=>?_
 have I1:Inv X pins σ H { s with heap:=h' }:=I.kept (t':=s.toks) λb o e=>hx b o (cX (bx e)) e
 exact h pins _ σ H xs _ Q I1 (by simpa using rv) hw
end
section
variable {X:Cx}{pos:Pos}
end
structure It where
 go:Nat->Hp->Prop
 xK:Nat->Hp->V->Hp->Prop
 stop:Nat->Hp->Prop
def eD(X:Cx)(pins:List (Addr×Obj))(H:Hp)(b:Addr):Prop :=
 H b=none/\b≠X.env.locals/\b ∉ X.fs/\(b∈X.ex∨X.s₀.heap.objs.size<=b)/\(∀x c,X.env.cells.lookup x=some c->c≠b)/\∀p∈X.pn++pins,p.1≠b
theorem Inv.tq{X:Cx}{pins:List (Addr×Obj)}{σ:St}{H H':Hp}{s:aq}{b:Addr}(I:Inv X pins σ H s)(hb:s.heap.objs.size<=b)(hn:H' b=none):eD X pins H' b:=by
 refine⟨hn,jC (b_ I.lt hb),I.A_ hb,.inr (dD I.sz hb),λx c e z=>?_,λp hp z=>?_⟩
 ·obtain⟨v,q⟩:=I.cell x c e
  exact absurd (b_ q.lt (by rw[z];exact hb)) (dS _)
 ·exact absurd (b_ (bx (I.pin p hp).1) (by rw[z];exact hb)) (dS _)
structure Turn (P:bw) (w:aY) (K:aK) (tg:Expr) (J:It) (fp:List Addr) (it:Addr) (tn:Nat->Heap->Prop):Prop where
 mem:it∈fp
 obj:∀i h,tn i h->∀b∈fp,∃o,h.get? b=some o/\∀v,o.data ≠ .cell v
 keep:∀i h h',tn i h->(∀b∈fp,∀o,h.get? b=some o->h'.get? b=some o)->tn i h'
 item:∀(X:Cx),X.prog=P->X.w=w->X.K=K->X.calm=true->∀(i:Nat) (pins:List (Addr×Obj)) (s:aq) (σ:St) (H:Hp) (E:ae->aq->Prop),Inv X pins σ H s->(∀b∈fp,eD X pins H b)->tn i s.heap->J.go i H ->
  az (aJ P w) X.A (hG (.ref it)) (λr s1=>∃u,r=some u /\
   az (aJ P w) X.A (Ji tg (.ref it) u) (λ_ s2=>∃x H',Inv X pins σ H' s2/\RelV x u/\J.xK i H x H'/\tn (i+1) s2.heap/\∀b∈fp,H' b=none) E s1) E s
 done:∀(X:Cx),X.prog=P->X.w=w->X.K=K->X.calm=true->∀(i:Nat) (pins:List (Addr×Obj)) (s:aq) (σ:St) (H:Hp) (E:ae->aq->Prop),Inv X pins σ H s->(∀b∈fp,eD X pins H b)->tn i s.heap->J.stop i H ->
  az (aJ P w) X.A (hG (.ref it)) (λr s1=>r=none/\Inv X pins σ H s1) E s
 self:∀(A:Around) (i:Nat) (s:aq) (Q:ae->aq->Prop) (E:ae->aq->Prop),tn i s.heap->Q (.ref it) s->az (aJ P w) A (sR (.ref it)) Q E s
abbrev TI:=St->Hp->(It->Hp->Prop)->Prop
def Ef(X:Cx)(pins:List (Addr×Obj))(σ:St)(tg:Expr)(R:It->Hp->Prop)(ki:ae)(s2:aq):Prop :=
 ∃(it:Addr) (fp:List Addr) (tn:Nat->Heap->Prop) (J:It) (H':Hp),ki = .ref it/\Inv X pins σ H' s2/\Turn X.prog X.w X.K tg J fp it tn/\tn 0 s2.heap/\(∀b∈fp,eD X pins H' b)/\R J H'
def PI(X:Cx)(tg iter:Expr)(wi:TI):Prop :=
 ∀(pins:List (Addr×Obj)) (s:aq) (σ:St) (H:Hp) (R:It->Hp->Prop),Inv X pins σ H s->wi σ H R ->
  az (aJ X.prog X.w) X.A (eval iter X.env) (λv s1=>az (aJ X.prog X.w) X.A (sR v) (Ef X pins σ tg R) X.xe s1) X.xe s
theorem Bf{M:oI}{A:Around}{E:ae->aq->Prop}{s:aq}{tg:Expr}{it:Addr}{u:ae}{o:Obj}{n:String}{vs:Array ae}{Q:Unit->aq->Prop}(ho:s.heap.get? it=some o)(hc:o.cls = .type n)(hd:o.data = .fields vs)
 (hn:["enumerate","zip","dict_itemiterator","dict_reverseitemiterator","odict_iterator","itertools.zip_longest","itertools.pairwise"].contains n=false) (hQ:Q () s):az M A (Ji tg (.ref it) u) Q E s:=by
 unfold Ji
 cases tg<;>first
  | exact aP hQ
  | (cases u<;>first
      | exact aP hQ
      | (refine ay (wpAny_load ho ?_)
         rw[hc,hd]
         show az M A (if (["enumerate","zip","dict_itemiterator","dict_reverseitemiterator","odict_iterator","itertools.zip_longest","itertools.pairwise"].contains n&&vs[0]? == some (rawInt _))=true then _ else _) Q E s
         rw[if_neg (by intro h;rw[hn,a5h] at h;cases h)]
         exact aP hQ))
def Bg(K:aK)(a:Addr):It :=
 ⟨λi H=>∃xs x,bW K H a xs/\xs[i]? = some x,λi H x H'=>H'=H/\∀xs,bW K H a xs->xs[i]? = some x,λi H=>∃xs,bW K H a xs/\xs.length<=i⟩
def Eg(K:aK)(a:Addr):It :=
 ⟨λi H=>∃xs x,cE K H a xs/\xs[i]? = some x,λi H x H'=>H'=H/\∀xs,cE K H a xs->xs[i]? = some x,λi H=>∃xs,cE K H a xs/\xs.length<=i⟩
def xM(lo:Int)(n:Nat):It:=⟨λi _=>i<n,λi H x H'=>H'=H/\x = .int (lo+i),λi _=>n<=i⟩
theorem Uq{P:bw}{w:aY}{K:aK}{tg:Expr}(a it:Addr):Turn P w K tg (Bg K a) [it] it (λi h=>h.IsListIter it a i) where
 mem:=by simp
 obj:=λi h st b hb=>by
  have e:b=it:=by simpa using hb
  subst e
  obtain⟨o,e,c,d⟩:=st
  exact⟨o,e,λv z=>by rw[d] at z;cases z⟩
 keep:=λi h h' st k=>st.at λo e=>k it (by simp) o e
 item:=by
  intro X hP hw hK hc i pins s σ H E I hf st hg
  subst hP hw hK
  obtain⟨xs,x,hq,hx⟩:=hg
  obtain⟨its,rv,p,hz⟩:=I.list hq
  obtain⟨u,hu,ru⟩:=rv.get hx
  obtain⟨f0,f1,f2,f3,f4,f5⟩:=hf it (by simp)
  refine wpAny_pyNext_list_item st p.isList (x:=u) (by simpa using hu) λh' kR sb=>?_
  have I1:Inv X pins σ H { s with heap:=h' }:=I.turned (t':=s.toks) (λb o hb e=>(sb.2 b hb).trans e) f0 f1 f3 f4 f5
  obtain⟨o,e,c,d⟩:=id kR
  exact⟨u,rfl,Bf (s:={ s with heap:=h' }) e c d (by decide) ⟨x,H,I1,ru,⟨rfl,λys hy=>by rw[I.Bc hy hq];exact hx⟩,kR,λb hb=>(hf b hb).1⟩⟩
 done:=by
  intro X hP hw hK hc i pins s σ H E I hf st hg
  subst hP hw hK
  obtain⟨xs,hq,hx⟩:=hg
  obtain⟨its,rv,p,hz⟩:=I.list hq
  obtain⟨f0,f1,f2,f3,f4,f5⟩:=hf it (by simp)
  have hl:=rv.length
  exact wpAny_pyNext_list_end (I.ok.hd hc) st p.isList (by simp;lia) λh' eb=>⟨rfl,I.turned (t':=s.toks) (λb o hb e=>eb b o hb e) f0 f1 f3 f4 f5⟩
 self:=λ_ _ _ _ _ st h=>wpAny_pyIter_listiter st h
theorem Ur{P:bw}{w:aY}{K:aK}{tg:Expr}(a it:Addr):Turn P w K tg (Eg K a) [it] it (λi h=>h.IsTupleIter it a i) where
 mem:=by simp
 obj:=λi h st b hb=>by
  have e:b=it:=by simpa using hb
  subst e
  obtain⟨o,e,c,d⟩:=st
  exact⟨o,e,λv z=>by rw[d] at z;cases z⟩
 keep:=λi h h' st k=>st.at λo e=>k it (by simp) o e
 item:=by
  intro X hP hw hK hc i pins s σ H E I hf st hg
  subst hP hw hK
  obtain⟨xs,x,hq,hx⟩:=hg
  obtain⟨its,rv,p,hz⟩:=I.tuple hq
  obtain⟨u,hu,ru⟩:=rv.get hx
  obtain⟨f0,f1,f2,f3,f4,f5⟩:=hf it (by simp)
  refine wpAny_pyNext_tuple_item st (show s.heap.IsTuple a its.toArray from p) (x:=u) (by simpa using hu) λh' kR sb=>?_
  have I1:Inv X pins σ H { s with heap:=h' }:=I.turned (t':=s.toks) (λb o hb e=>(sb.2 b hb).trans e) f0 f1 f3 f4 f5
  obtain⟨o,e,c,d⟩:=id kR
  exact⟨u,rfl,Bf (s:={ s with heap:=h' }) e c d (by decide) ⟨x,H,I1,ru,⟨rfl,λys hy=>by rw[I.KN hy hq];exact hx⟩,kR,λb hb=>(hf b hb).1⟩⟩
 done:=by
  intro X hP hw hK hc i pins s σ H E I hf st hg
  subst hP hw hK
  obtain⟨xs,hq,hx⟩:=hg
  obtain⟨its,rv,p,hz⟩:=I.tuple hq
  obtain⟨f0,f1,f2,f3,f4,f5⟩:=hf it (by simp)
  have hl:=rv.length
  exact wpAny_pyNext_tuple_end (I.ok.hd hc) st (show s.heap.IsTuple a its.toArray from p) (by simp;lia) λh' eb=>⟨rfl,I.turned (t':=s.toks) (λb o hb e=>eb b o hb e) f0 f1 f3 f4 f5⟩
 self:=λ_ _ _ _ _ st h=>wpAny_pyIter_tupleiter st h
theorem Us{P:bw}{w:aY}{K:aK}{tg:Expr}(it:Addr)(lo:Int)(n:Nat):Turn P w K tg (xM lo n) [it] it (λi h=>Jj h it (lo+(i:Nat)*1) ((n:Int)-(i:Nat)) 1) where
 mem:=by simp
 obj:=λi h st b hb=>by
  have e:b=it:=by simpa using hb
  subst e
  exact⟨_,st,λv z=>by
   have z':Data.fields _=Data.cell v:=z
   cases z'⟩
 keep:=λi h h' st k=>k it (by simp) _ st
 item:=by
  intro X hP hw hK hc i pins s σ H E I hf st hg
  subst hP hw hK
  obtain⟨f0,f1,f2,f3,f4,f5⟩:=hf it (by simp)
  have W:=Walks.range (prog:=X.prog) (w:=X.w) (I.ok.hd hc) it lo 1 n
  refine W.item i s _ _ hg st λv h' tk hv kR kk=>?_
  obtain⟨t,rfl⟩:=hv
  have I1:Inv X pins σ H { s with heap:=h',toks:=tk }:=I.turned (λb o hb e=>kk b o (by simpa using hb) e) f0 f1 f3 f4 f5
  refine⟨_,rfl,Bf (s:={ s with heap:=h',toks:=tk }) (n:="range_iterator") kR rfl rfl (by decide) ⟨.int (lo+i),H,I1,⟨t,?_⟩,⟨rfl,rfl⟩,kR,λb hb=>(hf b hb).1⟩⟩
  rw[j8]
 done:=by
  intro X hP hw hK hc i pins s σ H E I hf st hg
  subst hP hw hK
  obtain⟨f0,f1,f2,f3,f4,f5⟩:=hf it (by simp)
  exact a5i (I.ok.hd hc) st (by have:n<=i:=hg;lia) λh' eb=>⟨rfl,I.turned (t':=s.toks) (λb o hb e=>eb b o hb e) f0 f1 f3 f4 f5⟩
 self:=λ_ _ _ _ _ st h=>a5j st h
end L2
namespace L2
open PySem PySem.Spec PyProof.Rows
section
variable {X:Cx}{tg:Expr}
theorem KQ{pins:List (Addr×Obj)}{σ:St}{H:Hp}{s:aq}{R:It->Hp->Prop}{E:ae->aq->Prop}{lo hi:Int}{t u v:Tok}{tk:Nat}(I:Inv X pins σ H s)(h1:-(2^62)<=lo)(h2:lo<2^62)(h3:-(2^62)<=hi)(h4:hi<2^62)
 (q:R (xM lo (hi-lo).toNat) H):az (aJ X.prog X.w) X.A (sR (.ref s.heap.objs.size)) (Ef X pins σ tg R) E { s with heap:=s.heap.push { cls:=.type "range",data:=.fields #[.int lo t,.int hi u,.int 1 v] },toks:=tk }:=by
 refine a5k (IsRange.new ..) (small_one h1 h2 h3 h4) ?_
 have I1:Inv X pins σ H { s with heap:=s.heap.push { cls:=.type "range",data:=.fields #[.int lo t,.int hi u,.int 1 v] },toks:=tk }:=I.kept λb o e=>bB _ e
 refine⟨(s.heap.push { cls:=.type "range",data:=.fields #[.int lo t,.int hi u,.int 1 v] }).objs.size,[(s.heap.push { cls:=.type "range",data:=.fields #[.int lo t,.int hi u,.int 1 v] }).objs.size],_,_,H,rfl,
  I1.kept (t':=tk) λb o e=>bB _ e,Us _ lo (hi-lo).toNat,?_,λb hb=>?_,q⟩
 ·have e1:lo+((0:Nat):Int)*1=lo:=by simp
  have e2:(((hi-lo).toNat:Nat):Int)-((0:Nat):Int)=Av lo hi 1:=by rw[rangeSize_one];split<;>lia
  show Jj _ _ (lo+((0:Nat):Int)*1) ((((hi-lo).toNat:Nat):Int)-((0:Nat):Int)) 1
  rw[e1,e2]
  exact c_ _ rfl
 ·have e:b=(s.heap.push { cls:=.type "range",data:=.fields #[.int lo t,.int hi u,.int 1 v] }).objs.size:=by simpa using hb
  subst e
  exact I1.tq (bA _) (I1.aQ.fresh (bA _))
def rN(fp:List Addr)(h:Heap):List (Addr×Obj):=fp.filterMap λb=>(h.get? b).map λo=>(b,o)
theorem oX{fp:List Addr}{h:Heap}{b:Addr}{o:Obj}(hb:b∈fp)(e:h.get? b=some o):(b,o)∈rN fp h:=List.mem_filterMap.mpr ⟨b,hb,by rw[e];rfl⟩
theorem Ut{fp:List Addr}{h:Heap}{p:Addr×Obj}(hp:p∈rN fp h):p.1∈fp/\h.get? p.1=some p.2:=by
 obtain⟨b,hb,e⟩:=List.mem_filterMap.mp hp
 cases q:h.get? b with
 | none=>rw[q] at e;cases e
 | some o =>
   rw[q] at e
   have e':(b,o)=p:=iZ e
   subst e'
   exact⟨hb,q⟩
theorem Inv.pinned{pins:List (Addr×Obj)}{σ:St}{H:Hp}{s:aq}{fp:List Addr}(I:Inv X pins σ H s)(hf:∀b∈fp,eD X pins H b)(ho:∀b∈fp,∃o,s.heap.get? b=some o/\∀v,o.data ≠ .cell v):Inv X (pins++rN fp s.heap) σ H s :=
 I.rL λp hp=>(List.mem_append.mp hp).elim (λz=>I.pin p (dh _ z)) λz=>by
  obtain⟨hb,e⟩:=Ut z
  obtain⟨f0,f1,f2,_⟩:=hf p.1 hb
  obtain⟨o,e',d⟩:=ho p.1 hb
  rw[e] at e';cases e'
  exact⟨e,f0,f1,f2,d⟩
theorem Inv.kj{pins pl:List (Addr×Obj)}{σ:St}{H:Hp}{s:aq}(I:Inv X (pins++pl) σ H s):Inv X pins σ H s:=I.rL λp hp=>I.pin p (dh _ (m7 _ hp))
end
end L2
namespace L2
open PySem PySem.Spec PyProof.Rows
abbrev R2:=V->V->Hp->VK->Prop
def eE(X:Cx)(f:ae->ae->Sem ae)(r:R2):Prop :=
 ∀(pins:List (Addr×Obj)) (s:aq) (σ:St) (H:Hp) (x y:V) (v u:ae) (Q:VK),Inv X pins σ H s->RelV x v->RelV y u->r x y H Q ->
  az (aJ X.prog X.w) X.A (f v u) (EP X pins σ Q) X.xe s
def jo(X:Cx)(f:ae)(r:List V->Hp->VK->Prop):Prop :=
 ∀(pins:List (Addr×Obj)) (s:aq) (σ:St) (H:Hp) (xs:List V) (us:List ae) (Q:VK),Inv X pins σ H s->Vals xs us->r xs H Q ->
  az (aJ X.prog X.w) X.A (call f us) (EP X pins σ Q) X.xe s
def rI(C:Int->Int->Prop)(g:Int->Int->V):R2:=λx y H Q=>∃i j,x = .int i/\y = .int j/\C i j/\Q (g i j) H
def rO(g:Int->Int->V):R2:=λx y H Q=>∃i j,x = .int i/\y = .int j/\Q (g i j) H
section
variable {X:Cx}{a b c:Expr}{ta tb tc:TE}{pos:Pos}
theorem vn{f:ae->ae->Sem ae}{C:Int->Int->Prop}{g:Int->Int->Int}
 (rule:∀(i j:Int) (t u:Tok) (s:aq) (Q:ae->aq->Prop) (E:ae->aq->Prop),C i j->Q (.int (g i j) s.toks) { s with toks:=s.toks+1 }->az (aJ X.prog X.w) X.A (f (.int i t) (.int j u)) Q E s) :
 eE X f (rI C λi j=>.int (g i j)):=by
 intro pins s σ H x y v u Q I rx ry h
 obtain⟨i,j,rfl,rfl,hc,q⟩:=h
 obtain⟨t,rfl⟩:=rx
 obtain⟨t',rfl⟩:=ry
 exact rule i j t t' s _ _ hc ⟨.int (g i j),H,I.tok _,⟨_,rfl⟩,q⟩
theorem KR{f:ae->ae->Sem ae}{g:Int->Int->Int}
 (rule:∀(i j:Int) (t u:Tok) (s:aq) (Q:ae->aq->Prop) (E:ae->aq->Prop),Q (.int (g i j) s.toks) { s with toks:=s.toks+1 }->az (aJ X.prog X.w) X.A (f (.int i t) (.int j u)) Q E s) :
 eE X f (rO λi j=>.int (g i j)):=by
 intro pins s σ H x y v u Q I rx ry h
 obtain⟨i,j,rfl,rfl,q⟩:=h
 obtain⟨t,rfl⟩:=rx
 obtain⟨t',rfl⟩:=ry
 exact rule i j t t' s _ _ ⟨.int (g i j),H,I.tok _,⟨_,rfl⟩,q⟩
theorem Eh{f:ae->ae->Sem ae}{g:Int->Int->Bool}
 (rule:∀(i j:Int) (t u:Tok) (s:aq) (Q:ae->aq->Prop) (E:ae->aq->Prop),Q (.bool (g i j)) s->az (aJ X.prog X.w) X.A (f (.int i t) (.int j u)) Q E s) :
 eE X f (rO λi j=>.bl (g i j)):=by
 intro pins s σ H x y v u Q I rx ry h
 obtain⟨i,j,rfl,rfl,q⟩:=h
 obtain⟨t,rfl⟩:=rx
 obtain⟨t',rfl⟩:=ry
 exact rule i j t t' s _ _ ⟨.bl (g i j),H,I,rfl,q⟩
def Uu(i j:Int):Prop:=0<j/\j<1073741824
def Uv(i j:Int):Prop:=0<=j/\j<=1000000/\i.natAbs<2^64
def Ei(i j:Int):Prop:=(-(2^64)<i/\i<2^64)∨(-(2^64)<j/\j<2^64)
theorem Ei.ok{i j:Int}(h:Ei i j):IntMulOk i j:=by
 rcases h with ⟨h1,h2⟩ | ⟨h1,h2⟩
 ·exact .of_left (intBits_le_64 h1 h2)
 ·exact .of_right (intBits_le_64 h1 h2)
theorem Uw:eE X (hJ .Add) (rO λi j=>.int (i+j)):=KR λ_ _ _ _ _ _ _ q=>add_int q
theorem Ux:eE X (hJ .Sub) (rO λi j=>.int (i-j)):=KR λ_ _ _ _ _ _ _ q=>sub_int q
theorem Uy:eE X (hJ .Mult) (rI Ei λi j=>.int (i*j)):=vn λ_ _ _ _ _ _ _ hc q=>mul_int q hc.ok
theorem Uz:eE X (hJ .FloorDiv) (rI Uu λi j=>.int (i/j)):=vn λi j _ _ _ _ _ hc q=>by
 have h1:(0:Int)<j:=hc.1
 have h2:j<1073741824:=hc.2
 exact floordiv_int (by lia) (by rw[a5l i (by lia)];exact q) (.inl (a5m (by lia)))
theorem UA:eE X (hJ .Mod) (rI (λ_ j=>0<j) λi j=>.int (i%j)):=vn λi j _ _ _ _ _ hc q=>by
 have h1:(0:Int)<j:=hc
 exact mod_int' (by lia) (by rw[Int.fmod_eq_emod_of_nonneg i (by lia)];exact q)
theorem UB:eE X (hJ .Pow) (rI Uv λi j=>.int (i^j.toNat)):=vn λ_ _ _ _ _ _ _ hc q=>pow_int_small hc.1 hc.2.1 hc.2.2 q
end
section
variable {X:Cx}{a b c:Expr}{ta tb tc:TE}{pos:Pos}
theorem UC{pins:List (Addr×Obj)}{σ:St}{H:Hp}{s:aq}{Q:VK}{k k':Bool}(I:Inv X pins σ H s)(q:Q (.bl k) H)(e:k=k'):EP X pins σ Q (.bool k') s:=by
 subst e
 exact⟨.bl k,H,I,rfl,q⟩
theorem UD:eE X (m8 .Lt) (rO λi j=>.bl (decide (i<j))):=Eh λ_ _ _ _ _ _ _ q=>lt_int q
theorem UE:eE X (m8 .LtE) (rO λi j=>.bl (decide (i<=j))):=Eh λ_ _ _ _ _ _ _ q=>le_int q
theorem UG:eE X (m8 .Gt) (rO λi j=>.bl (decide (j<i))):=Eh λ_ _ _ _ _ _ _ q=>gt_int q
theorem UH:eE X (m8 .IsNot) (λx y H Q=>y = .bS/\Q (.bl (!decide (x = .bS))) H):=by
 intro pins s σ H x y v u Q I rx ry h
 obtain⟨rfl,q⟩:=h
 cases ry
 refine isnot_none_gen (UC I q ?_)
 cases x<;>first
  | (cases rx;rfl)
  | (obtain⟨t,rfl⟩:=rx;rfl)
theorem eE.or{f:ae->ae->Sem ae}{r r':R2}(h:eE X f r)(h':eE X f r'):eE X f (λx y H Q=>r x y H Q∨r' x y H Q):=by
 intro pins s σ H x y v u Q I rx ry q
 rcases q with q | q
 ·exact h pins s σ H x y v u Q I rx ry q
 ·exact h' pins s σ H x y v u Q I rx ry q
theorem cZ(b:Expr){op:CmpOp}(h:op ≠ .In:=by decide)(h2:op ≠ .NotIn:=by decide):Jk op b=false:=by
 have e1:(op==CmpOp.In)=false:=by cases op<;>first | rfl | exact absurd rfl h
 have e2:(op==CmpOp.NotIn)=false:=by cases op<;>first | rfl | exact absurd rfl h2
 cases b<;>simp[Jk,e1,e2]
theorem Bh:(cq:Nat)<2^63:=by rw[lV];decide
theorem rP{x:V}{us:List ae}(r:Vals [x] us):∃u,us=[u]/\RelV x u:=by
 cases r with
 | cons r1 r2=>cases r2;exact⟨_,rfl,r1⟩
theorem KS{x y:V}{us:List ae}(r:Vals [x,y] us):∃u w',us=[u,w']/\RelV x u/\RelV y w':=by
 cases r with
 | cons r1 r2 =>
   cases r2 with
   | cons r3 r4=>cases r4;exact⟨_,_,rfl,r1,r3⟩
theorem UI(hc:X.calm=true):jo X (.builtin "max") (λxs H Q=>∃i j,xs=[.int i,.int j]/\Q (.int (if j>i then j else i)) H):=by
 intro pins s σ H xs us Q I r h
 obtain⟨i,j,rfl,q⟩:=h
 obtain⟨u,w',rfl,⟨t,rfl⟩,⟨t',rfl⟩⟩:=KS r
 refine max_two_ints (I.ok.hd hc) λh' tk k=>⟨_,H,I.kept k,?_,q⟩
 by_cases hj:j>i
 ·rw[if_pos hj,if_pos hj];exact⟨_,rfl⟩
 ·rw[if_neg hj,if_neg hj];exact⟨_,rfl⟩
theorem UJ(hc:X.calm=true):jo X (.builtin "min") (λxs H Q=>∃i j,xs=[.int i,.int j]/\Q (.int (if j<i then j else i)) H):=by
 intro pins s σ H xs us Q I r h
 obtain⟨i,j,rfl,q⟩:=h
 obtain⟨u,w',rfl,⟨t,rfl⟩,⟨t',rfl⟩⟩:=KS r
 refine min_two_ints (I.ok.hd hc) λh' tk k=>⟨_,H,I.kept k,?_,q⟩
 by_cases hj:j<i
 ·rw[if_pos hj,if_pos hj];exact⟨_,rfl⟩
 ·rw[if_neg hj,if_neg hj];exact⟨_,rfl⟩
end
end L2
namespace L2
open PySem PySem.Spec PyProof.Rows
structure a9b (h:Heap) (x dx C:Addr) (mA:Str->Option ae):Prop where
 obj:h.get? x=some (a5f C dx)
 ns:h.Ns1 dx mA
 ne:dx≠x
section
variable {prog:bw}{w:aY}{A:Around}{E:ae->aq->Prop}{s:aq}{K:aK}{x dx C f:Addr}{mA:Str->Option ae}{name:Str}{v:ae}
end
section
variable {P:bw}{w:aY}{H H':Hp}{h h':Heap}{a C dx:Addr}{fs T7:List (Str×V)}
end
structure UK (K:aK) (C:Addr):Prop where
 pg:PySem.W.plainGet K C Str.empty=true
 hd:PySem.W.hasDictIn K C=true
 po:PySem.W.plainOver K C=true
 sa:uN K (.ref C) "__setattr__"=some (some (.builtin "object.__setattr__"))
structure Con (K:aK) (C:Addr) (f:Str) (v:V) (u:ae):Prop where
 at_:uN K (.ref C) f=some (some u)
 rel:RelV v u
 get:a5n K u "__get__"=some none
 cp:PySem.W.copiedNames.contains f=false
structure Meth (K:aK) (C:Addr) (m:Str) (f:Addr):Prop where
 at_:uN K (.ref C) m=some (some (.ref f))
 fn:PySem.W.isFn K (.ref f)=true
 kp:DA K (.ref f)=true
section
variable {X:Cx}{pins:List (Addr×Obj)}{σ:St}{H:Hp}{s:aq}{a C dx:Addr}{fs:List (Str×V)}{f:Str}{v:V}{A:Around}{E:ae->aq->Prop}
end
section
variable {X:Cx}{o e value:Expr}{f:Str}{pos pos' a9c:Pos}{ta tv:TE}
end
section
variable {X:Cx}{pins:List (Addr×Obj)}{σ:St}{H:Hp}{s:aq}{A:Around}{E:ae->aq->Prop}{Q:ae->aq->Prop}{c:ae}{b:Bool}
inductive nD (K:aK) (H:Hp):V->ae->Prop where
 | bS:nD K H .bS (.type "NoneType")
 | bl (x:Bool):nD K H (.bl x) (.type "bool")
 | int (i:Int):nD K H (.int i) (.type "int")
 | str (x:Str):nD K H (.str x) (.type "str")
 | xE (x:UInt64):nD K H (.xE x) (.type "float")
 | lst {a:Addr} {xs:List V} (e:H a=some (.lst xs)):nD K H (.ref a) (.type "list")
 | iK {a:Addr} {o:Obj} {xs:List V} (e:H a=some (.iK o (.lst xs))):nD K H (.ref a) (.type "list")
 | tup {a:Addr} {xs:List V} (e:H a=some (.tup xs)):nD K H (.ref a) (.type "tuple")
 | dK {a:Addr} {fi:List (Key×V)} (e:H a=some (.dK fi)):nD K H (.ref a) (.type "dict")
 | dT {a:Addr} {fi:List (List Key×V)} (e:H a=some (.dT fi)):nD K H (.ref a) (.type "dict")
 | ins {a C dx:Addr} {fs:List (Str×V)} (e:H a=some (.ins C dx fs)) (cl:UK K C) (ha:uN K (.ref C) "__class__"=some (some (.builtin "object.__class__")))
    (hn:a5n K (.builtin "object.__class__") "__get__"=some (some (.builtin "getset_descriptor.__get__"))) (KU:PySem.W.takesIn K (.builtin "object.__class__")=some true)
    (hm:Jl K C (.type "object")=some true):nD K H (.ref a) (.ref C)
end
end L2
namespace L2
open PySem PySem.Spec PyProof.Rows
structure eZ (k:Nat) (A:Around):Prop where
 hd:A.handled=none
 dp:A.depth+3*k+5<a5o
 un:A.units+16*k+200<j9
theorem eZ.mono{j k:Nat}{A:Around}(r:eZ k A)(h:j<=k):eZ j A:=⟨r.hd,by have:=r.dp;lia,by have:=r.un;lia⟩
theorem eZ.deeper{k:Nat}{A:Around}(r:eZ (k+1) A)(env:Env):eZ k (A.deeper env) :=
 ⟨r.hd,by have:=r.dp;show A.depth+1+3*k+5<_;lia,by have:=r.un;show A.units+3+16*k+200<_;lia⟩
theorem eZ.depth{k:Nat}{A:Around}(r:eZ k A):A.depth<a5o:=by have:=r.dp;lia
theorem eZ.units{k:Nat}{A:Around}(r:eZ k A):A.units+64<j9:=by have:=r.un;lia
section
variable {X:Cx}{e:Expr}{es:List Expr}{te:TE}{t:TA}{pos:Pos}
end
abbrev Sp:=List V->Hp->VK->XK->Prop
abbrev kS:=List Env->Hp->aq->XK->ae->aq->Prop
structure xN (P:bw) (w:aY) (K:aK) (mg:Str->Option ae) (base:Heap) (A:Around) (outer:List Env) (s:aq) (H:Hp):Prop where
 frames:A.frames=some outer
 mod:Mod K mg base
 bs:∀b o,base.get? b=some o->s.heap.get? b=some o/\H b=none
 kQ:base.objs.size<=s.heap.objs.size
 me:s.heap.FunFrames base outer
 rJ:∀b∈cY outer,H b=none
 aQ:du P w H s.heap
 bare:m6 s.gens
def CE(outer:List Env)(P:bw)(w:aY)(H:Hp)(s:aq)(Q:VK)(u:ae)(s':aq):Prop :=
 ∃v H',s'.os=s.os/\m6 s'.gens/\Un (cY outer) [] H H' s.heap s'.heap/\du P w H' s'.heap/\RelV v u/\Q v H'
def CR(CX:kS)(outer:List Env)(P:bw)(w:aY)(H:Hp)(s:aq)(Q:VK)(E:XK)(r:Aw)(s':aq):Prop :=
 match r with
 | .ok (.ret u)=>CE outer P w H s Q u s'
 | .ok _=>False
 | .error e=>CX outer H s E e s'
structure jG (P:bw) (w:aY) (K:aK) (mg:Str->Option ae) (base:Heap) (CX:kS) (k:Nat) (f:Addr) (fd:da) (ps:List Str) (sp:Sp):Prop where
 len:∀vs H Q E,sp vs H Q E->vs.length=ps.length
 run:∀(A:Around) (outer:List Env) (s:aq) (H:Hp) (args:Args) (us:List ae) (vs:List V) (Q:VK) (E:XK),eZ k A->xN P w K mg base A outer s H->BindsTo s fd args (ps.zip us)->Vals vs us->sp vs H Q E ->
  m9 (aJ P w) A (.call (.ref f) args) (CR CX outer P w H s Q E) s
theorem jG.mono{P:bw}{w:aY}{K:aK}{mg:Str->Option ae}{base:Heap}{CX:kS}{j k:Nat}{f:Addr}{fd:da}{ps:List Str}{sp:Sp}(F:jG P w K mg base CX j f fd ps sp)(h:j<=k) :
 jG P w K mg base CX k f fd ps sp:=⟨F.len,λA outer s H args us vs Q E hr=>F.run A outer s H args us vs Q E (hr.mono h)⟩
theorem jG.imp{P:bw}{w:aY}{K:aK}{mg:Str->Option ae}{base:Heap}{CX:kS}{k:Nat}{f:Addr}{fd:da}{ps:List Str}{sp KW:Sp}(F:jG P w K mg base CX k f fd ps sp)
 (h:∀vs H Q E,KW vs H Q E->sp vs H Q E):jG P w K mg base CX k f fd ps KW :=
 ⟨λvs H Q E q=>F.len vs H Q E (h _ _ _ _ q),λA outer s H args us vs Q E hr he hb hv hs=>F.run A outer s H args us vs Q E hr he hb hv (h _ _ _ _ hs)⟩
section
variable {X:Cx}{pins:List (Addr×Obj)}{σ:St}{H:Hp}{s s':aq}
theorem Inv.Ej(I:Inv X pins σ H s):xN X.prog X.w X.K X.mg X.base X.A X.stack s H :=
 ⟨I.ok.frames,I.ok.mod,I.bs,dD I.ok.kQ I.sz,I.stack,I.xG,I.aQ,I.bare⟩
theorem Inv.after{Q:VK}{u:ae}(I:Inv X pins σ H s)(h:CE X.stack X.prog X.w H s Q u s'):EP X pins σ Q u s':=by
 obtain⟨v,H',os,bare,un,aQ,r,q⟩:=h
 obtain⟨hh,g,d,t,kT⟩:=s'
 obtain rfl:kT=s.os:=os
 exact⟨v,H',I.call (h':=hh) (g':=g) (d':=d) (t':=t) (ch:=[]) un aQ bare (λb z=>absurd z (by simp)),r,q⟩
end
def oY(K:aK)(fd:da)(ps:List Str)(ds:List ae):Prop :=
 ∀(s:aq) (us:List ae),K.In s.heap->(us++ds).length=ps.length->BindsTo s fd ⟨us,[]⟩ (ps.zip (us++ds))
theorem oY.all{K:aK}{fd:da}{ps:List Str}(h:∀us:List ae,us.length=ps.length->RV fd ⟨us,[]⟩=pure (ps.zip us)):oY K fd ps []:=λs us _ hl=>by
 rw[oJ] at hl ⊢
 exact .of_eq (h us hl)
section
variable {X:Cx}{CX:kS}{k:Nat}{f C:Addr}{fd:da}{ps:List Str}{sp:Sp}{dvs:List V}{ds:List ae}{E:XK}{x m:Str}{p pos apos:Pos}{e o:Expr}{es:List Expr}{ta:TE}{t:TA}
structure Mk (K:aK) (C f:Addr):Prop where
 makes:PySem.W.makesIn K C=true
 init:uN K (.ref C) "__init__"=some (some (.ref f))
 fn:PySem.W.isFn K (.ref f)=true
 kp:DA K (.ref C)=true
end
section
variable {X:Cx}{CX:kS}{k:Nat}{f C:Addr}{fd:da}{ps ks:List Str}{sp:Sp}{E:XK}{x m:Str}{p pos apos a9d:Pos}{e o:Expr}{es:List Expr}{tu:List qZ}{te ta:TE}{t tk:TA}{nm:Option Str}
structure a9e (K:aK) (fd:da) (ps ks:List Str) (g:List ae->List ae->List ae) (gV:List V->List V->List V):Prop where
 to:∀(s:aq) (us ws:List ae),K.In s.heap->(g us ws).length=ps.length->BindsTo s fd ⟨us,ks.zip ws⟩ (ps.zip (g us ws))
 rel:∀{vs:List V} {us:List ae} {zs:List V} {ws:List ae},Vals vs us->Vals zs ws->Vals (gV vs zs) (g us ws)
variable {g:List ae->List ae->List ae}{gV:List V->List V->List V}
end
structure bM (N P:List Str) (sc:cT):Prop where
 kind:sc.kind = .function
 co:sc.isCoroutine=false
 gen:sc.isGenerator=false
 nd:N.Nodup
 pre:N.take P.length=P
 par:∀x∈P,sc.names.lookup x=some .local∨sc.names.lookup x=some .cell
 UM:∀y∈sc.names,y.2 ≠ .free
theorem KY{kindOf:Str->Option lW}{x:Str}:∀{binds:List (Str×ae)} {m:Str->Option ae},(∀v,(x,v) ∉ binds)->uO kindOf binds m x=m x
 | [],_,_=>rfl
 | (n,v)::r,m,h=>by
   unfold uO
   rw[KY λw hw=>h w (bY _ hw)]
   split
   ·have:x≠n:=by rintro rfl;exact h v bV
    simp[this]
   ·rfl
theorem KZ{kindOf:Str->Option lW}{x:Str}:∀{binds:List (Str×ae)} {m:Str->Option ae},(∀v,(x,v) ∉ binds)->uP kindOf binds m x=m x
 | [],_,_=>rfl
 | (n,v)::r,m,h=>by
   unfold uP
   rw[KZ λw hw=>h w (bY _ hw)]
   split
   ·rfl
   ·have:x≠n:=by rintro rfl;exact h v bV
    simp[this]
theorem K0{kindOf:Str->Option lW}{x:Str}{v:ae}:∀{P:List Str} {vs:List ae} {i:Nat} {m:Str->Option ae},P.Nodup->P[i]? = some x->vs[i]? = some v->kindOf x=some .local ->
 uO kindOf (P.zip vs) m x=some v
 | [],_,_,_,_,h,_,_=>by simp at h
 | _::_,[],_,_,_,_,h,_=>by simp at h
 | p::P,w::vs,0,m,nd,h1,h2,hk=>by
   simp at h1 h2;subst h1;subst h2
   show uO kindOf ((p,w)::P.zip vs) m p=_
   unfold uO
   rw[KY λv hv=>(List.nodup_cons.mp nd).1 (DB hv).1,if_pos hk]
   simp
 | p::P,w::vs,i+1,m,nd,h1,h2,hk=>by
   show uO kindOf ((p,w)::P.zip vs) m x=_
   unfold uO
   exact K0 (i:=i) (List.nodup_cons.mp nd).2 (by simpa using h1) (by simpa using h2) hk
theorem K1{kindOf:Str->Option lW}{x:Str}{v:ae}:∀{P:List Str} {vs:List ae} {i:Nat} {m:Str->Option ae},P.Nodup->P[i]? = some x->vs[i]? = some v->kindOf x≠some .local ->
 uP kindOf (P.zip vs) m x=some v
 | [],_,_,_,_,h,_,_=>by simp at h
 | _::_,[],_,_,_,_,h,_=>by simp at h
 | p::P,w::vs,0,m,nd,h1,h2,hk=>by
   simp at h1 h2;subst h1;subst h2
   show uP kindOf ((p,w)::P.zip vs) m p=_
   unfold uP
   rw[KZ λv hv=>(List.nodup_cons.mp nd).1 (DB hv).1,if_neg hk]
   simp
 | p::P,w::vs,i+1,m,nd,h1,h2,hk=>by
   show uP kindOf ((p,w)::P.zip vs) m x=_
   unfold uP
   exact K1 (i:=i) (List.nodup_cons.mp nd).2 (by simpa using h1) (by simpa using h2) hk
def start(N:List Str)(vs:List V):St:=vs.map some++dI (N.length-vs.length) none
def vo(CX:kS)(P:bw)(w:aY)(K:aK)(mg:Str->Option ae)(base:Heap)(N:List Str)(qual:Str)(scope:cT)(f:Addr)(cd:ae)(A:Around)(outer:List Env)(s:aq)(H:Hp)(E:XK):Cx where
 prog:=P
 w:=w
 K:=K
 mg:=mg
 base:=base
 A:=A.deeper (uQ qual scope s.heap.objs.size f cd)
 N:=N
 s₀:=s
 H₀:=H
 env:=uQ qual scope s.heap.objs.size f cd
 outer:=outer
 stack:=uQ qual scope s.heap.objs.size f cd::outer
 ex:=[]
 calm:=true
 fn:=λ_=>true
 pn:=[]
 xe:=λe s'=>az (aJ P w) (A.deeper (uQ qual scope s.heap.objs.size f cd)) (RW (uQ qual scope s.heap.objs.size f cd) e) (λ_ xO=>CX outer H s E e xO) (λe' xO=>CX outer H s E e' xO) s'
theorem K2{sc:cT}{n:Nat}{x:Str}(h:sc.names.lookup x=some .cell):∃c,(RX n sc.names []).lookup x=some c:=by
 have q:=a5p sc.names n [] (.inl h)
 exact Option.isSome_iff_exists.mp q
theorem UN{CX:kS}{P:bw}{w:aY}{K:aK}{mg:Str->Option ae}{base:Heap}{N ps:List Str}{qual:Str}{scope:cT}{f:Addr}{cd:ae}{A:Around}{outer:List Env}{s s1:aq}{H:Hp}{E:XK}{us:List ae}{vs:List V}
 (S:bM N ps scope) (hd:A.handled=none) (e0:xN P w K mg base A outer s H) (hl:vs.length=ps.length) (r:Vals vs us)
 (x:InCallC s s.heap.objs.size (uO (uQ qual scope s.heap.objs.size f cd).kindOf (ps.zip us) λ_=>none) (RX (s.heap.objs.size+1) scope.names []) (uP (uQ qual scope s.heap.objs.size f cd).kindOf (ps.zip us) λ_=>none) s1) :
 Inv (vo CX P w K mg base N qual scope f cd A outer s H E) [] (start N vs) H s1:=by
 have jH:ps.length<=N.length:=by have:=congrArg uR S.pre;rw[lX] at this;lia
 obtain⟨h1,tk,rfl,hk⟩:=x.done
 have xP:∀b:Addr,b ∉ (vo CX P w K mg base N qual scope f cd A outer s H E).ex:=λb z=>absurd (show b∈([]:List Addr) from z) (by simp)
 refine⟨⟨e0.mod,S.kind,rfl,rfl,bA _,λy z c h1 h2=>?_,λy hy=>?_,λy c _ h=>?_,λ_=>hd,Around.frames_deeper e0.frames,.inr ⟨rfl,rfl⟩,λb z=>absurd z (xP b),e0.bs,e0.kQ,λb _ _=>xP b,λb z=>absurd z (xP b),e0.me,e0.rJ⟩,
  rfl,e0.bare,Un.kept hk,⟨_,x.toInCall.ns,λi y v h1 h2 h3=>?_⟩,λy c h=>⟨_,x.cell y c h⟩,e0.aQ.fresh (bA _),λy c h=>?_,λp hp=>absurd (show p∈([]:List (Addr×Obj)) from hp) (by simp),e0.aQ.kept hk,?_⟩
 ·exact name_of_addr x.apart (iG h1) (iG h2)
 ·have hy:scope.names.lookup y=some .cell∨scope.names.lookup y=some .free:=hy
  rcases hy with hy | hy
  ·exact K2 hy
  ·exact absurd rfl (S.UM _ (iG hy))
 ·exact uM (x.above y c (iG h))
 ·have hi:i<vs.length:=by
   unfold start at h2
   by_cases hi:i<vs.length
   ·exact hi
   ·rw[Ax (by simpa using hi)] at h2
    rw[RY] at h2
    split at h2<;>cases h2
  have ha:vs[i]? = some v:=by
   unfold start at h2
   rw[Ay (by simpa using hi),cf] at h2
   cases e:vs[i]? with
   | none=>rw[e] at h2;cases h2
   | some a=>rw[e] at h2;cases h2;rfl
  obtain⟨u,hu,rv⟩:=r.get ha
  have hp:ps[i]? = some y:=by
   rw[<-S.pre,Jm (by lia)];exact h1
  have K3:ps.Nodup:=by rw[<-S.pre];exact S.nd.sublist (List.take_sublist _ _)
  refine⟨u,rv,?_⟩
  rcases S.par y (kN hp) with k | k
  ·exact .inl ⟨k,K0 K3 hp hu k⟩
  ·obtain⟨c,e⟩:=K2 (n:=s.heap.objs.size+1) k
   refine .inr ⟨.inl k,c,e,?_⟩
   have q:=x.cell y c e
   rw[K1 K3 hp hu (by show scope.names.lookup y≠_;rw[k];decide)] at q
   exact q
 ·exact e0.aQ.fresh (uM (x.above y c (iG h)))
 ·unfold start
  show _=N.length
  rw[hU,bD,List.length_replicate]
  lia
theorem Ek{CX:kS}{P:bw}{w:aY}{K:aK}{mg:Str->Option ae}{base:Heap}{k:Nat}{f:Addr}{name qual:Str}{params:Arguments}{body:List Stmt}{scope:cT}{dV kV doc pm b7 ct oc:ae}{an od:Option Addr}
 {pZ:Array (Option ae)} {N ps:List Str} {sp:Sp} (lk:K.lookup f=some ⟨oc,od,.func (DC name qual params body scope dV kV doc pm an b7 ct),pZ⟩) (fq:Jn K b7 qual=true) (S:bM N ps scope)
 (len:∀vs H Q E,sp vs H Q E->vs.length=ps.length)
 (p4:∀(A:Around) (outer:List Env) (s:aq) (H:Hp) (vs:List V) (Q:VK) (E:XK),eZ k (A.deeper (uQ qual scope s.heap.objs.size f b7))->sp vs H Q E ->
   ∃t,Ue (vo CX P w K mg base N qual scope f b7 A outer s H E) body t/\t { nx:=λ_ H'=>Q .bS H',rt:=Q } (start N vs) H) :
 jG P w K mg base CX (k+1) f (DC name qual params body scope dV kV doc pm an b7 ct) ps sp:=by
 refine⟨len,λA outer s H args us vs Q E hr e0 hb r fS=>?_⟩
 have hl:=len _ _ _ _ fS
 have KX:K.In s.heap:=e0.mod.s_.keeps λb o e=>(e0.bs b o e).1
 have lim:s.heap.NoLimit:=e0.mod.nolimit.keeps λb o e=>(e0.bs b o e).1
 have UO:∀y∈ps.zip us,scope.names.lookup y.1=some .local∨(scope.names.lookup y.1=some .cell/\((RX (s.heap.objs.size+1) scope.names []).lookup y.1).isSome=true):=λ⟨n,v⟩ hy=>by
  rcases S.par n (DB hy).1 with q | q
  ·exact .inl q
  ·exact .inr ⟨q,a5p _ _ _ (.inl q)⟩
 refine codeAny_call_function hr.depth (KX _ _ lk) rfl S.co S.gen rfl (PySem.W.codeRec_of KX fq) (hb _ _ _ _ ?_)
 refine wpAny_newFunctionEnv_cells S.kind UO λenv he s1 x=>?_
 subst he
 refine⟨lim.keeps x.toInCall.keep,codeAny_func ?_⟩
 obtain⟨t,ht,hq⟩:=p4 A outer s H vs Q E (hr.deeper _) fS
 have I:Inv (vo CX P w K mg base N qual scope f b7 A outer s H E) [] (start N vs) H s1:=UN S hr.hd e0 hl r x
 refine aH (ht [] s1 (start N vs) H _ I hq) (λfl s' hs=>?_) λe s' hs=>hs
 have fin:∀{a8:St} {H':Hp} {v:V} {u:ae},Inv (vo CX P w K mg base N qual scope f b7 A outer s H E) [] a8 H' s'->RelV v u->Q v H'->CE outer P w H s Q u s' :=
  λ{a8 H' v u} J rv q=>⟨v,H',J.os,J.bare,J.base,J.aQ,rv,q⟩
 cases fl with
 | ret u =>
   obtain⟨v,a8,H',J,rv,q⟩:=hs
   exact fin J rv q
 | next =>
   obtain⟨a8,H',J,q⟩:=hs
   exact fin (v:=V.bS) (u:=lU) J rfl q
 | brk =>
   obtain⟨_,_,_,q⟩:=hs
   exact di q
 | cont =>
   obtain⟨_,_,_,q⟩:=hs
   exact di q
end L2
namespace L2
open PySem PySem.Spec PyProof.Rows
section
variable {X:Cx}{x:Str}{p pos:Pos}{e:Expr}{es:List Expr}{t:TA}{id T:String}{r:List V->Hp->VK->Prop}
end
end L2
namespace HT
open PySem PyProof.Rows
section
open PySem.SeqAt
open PySem.AutoSeq1 (wpAny_loadPart')
open PySem.MeetsSeq PySem.MeetsSeq2 PySem.MeetsSeq3
end
section
variable {prog:bw}{w:aY}{A:Around}{E:ae->aq->Prop}{s:aq}
theorem UP{t b:Addr}{vs ws:List ae}{Q:ae->aq->Prop}(ht:qX s.heap t vs.toArray)(hb:qX s.heap b ws.toArray)(hv:vs≠[])
 (h1:ws=[]->Q (.ref t) s) (h2:ws≠[]->Q (.ref s.heap.objs.size) { s with heap:=s.heap.push { cls:=.type "tuple",data:=.seq (vs++ws).toArray } })
 (km:vs.length+ws.length<=cq):az (aJ prog w) A (hJ .Add (.ref t) (.ref b)) Q E s:=by
 obtain⟨⟨cls,dd,data,sl⟩,ho,hc,n,hd⟩:=id ht
 obtain⟨⟨UQ,Bj,data2,Bk⟩,p5,nE,n2,hd2⟩:=id hb
 simp only at hc hd nE hd2
 subst hc hd nE hd2
 have e:vs.toArray++ws.toArray=(vs++ws).toArray:=by simp
 by_cases hw:ws=[]
 ·exact Jo ⟨_,ho,rfl⟩ ⟨_,p5,rfl⟩ RZ R1 R3 R4 (R5 _ _)
   (tuple_addW1 t b vs.toArray ws.toArray n n2 dd Bj sl Bk (by simpa using hv) (by simp[hw])) ⟨ho,p5,h1 hw⟩
 ·refine Jo ⟨_,ho,rfl⟩ ⟨_,p5,rfl⟩ RZ R1 R3 R4 (R5 _ _)
   (tuple_addW2 t b vs.toArray ws.toArray n n2 dd Bj sl Bk (by simpa using hv) (by simpa using hw) (by rw[dj,dj];exact km)) ⟨ho,p5,?_⟩
  rw[e]
  exact h2 hw
def bC(n d:Nat):Option Int->Nat
 | none=>d
 | some v=>if v<0 then (v+(n:Int)).toNat else min v.toNat n
theorem UR(n d:Nat)(hd:d<=n)(o:Option Int):bC n d o<=n:=by
 cases o with
 | none=>exact hd
 | some v =>
   show(if v<0 then (v+(n:Int)).toNat else min v.toNat n)<=n
   by_cases hv:v<0
   ·rw[if_pos hv];lia
   ·rw[if_neg hv];exact Nat.min_le_right _ _
theorem K4(v:Int)(n d:Nat):(if v<0 then max (v+(n:Int)) 0 else min v (n:Int))=((bC n d (some v):Nat):Int):=by
 show(if v<0 then max (v+(n:Int)) 0 else min v (n:Int))=(((if v<0 then (v+(n:Int)).toNat else min v.toNat n):Nat):Int)
 by_cases hv:v<0
 ·simp only[if_pos hv];lia
 ·simp only[if_neg hv];lia
theorem US(lo hi:Option Int)(n:Nat):R6 lo hi 1 (n:Int)=(((bC n 0 lo:Nat):Int),((bC n n hi:Nat):Int)):=by
 have h1:¬((1:Int)<0):=by lia
 unfold R6
 simp only[h1,if_false]
 refine Prod.ext ?_ ?_
 ·cases lo with
  | none=>rfl
  | some v=>exact K4 v n 0
 ·cases hi with
  | none=>rfl
  | some v=>exact K4 v n n
theorem UT(i j:Nat):Jp (i:Int) (j:Int) 1=j-i:=by
 unfold Jp
 have h1:(1:Int)>0:=by lia
 simp only[h1,if_true,Int.ediv_one]
 split<;>lia
theorem K5{v:ae}{o:Option Int}{Q:Option Int->aq->Prop}(p:q_ v o)(h:Q o s):az (aJ prog w) A (Builtin.Slice.slicePartIndex v) Q E s:=by
 cases p with
 | none=>exact a5q h
 | int i t=>exact slicePart_int h
theorem K6{sl:Addr}{vl vu:ae}{lo hi:Option Int}{n:Nat}{Q:Int×Int×Nat->aq->Prop}(hs:s.heap.IsSliceOf sl vl vu .none)(pl:q_ vl lo)(pu:q_ vu hi)
 (h:Q (((bC n 0 lo:Nat):Int),1,bC n n hi-bC n 0 lo) s):az (aJ prog w) A (a5r (.ref sl) (pure (n:Int))) Q E s:=by
 obtain⟨os,tx,tB,xQ⟩:=id hs
 unfold a5r Builtin.Slice.sliceFields
 refine ay (ay (f_ tx xQ (x:=vl) rfl (ay (f_ tx xQ (x:=vu) rfl (ay (f_ tx xQ (x:=.none) rfl (aP ?_)))))))
 refine ay (a5q ?_)
 show az _ _ (if ((1:Int)==0)=true then _ else _) _ _ s
 rw[if_neg (by decide)]
 refine ay (K5 pl (ay (K5 pu (ay (aP ?_)))))
 show az _ _ (match R6 lo hi 1 (n:Int) with | (lo,hi)=>pure (lo,(1:Int),Jp lo hi 1)) _ _ s
 rw[US lo hi n]
 show az _ _ (pure (((bC n 0 lo:Nat):Int),(1:Int),Jp ((bC n 0 lo:Nat):Int) ((bC n n hi:Nat):Int) 1)) _ _ s
 rw[UT]
 exact aP h
theorem UU(xs:Array ae)(i k:Nat):((bL k).filterMap λ(m:Nat)=>xs[((i:Int)+(m:Int)*1).toNat]?).toArray=((xs.toList.drop i).take k).toArray:=by
 have e:(λ(m:Nat)=>xs[((i:Int)+(m:Int)*1).toNat]?)=λm=>xs[i+m]?:=by
  funext m
  have:((i:Int)+(m:Int)*1).toNat=i+m:=by lia
  rw[this]
 rw[e]
 have:=pick_run xs i k
 rw[List.filterMap_map] at this
 have e2:((λx=>xs[x]?) ∘ λx=>i+x)=λm=>xs[i+m]?:=rfl
 rw[e2] at this
 rw[this]
theorem UW{t sl:Addr}{items:Array ae}{vl vu:ae}{lo hi:Option Int}{Q:ae->aq->Prop}(ht:qX s.heap t items)(hs:s.heap.IsSliceOf sl vl vu .none)(pl:q_ vl lo)(pu:q_ vu hi)
 (hw:¬(bC items.size 0 lo=0/\bC items.size items.size hi=items.size))
 (h:Q (.ref s.heap.objs.size) { s with heap:=s.heap.push { cls:=.type "tuple",data:=.seq ((items.toList.drop (bC items.size 0 lo)).take (bC items.size items.size hi-bC items.size 0 lo)).toArray } })
 (km:items.size<=cq):az (aJ prog w) A (wY (.ref t) (.ref sl)) Q E s:=by
 have Bl:sizeOk (.seq ((items.toList.drop (bC items.size 0 lo)).take (bC items.size items.size hi-bC items.size 0 lo)).toArray):=by
  show((items.toList.drop (bC items.size 0 lo)).take (bC items.size items.size hi-bC items.size 0 lo)).toArray.size<=cq
  rw[dj,lX,rf,jg]
  lia
 have hj:bC items.size items.size hi<=items.size:=UR _ _ (bA _) hi
 obtain⟨os,tx,tB,xQ⟩:=id hs
 have rQ:s.TypeIs (.ref sl) "slice":=⟨os,tx,tB⟩
 unfold wY
 try with_reducible refine oK ?_
 first | refine ay (aP ?_) | skip
 refine ay (a5s ht.typeIs (by decide) ?_)
 refine ay (oM (name:=bt "__getitem__") ht.typeIs Jq
  (j_ Jq ht.typeIs a5t ?_ (a5u _ _)))
 show az _ _ (a5v (.ref t)>>=_) _ _ s
 refine ay (tupleItemsOf_ ht ?_)
 refine ay (DD rQ ?_)
 rw[if_pos (by decide)]
 refine ay (K6 hs pl pu ?_)
 have UX:¬((((bC items.size 0 lo:Nat):Int)==0&&(1:Int)==1&&(bC items.size items.size hi-bC items.size 0 lo)==items.size)=true):=by
  intro q
  rw[gN,gN] at q
  have q1:((bC items.size 0 lo:Nat):Int)=0:=eq_of_beq q.1.1
  have q2:bC items.size items.size hi-bC items.size 0 lo=items.size:=eq_of_beq q.2
  exact hw ⟨by lia,by lia⟩
 show az _ _ (if (((bC items.size 0 lo:Nat):Int)==0&&(1:Int)==1&&(bC items.size items.size hi-bC items.size 0 lo)==items.size)=true then _ else _) _ _ s
 rw[if_neg UX,UU]
 first
  | exact ay (m:=Jr _) (lY (aP ⟨_,rfl,aP h⟩) Bl)
  | exact ay (m:=Jr _) (lY (ay (aP (aP ⟨_,rfl,aP h⟩))) Bl)
  | exact ay (ay (m:=Jr _) (lY (aP (aP ⟨_,rfl,aP h⟩)) Bl))
  | exact ay (ay (m:=Jr _) (lY (aP ⟨_,rfl,aP h⟩) Bl))
end
end HT
namespace L2
open PySem PySem.Spec PyProof.Rows
abbrev TO:=St->Hp->(Option Int->Hp->Prop)->Prop
theorem intsAre_of{ns:List Int}:∀{us:List ae},Vals (ns.map V.int) us->ka us ns:=by
 induction ns with
 | nil=>intro us r;rw[Az] at r;cases r;exact .nil
 | cons n ns ih =>
   intro us r
   rw[cN] at r
   cases r with
   | cons r1 r2 =>
     obtain⟨t,e⟩:=r1
     subst e
     exact .cons n t (ih r2)
section
variable {X:Cx}{e:Expr}{te:TE}{lo hi:Option Expr}{tl th:TO}{pos p2:Pos}
def oZ(X:Cx)(r:V->Option Int->Option Int->Hp->VK->Prop):Prop :=
 ∀(pins:List (Addr×Obj)) (s:aq) (σ:St) (H:Hp) (x:V) (v vl vu:ae) (lo hi:Option Int) (sl:Addr) (Q:VK),Inv X pins σ H s->RelV x v->s.heap.IsSliceOf sl vl vu .none->q_ vl lo->q_ vu hi->r x lo hi H Q ->
  ∃T id,R7 (.type T) "__getitem__"=pure (some (.builtin id))/\s.TypeIs v T/\az (aJ X.prog X.w) X.A (wY v (.ref sl)) (EP X pins σ Q) X.xe s
theorem oZ.or{r r':V->Option Int->Option Int->Hp->VK->Prop}(h:oZ X r)(h':oZ X r'):oZ X (λx lo hi H Q=>r x lo hi H Q∨r' x lo hi H Q):=by
 intro pins s σ H x v vl vu lo hi sl Q I rx hs pl pu q
 rcases q with q | q
 ·exact h pins s σ H x v vl vu lo hi sl Q I rx hs pl pu q
 ·exact h' pins s σ H x v vl vu lo hi sl Q I rx hs pl pu q
def nG(xs:List V)(lo hi:Option Int):List V:=(xs.drop (HT.bC xs.length 0 lo)).take (HT.bC xs.length xs.length hi-HT.bC xs.length 0 lo)
theorem K7(xs:List V)(lo hi:Option Int):(nG xs lo hi).length<=xs.length:=by
 unfold nG
 rw[lX,rf]
 lia
def UY(K:aK):V->Option Int->Option Int->Hp->VK->Prop:=λx lo hi H Q=>∃a xs,x = .ref a/\cE K H a xs /\
 ¬(HT.bC xs.length 0 lo=0/\HT.bC xs.length xs.length hi=xs.length)/\∀p,H p=none->Q (.ref p) (upd H p (.tup (nG xs lo hi)))
theorem UZ:oZ X (UY X.K):=by
 intro pins s σ H x v vl vu lo hi sl Q I rx hs pl pu h
 obtain⟨a,xs,rfl,hx,hw,q⟩:=h
 cases rx
 obtain⟨its,r,ht,hz⟩:=I.tuple hx
 have hlen:its.toArray.size=xs.length:=by rw[dj];exact r.length.symm
 refine⟨"tuple",_,PyProof.Rows.slot_tuple_getitem.lookup,ht.typeIs,?_⟩
 refine HT.UW ht hs pl pu (by rw[hlen];exact hw) ?_ (by rw[hlen];exact hz)
 rw[hlen]
 refine⟨.ref s.heap.objs.size,_,I.laid (t':=s.toks) (o:=.tup (nG xs lo hi)) (λb ob q=>bB _ q) (bA _) ?_,rfl,q _ (I.aQ.fresh (bA _))⟩
 exact⟨dD (K7 xs lo hi) hz,_,(r.drop (HT.bC xs.length 0 lo)).take (HT.bC xs.length xs.length hi-HT.bC xs.length 0 lo),R8 _ _⟩
def U0(K:aK):R2:=λx y H Q=>∃a b xs ys,x = .ref a/\y = .ref b/\cE K H a xs/\cE K H b ys/\xs≠[]/\xs.length+ys.length<=cq /\
 (ys=[]->Q (.ref a) H)/\(ys≠[]->∀p,H p=none->Q (.ref p) (upd H p (.tup (xs++ys))))
theorem Vals.jI{xs:List V}{us:List ae}(r:Vals xs us):us=[]↔xs=[]:=by
 cases r with
 | nil=>simp
 | cons _ _=>simp
theorem U1:eE X (hJ .Add) (U0 X.K):=by
 intro pins s σ H x y v u Q I rx ry h
 obtain⟨a,b,xs,ys,rfl,rfl,ha,hb,hx,hz,q1,q2⟩:=h
 cases rx
 cases ry
 obtain⟨its,r1,p1,_⟩:=I.tuple ha
 obtain⟨kU,r2,p2,_⟩:=I.tuple hb
 refine HT.UP p1 p2 (λz=>hx (r1.jI.mp z)) (λz=>⟨.ref a,H,I,rfl,q1 (r2.jI.mp z)⟩) (λz=>?_) (by rw[<-r1.length,<-r2.length];exact hz)
 refine⟨.ref s.heap.objs.size,_,I.laid (t':=s.toks) (o:=.tup (xs++ys)) (λb ob q=>bB _ q) (bA _) ?_,rfl,q2 (λw=>z (r2.jI.mpr w)) _ (I.aQ.fresh (bA _))⟩
 exact⟨by rw[hU];exact hz,_,r1.append r2,R8 _ _⟩
end
end L2
namespace L2
open PySem PySem.Spec PyProof.Rows
def i6(n:Nat)(i:Int):Option Nat:=if 0<=i then (if i<n then some i.toNat else none) else if -(n:Int)<=i then some (i+n).toNat else none
def cu{α:Type}(xs:List α)(i:Int):Option α:=(i6 xs.length i).bind λj=>xs[j]?
theorem K8{n:Nat}{i:Int}{j:Nat}(h:i6 n i=some j):seqIndex? i n=some j/\j<n /\ -(n:Int)<=i/\i<n:=by
 unfold i6 at h
 by_cases h0:0<=i
 ·rw[if_pos h0] at h
  by_cases h1:i<n
  ·rw[if_pos h1] at h
   have e:i.toNat=j:=iZ h
   exact⟨by rw[R9 h0 h1,e],by lia,by lia,h1⟩
  ·rw[if_neg h1] at h;cases h
 ·rw[if_neg h0] at h
  by_cases h1:-(n:Int)<=i
  ·rw[if_pos h1] at h
   have e:(i+n).toNat=j:=iZ h
   exact⟨by rw[R_ (by lia) h1,e],by lia,h1,by lia⟩
  ·rw[if_neg h1] at h;cases h
theorem K9{α:Type}{xs:List α}{i:Int}{v:α}(h:cu xs i=some v):∃j,seqIndex? i xs.length=some j/\xs[j]? = some v/\j<xs.length /\ -(xs.length:Int)<=i/\i<xs.length:=by
 unfold cu at h
 cases e:i6 xs.length i with
 | none=>rw[e] at h;cases h
 | some j =>
   rw[e] at h
   obtain⟨h1,h2,h3,h4⟩:=K8 e
   exact⟨j,h1,h,h2,h3,h4⟩
def K_(b:Expr):Prop:=∀o i,subscripted b false o i=operate [o,i] (wY o i)
def La(X:Cx)(r:R2):Prop :=
 ∀(value slice:Expr) (pins:List (Addr×Obj)) (s:aq) (σ:St) (H:Hp) (x y:V) (v u:ae) (Q:VK),Inv X pins σ H s->RelV x v->RelV y u->r x y H Q ->
  subscripted slice false v u=operate [v,u] (wY v u)->az (aJ X.prog X.w) X.A (subscriptTail value slice v u) (EP X pins σ Q) X.xe s
section
variable {X:Cx}{a b:Expr}{ta tb:TE}{pos:Pos}
def U2(K:aK):R2:=λx y H Q=>∃p xs i v,x = .ref p/\y = .int i/\bW K H p xs/\cu xs i=some v/\Q v H
def U3(K:aK):R2:=λx y H Q=>∃p xs i v,x = .ref p/\y = .int i/\cE K H p xs/\cu xs i=some v/\Q v H
theorem Lb:La X (U2 X.K):=by
 intro value slice pins s σ H x y v u Q I rx ry h hs
 obtain⟨p,xs,i,z,rfl,rfl,hq,he,q⟩:=h
 cases rx
 obtain⟨t,rfl⟩:=ry
 obtain⟨its,r,pl,hz⟩:=I.list hq
 obtain⟨j,h1,h2,h3,h4,h5⟩:=K9 he
 obtain⟨w,ew,El⟩:=r.get h2
 have hl:=r.length
 have hn:=Bh
 have fin:EP X pins σ Q w s:=⟨z,H,I,El,q⟩
 by_cases h0:0<=i
 ·have hj:i.toNat=j:=by
   rw[R9 h0 h5] at h1
   exact iZ h1
  exact item_listR pl.isList h0 (by lia) (by rw[hj];simpa using ew) fin hs
 ·have hj:(i+(its.toArray.size:Int)).toNat=j:=by
   rw[R_ (by lia) h4] at h1
   rw[dj,<-hl]
   exact iZ h1
  exact a5w (x:=w) pl.isList.typeIs slot_list_getitem.lookup
   (wpAny_getItem_list_neg (Q:=λr s'=>r=w/\EP X pins σ Q r s') pl.isList (by lia) (by rw[dj]<;>lia) (by lia) (by rw[hj];simpa using ew) ⟨rfl,fin⟩) hs
theorem Lc:La X (U3 X.K):=by
 intro value slice pins s σ H x y v u Q I rx ry h hs
 obtain⟨p,xs,i,z,rfl,rfl,hq,he,q⟩:=h
 cases rx
 obtain⟨t,rfl⟩:=ry
 obtain⟨its,r,pl,hz⟩:=I.tuple hq
 obtain⟨j,h1,h2,h3,h4,h5⟩:=K9 he
 obtain⟨w,ew,El⟩:=r.get h2
 have hl:=r.length
 have hn:=Bh
 have fin:EP X pins σ Q w s:=⟨z,H,I,El,q⟩
 exact a5w (x:=w) pl.typeIs slot_tuple_getitem.lookup
  (getItem_tuple (j:=j) (Q:=λr s'=>r=w/\EP X pins σ Q r s') pl (by lia) (by lia) (by rw[dj,<-hl];exact h1) (by simpa using ew) ⟨rfl,fin⟩) hs
theorem U4(its:List ae)(n j:Nat)(u:ae):rg (·.setIfInBounds j u) { cls:=.type "list",data:=.seq its.toArray n }={ cls:=.type "list",data:=.seq (its.set j u).toArray n }:=by
 simp[rg]
theorem Inv.lst{pins:List (Addr×Obj)}{σ:St}{H:Hp}{s:aq}{p:Addr}{xs:List V}(I:Inv X pins σ H s)(h:H p=some (.lst xs)) :
 ∃(its:List ae) (n:Nat),Vals xs its/\s.heap.get? p=some { cls:=.type "list",data:=.seq its.toArray n }/\xs.length<=cq:=by
 obtain⟨z,its,n,r,e⟩:=I.aQ p _ h
 exact⟨its,n,r,e,z⟩
theorem Inv.U5{pins:List (Addr×Obj)}{σ:St}{H:Hp}{s:aq}{p:Addr}{xs ys:List V}{its its':List ae}{n n':Nat}{f:Obj->Obj}(I:Inv X pins σ H s)(h:H p=some (.lst xs))
 (ho:s.heap.get? p=some { cls:=.type "list",data:=.seq its.toArray n }) (hf:f { cls:=.type "list",data:=.seq its.toArray n }={ cls:=.type "list",data:=.seq its'.toArray n' }) (r:Vals ys its') (hz:ys.length<=cq) (t:Nat) :
 Inv X pins σ (upd H p (.lst ys)) { s with heap:=s.heap.update p f,toks:=t }:=by
 have e:(s.heap.update p f).get? p=some { cls:=.type "list",data:=.seq its'.toArray n' }:=by
  rw[sS f ho (by rw[hf]<;>rfl),hf]
 refine I.write (x:=p) (e:=p) (by rw[h];trivial) (.inl rfl) (λb u hb q=>(DE _ _ (eC hb)).trans q) ⟨_,e⟩ ?_
 exact⟨hz,its',n',r,e⟩
def U6:V->V->V->Hp->(Hp->Prop)->Prop:=λo i v H Q=>∃p xs k j,o = .ref p/\i = .int k/\H p=some (.lst xs)/\i6 xs.length k=some j/\Q (upd H p (.lst (xs.set j v)))
theorem U7:Uo X U6:=by
 intro pins s σ H o i v ov iv u Q I ro ri rv h
 obtain⟨p,xs,k,j,rfl,rfl,hp,hj,q⟩:=h
 cases ro
 obtain⟨t,rfl⟩:=ri
 obtain⟨its,n,r,ho,hz⟩:=I.lst hp
 obtain⟨h1,h2,h3,h4⟩:=K8 hj
 have hl:=r.length
 have hn:=Bh
 have I':Inv X pins σ (upd H p (.lst (xs.set j v))) { s with heap:=s.heap.update p (rg (·.setIfInBounds j u)) } :=
  I.U5 hp ho (U4 its n j u) (r.set rv j) (by rw[kd];exact hz) s.toks
 by_cases h0:0<=k
 ·have hk:k.toNat=j:=by
   rw[R9 h0 h4] at h1
   exact iZ h1
  exact PySem.W.ki_setAt ho h0 (by lia) (by rw[dj,<-hl];exact h4) (by rw[hk];exact⟨_,I',q⟩)
 ·have hk:(k+(its.toArray.size:Int)).toNat=j:=by
   rw[R_ (by lia) h3] at h1
   rw[dj,<-hl]
   exact iZ h1
  exact PySem.W.ki_setBack ho (by lia) (by rw[dj,<-hl];exact h3) (by lia) (by rw[hk];exact⟨_,I',q⟩)
theorem U8(lo hi:Option Int)(n:Nat):(wZ lo hi none n).1=((HT.bC n 0 lo:Nat):Int)/\(wZ lo hi none n).2.1=((HT.bC n n hi:Nat):Int)/\(wZ lo hi none n).2.2=1:=by
 refine⟨?_,?_,rfl⟩
 ·cases lo with
  | none=>simp[wZ,HT.bC]
  | some i =>
    simp only[wZ,HT.bC,Sa,show(1:Int)>0 by decide,if_true]
    by_cases h:i<0
    ·simp only[h,if_true]<;>lia
    ·simp only[h,if_false]<;>lia
 ·cases hi with
  | none=>simp[wZ,HT.bC]
  | some i =>
    simp only[wZ,HT.bC,Sa,show(1:Int)>0 by decide,if_true]
    by_cases h:i<0
    ·simp only[h,if_true]<;>lia
    ·simp only[h,if_false]<;>lia
theorem U9(its:List ae)(lo hi:Option Int):slicePick its.toArray lo hi none=((its.drop (HT.bC its.length 0 lo)).take (HT.bC its.length its.length hi-HT.bC its.length 0 lo)).toArray:=by
 obtain⟨h1,h2,h3⟩:=U8 lo hi its.toArray.size
 unfold slicePick
 rw[h1,h2,h3]
 simp only[sliceRange_one,pick_run,dj]<;>rfl
def U_(K:aK):V->Option Int->Option Int->Hp->VK->Prop:=λx lo hi H Q=>∃a xs,x = .ref a/\bW K H a xs/\∀p,H p=none->Q (.ref p) (upd H p (.lst (nG xs lo hi)))
theorem Va:oZ X (U_ X.K):=by
 intro pins s σ H x v vl vu lo hi sl Q I rx hs pl pu h
 obtain⟨a,xs,rfl,hx,q⟩:=h
 cases rx
 obtain⟨its,r,ht,hz⟩:=I.list hx
 have hlen:=r.length
 refine⟨"list",_,slot_list_getitem.lookup,ht.isList.typeIs,?_⟩
 refine wpAny_getItem_list_slice ht.isList hs pl pu .none (by simp) ?_ (by rw[dj]<;>lia)
 rw[U9,<-hlen]
 refine⟨.ref s.heap.objs.size,_,I.laid (t':=s.toks) (o:=.lst (nG xs lo hi)) (λb ob q=>bB _ q) (bA _) ?_,rfl,q _ (I.aQ.fresh (bA _))⟩
 exact⟨dD (K7 xs lo hi) hz,_,0,(r.drop (HT.bC xs.length 0 lo)).take (HT.bC xs.length xs.length hi-HT.bC xs.length 0 lo),c_ _ rfl⟩
theorem Vb:jo X (.builtin "len") (λxs H Q=>∃p ys,xs=[.ref p]/\(bW X.K H p ys∨cE X.K H p ys)/\Q (.int ys.length) H):=by
 intro pins s σ H xs us Q I r h
 obtain⟨p,ys,rfl,hq,q⟩:=h
 obtain⟨u,rfl,rx⟩:=rP r
 cases rx
 have hn:=Bh
 rcases hq with hq | hq
 ·obtain⟨its,r',pl,hz⟩:=I.list hq
  have hlen:=r'.length
  exact Calls.call_len_list pl.isList (by simp only[dj]<;>lia) ⟨.int ys.length,H,I.tok _,⟨s.toks+1,by rw[dj,hlen]⟩,q⟩
 ·obtain⟨its,r',pl,hz⟩:=I.tuple hq
  have hlen:=r'.length
  exact len_tuple pl (by simp only[dj]<;>lia) ⟨.int ys.length,H,I.tok _,⟨s.toks+1,by rw[dj,hlen]⟩,q⟩
theorem jo.or{f:ae}{r r':List V->Hp->VK->Prop}(h:jo X f r)(h':jo X f r'):jo X f (λxs H Q=>r xs H Q∨r' xs H Q):=by
 intro pins s σ H xs us Q I rs q
 rcases q with q | q
 ·exact h pins s σ H xs us Q I rs q
 ·exact h' pins s σ H xs us Q I rs q
theorem Vc:jo X (.type "list") (λxs H Q=>∃p ys,xs=[.ref p]/\(bW X.K H p ys∨cE X.K H p ys)/\∀l,H l=none->Q (.ref l) (upd H l (.lst ys))):=by
 intro pins s σ H xs us Q I r h
 obtain⟨p,ys,rfl,hq,q⟩:=h
 obtain⟨u,rfl,rx⟩:=rP r
 cases rx
 have fin:∀(its:List ae),Vals ys its->ys.length<=cq->∀(h':Heap) (c':Nat),(∀b o',s.heap.get? b=some o'->h'.get? b=some o') ->
  h'.get? s.heap.objs.size=some { cls:=.type "list",dict:=none,data:=.seq its.toArray c',slots:=#[] }->EP X pins σ Q (.ref s.heap.objs.size) { s with heap:=h' }:=λits r' hz h' c' kp e =>
  ⟨.ref s.heap.objs.size,_,I.laid (t':=s.toks) kp (bA _) (show i4 X.prog X.w _ h' _ (.lst ys) from⟨hz,its,c',r',e⟩),rfl,q _ (I.aQ.fresh (bA _))⟩
 rcases hq with hq | hq
 ·obtain⟨its,r',pl,hz⟩:=I.list hq
  have hlen:=r'.length
  obtain⟨o,ho,hc,n,hd⟩:=pl.isList
  exact call_list_seq p (.inl rfl) ho hc hd (λh' c' kp e=>fin its r' hz h' c' kp e) (by simp only[dj]<;>lia)
 ·obtain⟨its,r',pl,hz⟩:=I.tuple hq
  have hlen:=r'.length
  obtain⟨o,ho,hc,n,hd⟩:=pl
  exact call_list_seq p (.inr rfl) ho hc hd (λh' c' kp e=>fin its r' hz h' c' kp e) (by simp only[dj]<;>lia)
theorem Vd:jo X (.type "tuple") (λxs H Q=>∃p ys,xs=[.ref p]/\((bW X.K H p ys/\∀l,H l=none->Q (.ref l) (upd H l (.tup ys)))∨(cE X.K H p ys/\Q (.ref p) H))):=by
 intro pins s σ H xs us Q I r h
 obtain⟨p,ys,rfl,h⟩:=h
 obtain⟨u,rfl,rx⟩:=rP r
 cases rx
 rcases h with ⟨hq,q⟩ | ⟨hq,q⟩
 ·obtain⟨its,r',pl,hz⟩:=I.list hq
  have hlen:=r'.length
  refine call_tuple_list pl.isList (λh' kp=>?_) (by simp only[dj]<;>lia)
  have I1:Inv X pins σ H { s with heap:=h' }:=I.kept (t':=s.toks) kp
  have I2:Inv X pins σ (upd H h'.objs.size (.tup ys)) { s with heap:=h'.push { cls:=.type "tuple",data:=.seq its.toArray } } :=
   I1.laid (t':=s.toks) (λb o e=>bB _ e) (bA _) (show i4 X.prog X.w _ _ _ (.tup ys) from⟨hz,its,r',R8 _ _⟩)
  exact⟨.ref h'.objs.size,_,I2,rfl,q _ (I1.aQ.fresh (bA _))⟩
 ·obtain⟨its,r',pl,hz⟩:=I.tuple hq
  exact call_tuple_same pl ⟨.ref p,H,I,rfl,q⟩
def Ve(K:aK)(T:String)(x:V)(H:Hp):Prop:=match x with
 | .str _=>T="str"
 | .int _=>T="int"
 | .ref p=>(T="list"/\∃xs,bW K H p xs)∨(T="tuple"/\∃o,K.lookup p=some o/\o.cls = .type "tuple"/\o.dict=none) ∨
    (T="dict"/\((∃fi,H p=some (.dK fi))∨∃fi,H p=some (.dT fi)))∨(T="set"/\∃S n,H p=some (.set S n))
 | _=>False
theorem Em{pins:List (Addr×Obj)}{σ:St}{H:Hp}{s:aq}{T:String}{x:V}{v:ae}(I:Inv X pins σ H s)(r:RelV x v)(ty:Ve X.K T x H) :
 s.TypeIs v T/\∀a,v = .ref a->∃ob,s.heap.get? a=some ob/\ob.dict=none:=by
 cases x with
 | str z =>
   obtain⟨t,rfl⟩:=r
   cases (show T="str" from ty)
   exact⟨typeIs_str s z t,λ_ e=>nomatch e⟩
 | int i =>
   obtain⟨t,rfl⟩:=r
   cases (show T="int" from ty)
   exact⟨typeIs_int s i t,λ_ e=>nomatch e⟩
 | ref p =>
   cases r
   rcases ty with ⟨rfl,xs,hq⟩ | ⟨rfl,o,hk,hc,hd⟩ | ⟨rfl,hk⟩ | ⟨rfl,S,n,hk⟩
   ·obtain⟨its,_,pl,_⟩:=I.list hq
    refine⟨pl.isList.typeIs,λa e=>?_⟩
    cases e
    obtain⟨o,n,e,c,hd,_⟩:=pl
    exact⟨o,e,hd⟩
   ·refine⟨⟨o,I.nA p o hk,hc⟩,λa e=>?_⟩
    cases e
    exact⟨o,I.nA _ o hk,hd⟩
   ·have z:∃o,s.heap.get? p=some o/\o.ExactDict:=by
     rcases hk with ⟨fi,hk⟩ | ⟨fi,hk⟩
     ·obtain⟨_,_,_,_,o,_,_,e,ex,_⟩:=I.aQ p _ hk
      exact⟨o,e,ex⟩
     ·obtain⟨_,_,_,_,o,_,_,e,ex,_⟩:=I.aQ p _ hk
      exact⟨o,e,ex⟩
    obtain⟨o,e,ex⟩:=z
    refine⟨⟨o,e,ex.1⟩,λa e2=>?_⟩
    cases e2
    exact⟨o,e,ex.2.1⟩
   ·obtain⟨o,_,_,_,e,ex,_⟩:=I.aQ p _ hk
    refine⟨⟨o,e,ex.1⟩,λa e2=>?_⟩
    cases e2
    exact⟨o,e,ex.2.1⟩
 | _=>exact di ty
variable {o e:Expr}{es:List Expr}{to:TE}{t:TA}{name:Str}{apos eF:Pos}{T id:String}{r:V->List V->Hp->VK->Prop}
end
end L2
namespace L2
open PySem PySem.Spec PyProof.Rows
def Ld(X:Cx)(id:String)(r:V->List V->Hp->VK->Prop):Prop :=
 ∀(pins:List (Addr×Obj)) (s:aq) (σ:St) (H:Hp) (x:V) (xs:List V) (v:ae) (us:List ae) (Q:VK),Inv X pins σ H s->RelV x v->Vals xs us->r x xs H Q ->
  az (aJ X.prog X.w) X.A (call (.builtin id) (v::us)) (EP X pins σ Q) X.xe s
theorem Vals.one:∀{x:V} {us:List ae},Vals [x] us->∃u,us=[u]/\RelV x u
 | _,_,.cons r .nil=>⟨_,rfl,r⟩
theorem Vals.rep{xs:List V}{us:List ae}(h:Vals xs us):∀k:Nat,Vals (dI k xs).flatten (dI k us).flatten
 | 0=>.nil
 | k+1=>by
   rw[pQ,pQ,w0,w0]
   exact Vals.append h (Vals.rep h k)
theorem Le(its:List ae):∀(k:Nat) (acc:List ae),
 List.foldl (λx1 x2=>x1++x2) acc.toArray (dI k its.toArray)=(acc++(dI k its).flatten).toArray
 | 0,acc=>by simp
 | k+1,acc=>by
   have e:acc.toArray++its.toArray=(acc++its).toArray:=by simp
   have e2:(acc++its)++(dI k its).flatten=acc++(dI (k+1) its).flatten:=by
    rw[pQ,w0,AA]
   rw[<-e2,<-Le its k (acc++its),<-e,pQ,List.foldl_cons]
section
variable {X:Cx}{pins:List (Addr×Obj)}{σ:St}{H:Hp}{s:aq}{l b:Addr}{xs ys zs:List V}
theorem Inv.Lf{its its':List ae}{n:Nat}{f:Array ae->Array ae}{t':Nat}(I:Inv X pins σ H s)(hH:H l=some (.lst xs))
 (e:s.heap.get? l=some { cls:=.type "list",data:=.seq its.toArray n }) (hf:f its.toArray=its'.toArray) (hv:Vals ys its') (hz:ys.length<=cq) :
 Inv X pins σ (upd H l (.lst ys)) { s with heap:=s.heap.update l (rg f),toks:=t' }:=by
 have q:=PySem.IsL.update e f
 rw[hf] at q
 refine I.write (x:=l) (e:=l) (by rw[hH];exact trivial) (.inl rfl) (λb' u hb hu=>(DE s.heap (rg f) (eC hb)).trans hu) ⟨_,q⟩ ?_
 exact⟨hz,its',_,hv,q⟩
theorem Inv.Lg{its:List ae}{t':Nat}(I:Inv X pins σ H s)(hv:Vals ys its)(hz:ys.length<=cq) :
 Inv X pins σ (upd H s.heap.objs.size (.lst ys)) { s with heap:=s.heap.push { cls:=.type "list",data:=.seq its.toArray },toks:=t' } :=
 I.laid (λ_ _ q=>bB _ q) (bA _) ⟨hz,its,0,hv,c_ _ rfl⟩
theorem Inv.fresh(I:Inv X pins σ H s):H s.heap.objs.size=none:=I.aQ.fresh (bA _)
theorem Inv.xR(I:Inv X pins σ H s)(hH:H l=some (.lst xs)):xs.length<=cq/\∃(its:List ae) (n:Nat),Vals xs its/\xs.length=its.length/\s.heap.get? l=some { cls:=.type "list",data:=.seq its.toArray n }:=by
 obtain⟨z,its,n,r,e⟩:=I.aQ l _ hH
 exact⟨z,its,n,r,r.length,e⟩
theorem Vf{n:Nat}(h:n<=cq):Sb n=false:=by
 unfold Sb
 exact decide_eq_false (by lia)
end
section
variable {X:Cx}
def Vg:V->List V->Hp->VK->Prop:=λx vs H Q=>∃l xs y,x = .ref l/\vs=[y]/\H l=some (.lst xs)/\xs.length<cq/\Q .bS (upd H l (.lst (xs++[y])))
theorem Vh:Ld X "list.append" Vg:=by
 intro pins s σ H x vs v us Q I rx rv h
 obtain⟨l,xs,y,rfl,rfl,hH,hz,q⟩:=h
 cases rx
 obtain⟨u,rfl,ru⟩:=rv.one
 obtain⟨z,its,n,r,hl,e⟩:=I.xR hH
 refine w6 F.slot_list_append ⟨_,e,rfl⟩ F.entry_list_append (F.args_list_append_2 _ _) (PySem.list_append l its.toArray n u (by rw[dj];lia)) ⟨e,?_⟩
 refine⟨.bS,_,I.Lf (its':=its++[u]) hH e (by simp) (r.append (.cons ru .nil)) ?_,rfl,q⟩
 rw[hU,w7]
 lia
def Vi:V->List V->Hp->VK->Prop:=λx vs H Q=>∃l b xs zs,x = .ref l/\vs=[.ref b]/\H l=some (.lst xs)/\H b=some (.lst zs)/\xs.length+zs.length<=cq/\Q .bS (upd H l (.lst (xs++zs)))
theorem Vj:Ld X "list.extend" Vi:=by
 intro pins s σ H x vs v us Q I rx rv h
 obtain⟨l,b,xs,zs,rfl,rfl,hH,hB,hz,q⟩:=h
 cases rx
 obtain⟨u,rfl,ru⟩:=rv.one
 cases ru
 obtain⟨z,its,n,r,hl,e⟩:=I.xR hH
 obtain⟨z2,kU,n2,r2,mh,e2⟩:=I.xR hB
 have km:its.toArray.size+kU.toArray.size<=cq:=by rw[dj,dj];lia
 have Vk:¬(!its.toArray.isEmpty&&Sb (its.toArray.size+kU.toArray.size))=true:=by
  rw[Vf km,Bool.and_false]
  exact oN
 refine w6 F.slot_list_extend ⟨_,e,rfl⟩ F.entry_list_extend (F.args_list_extend_2 _ _)
  (AutoSeq1.list_extend_list_list_0 l its.toArray n b kU.toArray n2 Vk (by rw[dj];lia) (by lia)) ⟨e,e2,?_⟩
 refine⟨.bS,_,I.Lf (its':=its++kU) hH e (by simp) (r.append r2) ?_,rfl,q⟩
 rw[hU]
 lia
def Vl:R2:=λx y H Q=>∃l b xs zs,x = .ref l/\y = .ref b/\H l=some (.lst xs)/\H b=some (.lst zs)/\xs.length+zs.length<=cq/\∀p,H p=none->Q (.ref p) (upd H p (.lst (xs++zs)))
theorem Vm:eE X (hJ .Add) Vl:=by
 intro pins s σ H x y v u Q I rx ry h
 obtain⟨l,b,xs,zs,rfl,rfl,hH,hB,hz,q⟩:=h
 cases rx
 cases ry
 obtain⟨z,its,n,r,hl,e⟩:=I.xR hH
 obtain⟨z2,kU,n2,r2,mh,e2⟩:=I.xR hB
 refine PySem.P.add_list e e2 ?_ (by rw[dj,dj];lia)
 have ea:its.toArray++kU.toArray=(its++kU).toArray:=by simp
 rw[ea]
 exact⟨.ref _,_,I.Lg (t':=s.toks) (r.append r2) (by rw[hU];lia),rfl,q _ I.fresh⟩
theorem Lh{α:Type}(xs:List α)(k:Nat):(dI k xs).flatten.length=k*xs.length:=by
 induction k with
 | zero=>simp
 | succ k ih=>rw[pQ,w0,hU,ih,Nat.succ_mul,AB]
end
section
variable {prog:bw}{w:aY}{A:Around}{E:ae->aq->Prop}{s:aq}
end
section
variable {X:Cx}
end
end L2
namespace Li
open PySem PySem.W PySem.Calls PyProof.Rows
theorem Vn{P:rh}{h:Heap}:∀(ns:List Int) (vs:List ae),WellAll P h vs (ns.map WData.int)->ka vs ns:=by
 intro ns
 induction ns with
 | nil =>
   intro vs w
   rw[Az] at w
   cases w
   exact .nil
 | cons n ns ih =>
   intro vs w
   rw[cN] at w
   cases w with
   | cons a b =>
     cases a
     exact .cons _ _ (ih _ b)
theorem Vo{l:OpenLaw}{n:Nat}(hn:l.most=some n){P:rh}{h:Heap}{args:List WData}{vals:List ae}
 (vp:l.row.toRowW.claim.pre args=true) (Eo:WellAll P h vals args) :
 ∃a vs ns,vals=[gJ a]/\args=[WData.list (ns.map WData.int)]/\h.get? a=some { cls:=.type "list",data:=.seq vs.toArray }/\ka vs ns/\ns.length<=n:=by
 have Vp:WShape.hasAll [] args [.list .int]=true:=(pre_splitW vp).1
 have hc:l.pre.holds [] { args:=args }=true:=(pre_splitW vp).2
 obtain⟨d,r,rfl,h1,h2⟩:=hasAllW_cons Vp
 obtain rfl:=hasAllW_nil h2
 obtain⟨xs,rfl,h3⟩:=hasW_list h1
 obtain⟨ns,rfl⟩:=items_int h3
 have hlen:ns.length<=n:=by
  unfold OpenLaw.pre at hc
  have h4:(WTm.not (.lt (.lit (.int (n:Int))) (.len (.arg 0)))).holds [] { args:=[.list (ns.map .int)] }=true:=by
   have h4:=(holds_andW hc).1
   rw[hn] at h4
   exact h4
  have h5:=condW_of h4 (w_not (w_lt w_lit (w_len_list (w_arg rfl))))
  rw[bD] at h5
  refine Js λq=>?_
  have q':(n:Int)<((ns.length:Nat):Int):=by lia
  first
   | (rw[decide_eq_true q'] at h5;exact absurd h5 (by decide))
   | (simp at h5;lia)
 cases Eo with
 | cons w1 w2 =>
   cases w2
   cases w1 with
   | list ho jJ=>exact⟨_,_,ns,rfl,rfl,ho,Vn ns _ jJ,hlen⟩
theorem Vq(l:OpenLaw)(args:List WData):l.row.toRowW.claim.post args (.bool true) args=true :=
 postW_of (r:=l.row.toRowW) (X:=(true==true))
  (show WShape.has [] (.bool true) .bool=true by first | rfl | decide | simp[WShape.has,WShape.arms,WShape.armsAll])
  (show(WTm.eq .res (.lit (.bool true))).value [] { args:=args,res:=some (.bool true),after:=args }=some (.bool (true==true)) from w_eq_bool (w_res rfl) w_lit) rfl
theorem Vr{l:OpenLaw}{n:Nat}{q:bw}{loose:List Str}{XP:(Str->Option ae)->Heap->Prop}{YP:aY->Heap->Prop}{d:DefRec}
 (hn:l.most=some n) (xS:d.params.defaults=[])
 (call:∀(w:aY) (s₀ cy:aq) (mg mb:Str->Option ae) (fa:Addr) (o:Obj) (pm cd doc:ae) (a:Addr) (vs:List ae) (ns:List Int),
   Ground q loose [] XP w s₀ mg mb cy.heap->YP w cy.heap ->
   cy.heap.get? fa=some o->o.data = .func (docDef d.name d.params d.body d.scope pm cd doc)->cy.heap.CodeRec cd d.name->mg d.name=some (.ref fa) ->
   cy.heap.get? a=some { cls:=.type "list",data:=.seq vs.toArray }->ka vs ns->ns.length<=n->cy.gens=#[] ->
   m9 (aJ l.prog w) uS (.call (.ref fa) ⟨[.ref a],[]⟩) (λr s'=>r = .ok (.ret (.bool true))/\OldK cy.heap s'.heap/\s'.os=cy.os/\m6 s'.gens) cy) :
 WalkO q loose XP YP l.row.toRowW d [] (λf vs=>Sd f vs):=by
 intro w s₀ cy mg mb G Y fa o pm cd doc dV kV ho hd fq hD p6 hg args vals as vp a9f hrd Eo hlo
 obtain rfl:dV = .none:=Dflts.none hD xS
 obtain rfl:kV = .none:=Dflts.noKw hD
 obtain⟨a,vs,ns,rfl,rfl,Ep,hints,hlen⟩:=Vo hn vp Eo
 refine enter_call (sT (call w s₀ cy mg mb fa o pm cd doc a vs ns G Y ho (fd_plain hd) fq p6 Ep hints hlen hg) λr s' hq=>?_)
 obtain⟨rfl,h2,h3,h4⟩:=hq
 exact⟨.inl ⟨.bool true,.bool true,[],rfl,λ_=>rfl,.bool true,Vq l _,λ_=>⟨a5x,λ_ hm=>(nomatch hm)⟩⟩,h2,h3,h4⟩
section
variable {prog:bw}{w:aY}{A:Around}{E:ae->aq->Prop}{s:aq}{K:Frag}
end
end Li
namespace L2
open PySem PySem.Spec PyProof.Rows
theorem xT:∀{vs:List ae} {ns:List Int},ka vs ns->Vals (ns.map V.int) vs
 | _,_,.nil=>.nil
 | _,_,.cons n t h=>.cons ⟨t,rfl⟩ (xT h)
def Es(H:Hp):Prop:=∀b,H b=none∨∃o xs,H b=some (.iK o (.lst xs))
theorem Vs{P:bw}{w:aY}{K:aK}{mg mb:Str->Option ae}{CX:kS}{k:Nat}{fa a:Addr}{fd:da}{x:Str}{sp:Sp}{cy:aq}{vs:List ae}{ns:List Int}
 (KX:K.In cy.heap) (p7:cy.heap.Ns dU mg) (hb:cy.heap.Ns Jf mb) (Vt:∀x:Str,x≠"__name__"->mb x=qY x) (Vu:cy.heap.NoLimit) (hg:cy.gens=#[])
 (ha:cy.heap.get? a=some { cls:=.type "list",data:=.seq vs.toArray }) (hi:ka vs ns) (hl:ns.length<=cq) (hr:eZ k uS)
 (F:∀base:Heap,K.In base->base.Ns dU mg->jG P w K mg base CX k fa fd [x] sp) (Vv:∀(s:aq) (u:ae),BindsTo s fd ⟨[u],[]⟩ [(x,u)])
 (fS:∀H:Hp,Es H->bW K H a (ns.map V.int)->sp [.ref a] H (λv _=>v = .bl true) λ_ _ _=>False)
 (xU:∀H e s',CX [] H cy (λ_ _ _=>False) e s'->False) :
 m9 (aJ P w) uS (.call (.ref fa) ⟨[.ref a],[]⟩) (λr s'=>r = .ok (.ret (.bool true))/\OldK cy.heap s'.heap/\s'.os=cy.os/\m6 s'.gens) cy:=by
 have rv:=xT hi
 have Vw:=hi.length
 have core:∀H:Hp,Es H->bW K H a (ns.map V.int)->du P w H cy.heap->(∀b,H b≠none->b=a)->(H a≠none->K.lookup a=none) ->
  m9 (aJ P w) uS (.call (.ref fa) ⟨[.ref a],[]⟩) (λr s'=>r = .ok (.ret (.bool true))/\OldK cy.heap s'.heap/\s'.os=cy.os/\m6 s'.gens) cy:=by
  intro H hO hS aQ hA hK
  have Lj:∀{b:Addr} {o:Obj},cy.heap.get? b=some o->H b=none->(jm cy.heap H).get? b=some o:=λe n=>Ea e n
  have xP:∀{b:Addr} {o:Obj} {es:Array DictEntry} {ep:Nat},cy.heap.get? b=some o->o.data = .dict es ep->H b=none:=λ{b o es ep} e d=>by
   cases q:H b with
   | none=>rfl
   | some u =>
     have e':b=a:=hA b (by rw[q];simp)
     subst e'
     rw[ha] at e;cases e
     have d':Data.seq vs.toArray _=Data.dict es ep:=d
     cases d'
  have Bm:∀{b:Addr} {m:Str->Option ae},cy.heap.Ns b m->(jm cy.heap H).Ns b m:=λ{b m} ⟨o,es,ep,e,d,r⟩=>⟨o,es,ep,Lj e (xP e d),d,r⟩
  have Lk:K.In (jm cy.heap H):=λb o e=>Lj (KX b o e) (by
   cases q:H b with
   | none=>rfl
   | some u =>
     have e':b=a:=hA b (by rw[q];simp)
     subst e'
     rw[hK (by rw[q];simp)] at e;cases e)
  have hM:Mod K mg (jm cy.heap H):=⟨Lk,Bm p7,⟨mb,Bm hb,Vt⟩,let ⟨mc,h1,h2⟩:=Vu;⟨mc,Bm h1,h2⟩⟩
  have e0:xN P w K mg (jm cy.heap H) uS [] cy H:=⟨rfl,hM,λb o e=>Eb e,Nat.le_of_eq (T8 _ _),trivial,λb hb=>absurd (show b∈([]:List Addr) from hb) (by simp),aQ,.of_eq hg⟩
  refine sT ((F _ Lk (Bm p7)).run uS [] cy H ⟨[.ref a],[]⟩ [.ref a] [.ref a] _ _ hr e0 (Vv cy (.ref a)) (.cons rfl .nil) (fS H hO hS)) λr s' h=>?_
  cases r with
  | error e=>exact(xU H e s' h).elim
  | ok fl =>
    cases fl with
    | next=>exact di h
    | brk=>exact di h
    | cont=>exact di h
    | ret u =>
      obtain⟨v,H',os,bare,un,Vx,r',q⟩:=h
      have q':v = .bl true:=q
      subst q'
      obtain rfl:u=RS true:=r'
      refine⟨rfl,OldK.of_keep λb o e=>?_,os,bare⟩
      cases q:H b with
      | none=>exact un.keep b o e q (by intro z;exact absurd (show b∈([]:List Addr) from z) (by simp)) (by simp)
      | some u =>
        rcases hO b with z | ⟨ob,xs,z⟩
        ·rw[q] at z;cases z
        ·have z2:=un.kP b ob _ z
         obtain⟨e1,_⟩:=aQ b _ z
         obtain⟨e2,_⟩:=Vx b _ z2
         rw[e] at e1;cases e1
         exact e2
 cases hk:K.lookup a with
 | some o =>
   have e:=KX a o hk
   rw[ha] at e
   cases e
   refine core (λ_=>none) (λ_=>.inl rfl) (.inr ⟨_,vs.toArray,_,hk,rfl,rfl,rfl,by rw[dj,Vw];exact hl,by simpa using rv⟩) (λb u z=>by have z':(none:Option HO)=some u:=z;cases z') (λb z=>absurd rfl z) λz=>absurd rfl z
 | none =>
   refine core (λb=>if b=a then some (.iK { cls:=.type "list",data:=.seq vs.toArray } (.lst (ns.map V.int))) else none) (λb=>?_) (.inl (.inr ⟨{ cls:=.type "list",data:=.seq vs.toArray },if_pos rfl⟩)) (λb u z=>?_) (λb z=>?_) λ_=>hk
   ·by_cases hb:b=a
    ·exact .inr ⟨_,_,if_pos hb⟩
    ·exact .inl (if_neg hb)
   ·by_cases hb:b=a
    ·have z':=(if_pos hb).symm.trans z
     cases z'
     subst hb
     exact⟨ha,by rw[bD];exact hl,vs,_,rv,ha⟩
    ·have z':=(if_neg hb).symm.trans z
     cases z'
   ·by_cases hb:b=a
    ·exact hb
    ·exact absurd (if_neg hb) z
end L2
namespace L2
open PySem PySem.Spec PyProof.Rows
abbrev Ll {K:aK} {h:Heap} (_:K.In h):aK:=K
theorem Lm{l:a5y}{n k:Nat}{q:bw}{loose:List Str}{XP:(Str->Option ae)->Heap->Prop}{YP:aY->Heap->Prop}{d:DefRec}{K:rh->aK}{CX:aY->kS}{sp:aY->Sp}{x:Str}
 (hn:l.most=some n) (Bn:n<=cq) (xS:d.params.defaults=[]) (hr:eZ k uS)
 (hY:∀(w:aY) (h:Heap),YP w h->(K w.params).In h)
 (F:∀(w:aY) (mg:Str->Option ae) (fa:Addr) (h:Heap),(K w.params).In h->h.Ns dU mg->mg d.name=some (.ref fa) ->
   ∃fd:da,(∀(s:aq) (u:ae),BindsTo s fd ⟨[u],[]⟩ [(x,u)]) /\
    ∀base:Heap,(K w.params).In base->base.Ns dU mg->jG l.prog w (K w.params) mg base (CX w) k fa fd [x] (sp w))
 (fS:∀(w:aY) (H:Hp) (a:Addr) (ns:List Int),ns.length<=n->Es H->bW (K w.params) H a (ns.map V.int)->sp w [.ref a] H (λv _=>v = .bl true) λ_ _ _=>False)
 (xU:∀(w:aY) (H:Hp) (s:aq) (e:ae) (s':aq),CX w [] H s (λ_ _ _=>False) e s'->False) :
 PySem.W.WalkO q loose XP YP l.row.toRowW d [] (λf vs=>Sd f vs):=by
 refine Li.Vr hn xS λw s₀ cy mg mb fa o pm cd doc a vs ns G Y ho hd fq p6 Ep hints hlen hg=>?_
 have KX:=hY w _ Y
 obtain⟨fd,hb,hF⟩:=F w mg fa _ KX G.T.g p6
 exact Vs KX G.T.g G.T.b G.T.builtins G.T.nolimit hg Ep hints (dD hlen Bn) hr hF hb (λH hO hS=>fS w H a ns hlen hO hS) λH e s'=>xU w H cy e s'
end L2
/- THE a9g a9h (shape;LID,My.* are a9i):
   My.Adr: a structure of the addresses a9j a9k a9l names (classes,a9m);My.Txt K t: a structure (Prop) of the equations over K;
   My.Vy:{K} {implicit addresses ..} (e1:nsIn K dU "law"=some (some (.ref f))) (e2:K.lookup f=some ⟨oc,od,.func (fnOf "law" "law" params body scope dV kV doc pm an b7 ct),sl⟩) (e3:codeIn K b7 "law"=true) ..:∃t,My.Txt K t
set_option maxRecDepth 100000 in
set_option maxHeartbeats 0 in
theorem PySem.Challenge.cw_LID_holds : PySem.Challenge.rw_LID.Holds := by
 w_on;o_law;k_head;(case hw=>w_witness2)
 k_fill
 refine L2.Lm (l:=PySem.Challenge.rw_LID) (n:=63) (k:=40) (x:="script") (CX:=λw=>..) (sp:=λ_=>My.a9n) rfl (by decide) rfl ⟨rfl,by decide,by decide⟩ (λw h Y=>PySem.W.kIn_of Y) ?F ?S ?C
 case F =>
  intro w mg fa h KX G p6
  have T:∃t,My.Txt (L2.Ll KX) t:=by
   dsimp only[L2.Ll]                          -- K a9o stand as «<heap const> w.params» for k_is
   refine' My.Vy ?e1 ?e2 ?e3 ..
   (case e1=>PySem.W.k_is)                    -- in the order: a name->its address->its object->its parts
   (case e2=>PySem.W.k_is)
   ..
  obtain⟨t,T⟩:=T
  have e0:=p6.symm.trans (AD KX G T.law)
  cases e0                                       -- fa is the a9p own address
  exact⟨_,λs u=>.of_eq rfl,λbase kb nb=>My.Vz T kb nb⟩     -- if «.of_eq rfl» comes too early: refine' ⟨_,?b,λbase kb nb=>My.Vz T kb nb⟩;exact λs u=>.of_eq rfl
 case S=>exact λw H a ns hl hO hS=>..
 case C=>exact ..
(the tactic k_is has no namespace: write k_is) -/
namespace L2
open PySem PySem.Spec PyProof.Rows
def xV(s:Stmt):Arguments:=match s with
 | .FunctionDef _ a _ _ _ _ _ _ _ _=>a
 | _=>{ posonlyargs:=[],args:=[],vararg:=none,kwonlyargs:=[],kw_defaults:=[],kwarg:=none,defaults:=[] }
def p8(s:Stmt):List Stmt:=match s with
 | .FunctionDef _ _ b _ _ _ _ _ _ _=>b
 | _=>[]
def bI(s:Stmt):cT:=match s with
 | .FunctionDef _ _ _ _ _ _ sc _ _ _=>sc
 | _=>{ kind:=.function,names:=[],isGenerator:=false,isCoroutine:=false }
structure p9 (K:aK) (x qual:Str) (st:Stmt) (f:Addr) (fd:da):Prop where
 ex:∃(oc:ae) (od:Option Addr) (kV doc pm:ae) (an:Option Addr) (b7 ct:ae) (pZ:Array (Option ae)),
  fd=DC x qual (xV st) (p8 st) (bI st) .none kV doc pm an b7 ct/\K.lookup f=some ⟨oc,od,.func fd,pZ⟩/\Jn K b7 qual=true
 kp:DA K (.ref f)=true
section
variable {P:bw}{w:aY}{K:aK}{mg:Str->Option ae}{base:Heap}
theorem p9.binds{x qual:Str}{st:Stmt}{f:Addr}{fd:da}{ps:List Str}(F:p9 K x qual st f fd)
 (h:∀(kV doc pm:ae) (an:Option Addr) (b7 ct:ae) (us:List ae),us.length=ps.length->RV (DC x qual (xV st) (p8 st) (bI st) .none kV doc pm an b7 ct) ⟨us,[]⟩=pure (ps.zip us)):oY K fd ps []:=by
 obtain⟨oc,od,kV,doc,pm,an,b7,ct,pZ,rfl,lk,fq⟩:=F.ex
 exact .all (h kV doc pm an b7 ct)
end
theorem VA{n:Nat}(h:n<=1000):n<cq:=DF h (by decide)
section
variable {X:Cx}
end
def aW(H H':Hp):Prop:=∀b o,H b=some o->H' b=some o
theorem aW.refl(H:Hp):aW H H:=λ_ _ h=>h
theorem aW.trans{H H1 H2:Hp}(a:aW H H1)(b:aW H1 H2):aW H H2:=λc o h=>b c o (a c o h)
theorem aW.free{H H':Hp}(e:aW H H'){l:Addr}(h:H' l=Option.none):H l=Option.none:=by
 cases q:H l with
 | none=>rfl
 | some o =>
   rw[e l o q] at h
   cases h
theorem aW.seq{K:aK}{H H':Hp}{a:Addr}{xs:List V}(e:aW H H')(h:bW K H a xs):bW K H' a xs:=by
 rcases h with (h | ⟨o,h⟩) | h
 ·exact .inl (.inl (e _ _ h))
 ·exact .inl (.inr ⟨o,e _ _ h⟩)
 ·exact .inr h
end L2
namespace L3
open PySem
noncomputable section
inductive Er where
 | Ln | vq | Lo | tooLong | Lp | Lq
 deriving DecidableEq
def Er.nm:Er->Str
 | .Ln=>"NoPrime" | .vq=>"NoNumber" | .Lo=>"NoProgram" | .tooLong=>"TooLong" | .Lp=>"Lossy" | .Lq=>"NoText"
inductive D where
 | bS | bl (b:Bool) | int (i:Int) | str (x:Str) | tup (ds:List D) | lst (ds:List D) | kn | exc (c:Er)
mutual
def D.cK:D->Bool
 | .lst _=>false
 | .kn=>false
 | .tup ds=>D.bQ ds
 | _=>true
def D.bQ:List D->Bool
 | []=>true
 | d::ds=>d.cK&&D.bQ ds
end
theorem VB:D.bQ []=true:=by unfold D.bQ;rfl
theorem Et:∀ds:List D,D.bQ ds=ds.all D.cK
 | []=>by unfold D.bQ;rfl
 | d::ds=>by unfold D.bQ;rw[Et ds];rfl
theorem Bo(i:Int):D.cK (.int i)=true:=by simp[D.cK]
theorem Lr(i:Bool):D.cK (.bl i)=true:=by simp[D.cK]
theorem VC(i:Str):D.cK (.str i)=true:=by simp[D.cK]
theorem VD:D.cK .bS=true:=by simp[D.cK]
theorem Bp(ds:List D):D.cK (.tup ds)=D.bQ ds:=by simp[D.cK]
theorem VE{ds:List D}(h:∀d∈ds,d.cK=true):D.bQ ds=true:=by rw[Et,rj];exact h
theorem VF{ds:List D}(h:D.bQ ds=true){d:D}(hd:d∈ds):d.cK=true:=by rw[Et,rj] at h;exact h d hd
theorem vt{α:Type}{f:α->D}{l:List α}(h:∀x∈l,(f x).cK=true):D.bQ (l.map f)=true:=VE λd hd=>by
 obtain⟨x,hx,rfl⟩:=List.mem_map.mp hd;exact h x hx
theorem ko(ns:List Int):D.bQ (ns.map D.int)=true:=vt λ_ _=>Bo _
theorem Bq(ns:List Int):D.cK (.tup (ns.map D.int))=true:=by rw[Bp];exact ko ns
inductive R (α:Type) where
 | no | ok (a:α) | er (c:Er)
def R.bind{α β:Type}(r:R α)(k:α->R β):R β:=match r with
 | .no=>.no
 | .ok a=>k a
 | .er c=>.er c
instance:Monad R where
 pure:=R.ok
 bind:=R.bind
@[simp] theorem R.VG {α β:Type} (k:α->R β):(R.no>>=k)=R.no:=rfl
@[simp] theorem R.Eu {α β:Type} (a:α) (k:α->R β):(R.ok a>>=k)=k a:=rfl
@[simp] theorem R.VH {α β:Type} (c:Er) (k:α->R β):(R.er c>>=k)=R.er c:=rfl
@[simp] theorem R.a9q {α:Type} (a:α):(pure a:R α)=R.ok a:=rfl
theorem R.left{α β:Type}{r:R α}{k:α->R β}(h:(r>>=k) ≠ .no):r ≠ .no:=λe=>h (by rw[e];rfl)
theorem R.next{α β:Type}{r:R α}{k:α->R β}{a:α}(h:(r>>=k) ≠ .no)(e:r = .ok a):k a ≠ .no:=by
 rw[e] at h;exact h
theorem R.step{α β:Type}{r:R α}{a:α}(e:r = .ok a)(k:α->R β):(r>>=k)=k a:=by rw[e];rfl
theorem R.stop{α β:Type}{r:R α}{c:Er}(e:r = .er c)(k:α->R β):(r>>=k) = .er c:=by rw[e];rfl
def R.guard{α:Type}(p:Prop)(r:R α):R α:=@ite _ p (Classical.propDecidable p) r .no
theorem R.guard_pos{α:Type}{p:Prop}{r:R α}(h:p):R.guard p r=r:=if_pos h
theorem R.dz{α:Type}{p:Prop}{r:R α}(h:R.guard p r ≠ .no):p/\R.guard p r=r:=by
 unfold R.guard at h ⊢
 by_cases q:p
 ·exact⟨q,if_pos q⟩
 ·rw[if_neg q] at h;exact absurd rfl h
theorem VI{α:Type}{r:R α}:R.guard True r=r:=R.guard_pos trivial
theorem e8{α:Type}{p:Prop}{r:R α}(h:p):R.guard p r=r:=R.guard_pos h
inductive En where
 | no | ro (d:D) | own (ds:List D)
abbrev G:=List En
def lk(Γ:G)(i:Nat):R D:=match Γ[i]? with
 | some (.ro d)=>.ok d
 | some (.own ds)=>.ok (.lst ds)
 | _=>.no
def o7(Γ:G)(i:Nat):R D:=match Γ[i]? with
 | some (.ro d)=>.ok d
 | _=>.no
theorem VJ{Γ:G}{i:Nat}(h:lk Γ i ≠ .no):∃d,lk Γ i = .ok d:=by
 cases e:lk Γ i with
 | no=>exact absurd e h
 | ok d=>exact⟨d,rfl⟩
 | er c =>
   unfold lk at e
   cases q:Γ[i]? with
   | none=>rw[q] at e;cases e
   | some en=>rw[q] at e;cases en<;>cases e
theorem VL{Γ:G}{i:Nat}(h:o7 Γ i ≠ .no):∃d,o7 Γ i = .ok d:=by
 cases e:o7 Γ i with
 | no=>exact absurd e h
 | ok d=>exact⟨d,rfl⟩
 | er c =>
   unfold o7 at e
   cases q:Γ[i]? with
   | none=>rw[q] at e;cases e
   | some en=>rw[q] at e;cases en<;>cases e
theorem VM(d:D)(Γ:G):lk (En.ro d::Γ) 0 = .ok d:=rfl
theorem VN(ds:List D)(Γ:G):lk (En.own ds::Γ) 0 = .ok (.lst ds):=rfl
theorem VO(e:En)(Γ:G)(i:Nat):lk (e::Γ) (i+1)=lk Γ i:=rfl
theorem VP(d:D)(Γ:G):o7 (En.ro d::Γ) 0 = .ok d:=rfl
theorem VQ(e:En)(Γ:G)(i:Nat):o7 (e::Γ) (i+1)=o7 Γ i:=rfl
def gV(i:Nat):G->R D:=λΓ=>lk Γ i
def dF(i:Nat):G->R D:=λΓ=>o7 Γ i
def gC(d:D):G->R D:=λ_=>.ok d
def aL(g:G->R D):G->R D:=λΓ=>g Γ>>=λd=>R.guard (d.cK=true) (.ok d)
def gL(g:G->R (List D)):G->R D:=λΓ=>g Γ>>=λds=>.ok (.lst ds)
def au(g:D->D->R D)(ga gb:G->R D):G->R D:=λΓ=>ga Γ>>=λx=>gb Γ>>=λy=>g x y
def vv(d:D):R Bool:=match d with
 | .bl b=>.ok b
 | _=>.no
theorem VR{d:D}(h:vv d ≠ .no):∃b,d = .bl b/\vv d = .ok b:=by
 cases d<;>first | exact⟨_,rfl,rfl⟩ | exact absurd rfl h
theorem VS(b:Bool):vv (.bl b) = .ok b:=rfl
def gT(g:G->R D):G->R Bool:=λΓ=>g Γ>>=vv
def mi(ga gb:G->R Bool):G->R Bool:=λΓ=>ga Γ>>=λk=>if k=true then gb Γ else .ok false
def Ew(ga gb:G->R Bool):G->R Bool:=λΓ=>ga Γ>>=λk=>if k=true then .ok true else gb Γ
def Br(ga:G->R Bool):G->R Bool:=λΓ=>ga Γ>>=λk=>.ok (!k)
def Ls(d:D):R D:=match d with | .int i=>.ok (.int (-i)) | _=>.no
def tD(ga:G->R D):G->R D:=λΓ=>ga Γ>>=Ls
def Ey(gc:G->R Bool)(ga gb:G->R D):G->R D:=λΓ=>gc Γ>>=λk=>if k=true then ga Γ else gb Γ
def aB:G->R (List D):=λ_=>.ok []
def ai(g:G->R D)(gs:G->R (List D)):G->R (List D):=λΓ=>g Γ>>=λd=>gs Γ>>=λds=>.ok (d::ds)
def Ez(ns:List Int):G->R (List D):=λ_=>.ok (ns.map D.int)
def dW(gs:G->R (List D)):G->R D:=λΓ=>gs Γ>>=λds=>R.guard (ds.length<=1000) (.ok (.tup ds))
def gS(gs:G->R (List D)):G->R (List D):=λΓ=>gs Γ>>=λds=>R.guard (ds.length<=1000/\D.bQ ds=true) (.ok ds)
def mj(i:Int):Prop:=-18446744073709551616<i/\i<18446744073709551616
instance (i:Int):Decidable (mj i):=by unfold mj;exact inferInstance
def tE(i j:Int):Prop:=mj i∨mj j
instance (i j:Int):Decidable (tE i j):=by unfold tE;exact inferInstance
def vw(j:Int):Prop:=-4611686018427387904<=j/\j<4611686018427387904
instance (j:Int):Decidable (vw j):=by unfold vw;exact inferInstance
theorem EA{j:Int}(h:-4611686018427387904<=j/\j<4611686018427387904):vw j:=h
theorem vz{j:Int}(h:-18446744073709551616<j/\j<18446744073709551616):mj j:=h
theorem Lu{i j:Int}(h:mj i):tE i j:=.inl h
theorem VT{i j:Int}(h:mj j):tE i j:=.inr h
def cz(x y:D):R D:=match x,y with
 | .int i,.int j=>.ok (.int (i+j))
 | .tup xs,.tup ys=>R.guard (xs.length+ys.length<=1000) (.ok (.tup (xs++ys)))
 | _,_=>.no
def ig(x y:D):R D:=match x,y with
 | .int i,.int j=>.ok (.int (i-j))
 | _,_=>.no
def dX(x y:D):R D:=match x,y with
 | .int i,.int j=>R.guard (tE i j) (.ok (.int (i*j)))
 | .tup xs,.int j=>R.guard (0<=j/\j<1000000/\xs.length*j.toNat<=1000) (.ok (.tup (dI j.toNat xs).flatten))
 | _,_=>.no
def gu(x y:D):R D:=match x,y with
 | .int i,.int j=>R.guard (0<j/\j<1073741824) (.ok (.int (i/j)))
 | _,_=>.no
def dn(x y:D):R D:=match x,y with
 | .int i,.int j=>R.guard (0<j) (.ok (.int (i%j)))
 | _,_=>.no
def EB(x y:D):R D:=match x,y with
 | .int i,.int j=>R.guard (0<=j/\j<=1000000/\i.natAbs<18446744073709551616) (.ok (.int (i^j.toNat)))
 | _,_=>.no
def mq(x y:D):R D:=match x,y with
 | .int i,.int j=>.ok (.bl (decide (i<j)))
 | _,_=>.no
def xW(x y:D):R D:=match x,y with
 | .int i,.int j=>.ok (.bl (decide (i<=j)))
 | _,_=>.no
def rR(x y:D):R D:=match x,y with
 | .int i,.int j=>.ok (.bl (decide (j<i)))
 | _,_=>.no
def Lv(x:Str):Bool:=x.cps.all (·<0x110000)
mutual
def D.lay:Nat->D->Bool
 | n+1,.tup ds=>D.mr n ds
 | n+1,.lst ds=>D.mr n ds
 | 0,.tup _=>false
 | 0,.lst _=>false
 | _,.kn=>false
 | _,.exc _=>false
 | _,.str x=>Lv x
 | _,_=>true
def D.mr:Nat->List D->Bool
 | _,[]=>true
 | n,d::ds=>D.lay n d&&D.mr n ds
end
theorem D.EC(n:Nat):∀ds:List D,D.mr n ds=ds.all (D.lay n)
 | []=>by unfold D.mr;rfl
 | d::ds=>by unfold D.mr;rw[D.EC n ds];rfl
theorem Lw(n:Nat)(i:Int):D.lay n (.int i)=true:=by cases n<;>simp[D.lay]
theorem VU(n:Nat)(i:Bool):D.lay n (.bl i)=true:=by cases n<;>simp[D.lay]
theorem rS(n:Nat)(x:Str):D.lay n (.str x)=Lv x:=by cases n<;>simp[D.lay]
theorem ED(n:Nat)(ds:List D):D.lay (n+1) (.tup ds)=ds.all (D.lay n):=by rw[D.lay,D.EC]
theorem VV(n:Nat)(ds:List D):D.lay (n+1) (.lst ds)=ds.all (D.lay n):=by rw[D.lay,D.EC]
theorem xX(n:Nat)(ns:List Int):D.lay (n+1) (.tup (ns.map D.int))=true:=by
 rw[ED,Jt,rj];intro x _;exact Lw n x
mutual
def bN:D->D->Bool
 | .bS,y=>(match y with | .bS=>true | _=>false)
 | .bl a,y=>(match y with | .bl b=>a==b | .int j=>(if a then 1 else 0)==j | _=>false)
 | .int i,y=>(match y with | .bl b=>i==(if b then 1 else 0) | .int j=>i==j | _=>false)
 | .str x,y=>(match y with | .str z=>x==z | _=>false)
 | .tup xs,y=>(match y with | .tup ys=>kW xs ys | _=>false)
 | .lst xs,y=>(match y with | .lst ys=>kW xs ys | _=>false)
 | .kn,_=>false
 | .exc _,_=>false
def kW:List D->List D->Bool
 | [],[]=>true
 | x::xs,y::ys=>bN x y&&kW xs ys
 | [],_::_=>false
 | _::_,[]=>false
end
theorem VW(i j:Int):bN (.int i) (.int j)=(i==j):=by rw[bN]
theorem VX(i j:Bool):bN (.bl i) (.bl j)=(i==j):=by rw[bN]
theorem z8u(i j:Str):bN (.str i) (.str j)=(i==j):=by rw[bN]
mutual
def D.pl:D->Bool
 | .bl _=>false
 | .kn=>false
 | .exc _=>false
 | .tup ds=>D.mw ds
 | .lst ds=>D.mw ds
 | _=>true
def D.mw:List D->Bool
 | []=>true
 | d::ds=>d.pl&&D.mw ds
end
theorem Lx:∀ds:List D,D.mw ds=ds.all D.pl
 | []=>by unfold D.mw;rfl
 | d::ds=>by unfold D.mw;rw[Lx ds];rfl
theorem VY(i:Int):D.pl (.int i)=true:=by simp[D.pl]
theorem Ly(ds:List D):D.pl (.tup ds)=ds.all D.pl:=by rw[D.pl,Lx]
theorem Lz(ns:List Int):D.pl (.tup (ns.map D.int))=true:=by
 rw[Ly,Jt,rj];intro x _;exact VY x
mutual
theorem Bs:∀(x y:D),x.pl=true->y.pl=true->(bN x y=true↔x=y)
 | .bS,y,_,hy=>by cases y<;>simp_all [bN,D.pl]
 | .bl _,y,hx,hy=>by simp[D.pl] at hx
 | .int i,y,_,hy=>by cases y<;>simp_all [bN,D.pl]
 | .str i,y,_,hy=>by cases y<;>simp_all [bN,D.pl]
 | .kn,y,hx,hy=>by simp[D.pl] at hx
 | .exc _,y,hx,hy=>by simp[D.pl] at hx
 | .tup xs,y,hx,hy=>by
   cases y with
   | tup ys=>rw[bN,EF xs ys (by simpa [D.pl] using hx) (by simpa [D.pl] using hy)];simp
   | _=>simp_all [bN,D.pl]
 | .lst xs,y,hx,hy=>by
   cases y with
   | lst ys=>rw[bN,EF xs ys (by simpa [D.pl] using hx) (by simpa [D.pl] using hy)];simp
   | _=>simp_all [bN,D.pl]
theorem EF:∀(xs ys:List D),D.mw xs=true->D.mw ys=true->(kW xs ys=true↔xs=ys)
 | [],[],_,_=>by simp[kW]
 | [],y::ys,_,_=>by simp[kW]
 | x::xs,[],_,_=>by simp[kW]
 | x::xs,y::ys,hx,hy=>by
   have o8:x.pl=true/\D.mw xs=true:=by simpa [D.mw] using hx
   have LA:y.pl=true/\D.mw ys=true:=by simpa [D.mw] using hy
   rw[kW,gN,Bs x y o8.1 LA.1,EF xs ys o8.2 LA.2];simp
end
theorem EG{x:D}(h:x.pl=true):bN x x=true:=(Bs x x h h).mpr rfl
theorem LB{x y:D}(hx:x.pl=true)(hy:y.pl=true){p:Prop}[Decidable p](h:x=y↔p):bN x y=decide p:=by
 by_cases q:p
 ·rw[decide_eq_true q];exact(Bs x y hx hy).mpr (h.mpr q)
 ·rw[decide_eq_false q]
  cases e:bN x y with
  | false=>rfl
  | true=>exact absurd (h.mp ((Bs x y hx hy).mp e)) q
def dJ(x y:D):R D:=R.guard (D.lay 40 x=true/\D.lay 40 y=true) (.ok (.bl (bN x y)))
def ij(x y:D):R D:=R.guard (D.lay 40 x=true/\D.lay 40 y=true) (.ok (.bl (!bN x y)))
def i6(n:Nat)(i:Int):Option Nat:=if 0<=i then (if i<n then some i.toNat else none) else if -(n:Int)<=i then some (i+n).toNat else none
def cu{α:Type}(xs:List α)(i:Int):Option α:=(i6 xs.length i).bind λj=>xs[j]?
theorem jK{α:Type}{ds:List α}(i:Nat):cu ds (i:Int)=ds[i]?:=by
 unfold cu i6
 rw[if_pos (by lia)]
 by_cases h:(i:Int)<ds.length
 ·rw[if_pos h];simp
 ·rw[if_neg h]
  have:ds.length<=i:=by lia
  rw[eY this];rfl
theorem LC{α:Type}{ds:List α}{i:Int}(h:0<=i):cu ds i=ds[i.toNat]?:=by
 obtain⟨n,rfl⟩:∃n:Nat,i=(n:Int):=⟨i.toNat,by lia⟩
 rw[jK];rfl
theorem LD{α:Type}{ds:List α}{i:Int}(h:i<0)(h2:-(ds.length:Int)<=i):cu ds i=ds[(i+ds.length).toNat]?:=by
 unfold cu i6
 rw[if_neg (by lia),if_pos h2];rfl
theorem VZ{α:Type}(a:α)(ds:List α):cu (a::ds) 0=some a:=jK 0
theorem V0{α:Type}(a b:α)(ds:List α):cu (a::b::ds) 1=some b:=jK 1
theorem V1{α:Type}(a b c:α)(ds:List α):cu (a::b::c::ds) 2=some c:=jK 2
theorem V2{α:Type}(a b c d:α)(ds:List α):cu (a::b::c::d::ds) 3=some d:=jK 3
def aX(x y:D):R D:=match x,y with
 | .tup ds,.int i=>(match cu ds i with | some d=>.ok d | none=>.no)
 | .lst ds,.int i=>(match cu ds i with | some d=>.ok d | none=>.no)
 | _,_=>.no
def bC(n d:Nat):Option Int->Nat
 | none=>d
 | some v=>if v<0 then (v+(n:Int)).toNat else min v.toNat n
theorem LF(n d:Nat):bC n d none=d:=rfl
theorem LG(n d k:Nat):bC n d (some (k:Int))=min k n:=by
 show(if (k:Int)<0 then ((k:Int)+(n:Int)).toNat else min (k:Int).toNat n)=min k n
 rw[if_neg (by lia),rk]
def iM{α:Type}(xs:List α)(lo hi:Option Int):List α:=(xs.drop (bC xs.length 0 lo)).take (bC xs.length xs.length hi-bC xs.length 0 lo)
def kX:G->R (Option Int):=λ_=>.ok none
def LH(d:D):R (Option Int):=match d with | .int i=>.ok (some i) | _=>.no
def jL(g:G->R D):G->R (Option Int):=λΓ=>g Γ>>=LH
def Bt(d:D)(lo hi:Option Int):R D:=match d with
 | .tup xs=>.ok (.tup (iM xs lo hi))
 | .lst xs=>.ok (.lst (iM xs lo hi))
 | _=>.no
def kq(ga:G->R D)(lo hi:G->R (Option Int)):G->R D:=λΓ=>ga Γ>>=λd=>lo Γ>>=λl=>hi Γ>>=λh=>Bt d l h
theorem V3{α β:Type}(f:α->β)(xs:List α)(lo hi:Option Int):iM (xs.map f) lo hi=(iM xs lo hi).map f:=by
 unfold iM;rw[bD,w8,w9]
theorem xY{α:Type}(xs:List α)(k:Nat):iM xs (some (k:Int)) none=xs.drop k:=by
 unfold iM
 rw[LF,LG]
 by_cases h:k<=xs.length
 ·rw[Se h,AE (by rw[rf];lia)]
 ·rw[a5z (by lia),AF,List.drop_of_length_le (by lia)];simp
theorem xZ{α:Type}(xs:List α)(k:Nat):iM xs none (some (k:Int))=xs.take k:=by
 unfold iM
 rw[LF,LG,DG,w_]
 by_cases h:k<=xs.length
 ·rw[Se h]
 ·rw[a5z (by lia),xc,AE (by lia)]
inductive Cl where
 | Ln | vq | Lo | tooLong | Lp | Lq | a9r | a9s
def aI(g:List D->R D)(gs:G->R (List D)):G->R D:=λΓ=>gs Γ>>=g
def i7(ds:List D):R D:=match ds with
 | [.tup xs]=>.ok (.int xs.length)
 | [.lst xs]=>.ok (.int xs.length)
 | _=>.no
def ik(ds:List D):R D:=match ds with
 | [.tup xs]=>.ok (.tup xs)
 | [.lst xs]=>.ok (.tup xs)
 | _=>.no
def x_(ds:List D):R D:=match ds with
 | [.int i,.int j]=>.ok (.int (if j<i then j else i))
 | _=>.no
def gv:List D->Option (List Int)
 | []=>some []
 | .int i::ds=>(gv ds).map (i::·)
 | _::_=>none
theorem vA:∀{ds:List D} {ns:List Int},gv ds=some ns->ds=ns.map D.int
 | [],ns,h=>by unfold gv at h;cases h;rfl
 | d::ds,ns,h=>by
   cases d with
   | int i =>
     unfold gv at h
     cases q:gv ds with
     | none=>rw[q] at h;cases h
     | some ms=>rw[q] at h;cases h;rw[vA q];rfl
   | _=>unfold gv at h;cases h
theorem tF:∀ns:List Int,gv (ns.map D.int)=some ns
 | []=>rfl
 | n::ns=>by show(gv (ns.map D.int)).map (n::·)=_;rw[tF ns];rfl
def o9:List D->Option (List Bool)
 | []=>some []
 | .bl i::ds=>(o9 ds).map (i::·)
 | _::_=>none
theorem LI:∀{ds:List D} {ns:List Bool},o9 ds=some ns->ds=ns.map D.bl
 | [],ns,h=>by unfold o9 at h;cases h;rfl
 | d::ds,ns,h=>by
   cases d with
   | bl i =>
     unfold o9 at h
     cases q:o9 ds with
     | none=>rw[q] at h;cases h
     | some ms=>rw[q] at h;cases h;rw[LI q];rfl
   | _=>unfold o9 at h;cases h
theorem EH:∀ns:List Bool,o9 (ns.map D.bl)=some ns
 | []=>rfl
 | n::ns=>by show(o9 (ns.map D.bl)).map (n::·)=_;rw[EH ns];rfl
def nH(ds:List D):R D:=match ds with
 | [.lst xs]=>(match gv xs with | some ns=>.ok (.int ns.sum) | none=>.no)
 | _=>.no
theorem V4(ns:List Int):nH [.lst (ns.map D.int)] = .ok (.int ns.sum):=by simp only[nH,tF]
def p_(ds:List D):R D:=match ds with
 | [.lst xs]=>(match o9 xs with | some bs=>.ok (.bl (bs.any (λb=>b))) | none=>.no)
 | _=>.no
theorem V5(ns:List Bool):p_ [.lst (ns.map D.bl)] = .ok (.bl (ns.any λb=>b)):=by simp only[p_,EH]
def fT(φ:List D->R D):List D->R D:=λds=>match φ ds with
 | .ok d=>.ok d
 | _=>.no
theorem LJ{φ:List D->R D}{ds:List D}(h:fT φ ds ≠ .no):∃d,φ ds = .ok d/\fT φ ds = .ok d:=by
 unfold fT at h ⊢
 cases q:φ ds with
 | ok d=>exact⟨d,rfl,rfl⟩
 | no=>rw[q] at h;exact absurd rfl h
 | er c=>rw[q] at h;exact absurd rfl h
def gU(φ:List D->R (List D))(gs:G->R (List D)):G->R (List D):=λΓ=>gs Γ>>=λds=>φ ds>>=λes=>R.guard (D.bQ es=true) (.ok es)
def LK(d:D):R (List D):=match d with
 | .tup ds=>R.guard (D.bQ ds=true) (.ok ds)
 | .lst ds=>R.guard (D.bQ ds=true) (.ok ds)
 | _=>.no
def nJ(g:G->R D):G->R (List D):=λΓ=>g Γ>>=LK
def Bu(ga gb:G->R (List D)):G->R (List D):=λΓ=>ga Γ>>=λx=>gb Γ>>=λy=>R.guard (x.length+y.length<=1000) (.ok (x++y))
def LL(x y:D):R (List D):=match x,y with
 | .lst xs,.lst ys=>R.guard (xs.length+ys.length<=1000/\D.bQ (xs++ys)=true) (.ok (xs++ys))
 | _,_=>.no
def ya(ga gb:G->R D):G->R (List D):=λΓ=>ga Γ>>=λx=>gb Γ>>=λy=>LL x y
def D.ty:D->String
 | .bS=>"NoneType"
 | .bl _=>"bool"
 | .int _=>"int"
 | .str _=>"str"
 | .tup _=>"tuple"
 | .lst _=>"list"
 | .kn=>"dict"
 | .exc _=>""
def mx(d:D):R (List D):=match d with
 | .tup ds=>.ok ds
 | .lst ds=>.ok ds
 | _=>.no
def my(g:G->R D):G->R (List D):=λΓ=>g Γ>>=mx
def kY(g:G->R D):G->R (List D):=λΓ=>g Γ>>=λd=>mx d>>=λds=>R.guard (D.bQ ds=true) (.ok ds)
def gx(lo:Int)(n:Nat):List D:=(bL n).map λ(i:Nat)=>D.int (lo+(i:Int))
theorem o_(lo:Int)(n:Nat):(gx lo n).length=n:=by unfold gx;simp
theorem EI(lo:Int)(n i:Nat)(h:i<n):(gx lo n)[i]? = some (.int (lo+(i:Int))):=by unfold gx;simp[h]
theorem V6(lo:Int):gx lo 0=[]:=rfl
def kZ(lo:Int)(step:Int)(n:Nat):List D:=(bL n).map λ(i:Nat)=>D.int (lo+step*(i:Int))
def ku(lo hi step:Int):Nat:=((hi-lo+step-1)/step).toNat
def jN(g:G->R D):G->R (List D):=λΓ=>g Γ>>=λd=>match d with
 | .int j=>R.guard (vw j) (.ok (gx 0 j.toNat))
 | _=>.no
def yb(ga gb:G->R D):G->R (List D):=λΓ=>ga Γ>>=λd=>gb Γ>>=λd'=>match d,d' with
 | .int i,.int j=>R.guard (vw i/\vw j) (.ok (gx i (j-i).toNat))
 | _,_=>.no
def EJ(ga gb gc:G->R D):G->R (List D):=λΓ=>ga Γ>>=λd=>gb Γ>>=λd'=>gc Γ>>=λV7=>match d,d',V7 with
 | .int i,.int j,.int k=>R.guard ((-1073741824<=i/\i<1073741824)/\(-1073741824<=j/\j<1073741824)/\0<k/\k<1073741824) (.ok (kZ i k (ku i j k)))
 | _,_,_=>.no
def cj(f:D->R (Option D)):List D->List D->R (List D)
 | [],acc=>.ok acc
 | d::r,acc=>match f d with
   | .ok (some e)=>cj f r (acc++[e])
   | .ok none=>cj f r acc
   | _=>.no
theorem V8(f:D->R (Option D))(acc:List D):cj f [] acc = .ok acc:=rfl
theorem EK(f:D->R (Option D))(d:D)(r acc:List D):cj f (d::r) acc=match f d with
 | .ok (some e)=>cj f r (acc++[e])
 | .ok none=>cj f r acc
 | _=>.no:=rfl
theorem tG{f:D->R (Option D)}:∀{ds acc:List D},cj f ds acc ≠ .no->∃es,cj f ds acc = .ok es
 | [],acc,_=>⟨acc,rfl⟩
 | d::r,acc,h=>by
   unfold cj at h ⊢
   cases q:f d with
   | no=>rw[q] at h;exact absurd rfl h
   | er c=>rw[q] at h;exact absurd rfl h
   | ok o =>
     rw[q] at h
     cases o with
     | none=>exact tG h
     | some e=>exact tG h
theorem mz{α:Type}{f:D->R (Option D)}{k h:α->D}{l:List α}(q:∀x∈l,f (k x) = .ok (some (h x))):cj f (l.map k) [] = .ok (l.map h):=by
 suffices H:∀(l:List α) (acc:List D),(∀x∈l,f (k x) = .ok (some (h x)))->cj f (l.map k) acc = .ok (acc++l.map h) by
  have:=H l [] q;simpa using this
 intro l
 induction l with
 | nil=>intro acc _;simp[cj]
 | cons x l ih =>
   intro acc q
   rw[cN,EK,q x bV]
   simp only
   rw[ih _ λy hy=>q y (bY _ hy)]
   simp
theorem LM{α:Type}{f:D->R (Option D)}{k:α->D}{h:α->Option D}{l:List α}(q:∀x∈l,f (k x) = .ok (h x)):cj f (l.map k) [] = .ok (l.filterMap h):=by
 suffices H:∀(l:List α) (acc:List D),(∀x∈l,f (k x) = .ok (h x))->cj f (l.map k) acc = .ok (acc++l.filterMap h) by
  have:=H l [] q;simpa using this
 intro l
 induction l with
 | nil=>intro acc _;simp[cj]
 | cons x l ih =>
   intro acc q
   rw[cN,EK,q x bV]
   cases e:h x with
   | none=>simp only;rw[ih _ λy hy=>q y (bY _ hy)];simp[e]
   | some z=>simp only;rw[ih _ λy hy=>q y (bY _ hy)];simp[e]
theorem rT{f:D->R (Option D)}{lo:Int}{n:Nat}{h:Nat->D}(q:∀i,i<n->f (.int (lo+(i:Int))) = .ok (some (h i))):cj f (gx lo n) [] = .ok ((bL n).map h) :=
 mz (k:=λ(i:Nat)=>D.int (lo+(i:Int))) λi hi=>q i (List.mem_range.mp hi)
def fK(ge:G->R D):D->G->R (Option D):=λd Γ=>ge (.ro d::Γ)>>=λe=>.ok (some e)
def pa(gc:G->R Bool)(ge:G->R D):D->G->R (Option D):=λd Γ=>gc (.ro d::Γ)>>=λk=>if k=true then ge (.ro d::Γ)>>=λe=>.ok (some e) else .ok none
def dM(gi:G->R (List D))(f:D->G->R (Option D)):G->R (List D):=λΓ=>gi Γ>>=λitems=>R.guard (items.length<=100000) (cj (λd=>f d Γ) items [])
inductive Fl where
 | nx (Γ:G) | rt (d:D) | fu (ds:List D) | bk (Γ:G) | ct (Γ:G) | ex (c:Er) (Γ:G)
def lift{α:Type}(r:R α)(Γ:G)(k:α->R Fl):R Fl:=match r with
 | .no=>.no
 | .er c=>.ok (.ex c Γ)
 | .ok a=>k a
theorem jO{α:Type}{r:R α}{Γ:G}{k:α->R Fl}(h:lift r Γ k ≠ .no):r ≠ .no:=λe=>h (by rw[e];rfl)
theorem jP{α:Type}{r:R α}{Γ:G}{k:α->R Fl}{a:α}(e:r = .ok a):lift r Γ k=k a:=by rw[e];rfl
theorem Bv{α:Type}{r:R α}{Γ:G}{k:α->R Fl}{a:α}(h:lift r Γ k ≠ .no)(e:r = .ok a):k a ≠ .no:=by rw[e] at h;exact h
theorem vB{α:Type}(a:α)(Γ:G)(k:α->R Fl):lift (.ok a) Γ k=k a:=rfl
theorem V9{α:Type}(c:Er)(Γ:G)(k:α->R Fl):lift (.er c:R α) Γ k = .ok (.ex c Γ):=rfl
def iK(i:Nat)(Γ:G):G:=match Γ[i]? with
 | some (.own ds)=>Γ.set i (.ro (.lst ds))
 | _=>Γ
def c5:G->R Fl:=λΓ=>.ok (.nx Γ)
def aG(t u:G->R Fl):G->R Fl:=λΓ=>t Γ>>=λr=>match r with
 | .nx Γ'=>u Γ'
 | r=>.ok r
def qc(g:G->R (List D)):G->R Fl:=λΓ=>lift (g Γ) Γ λds=>.ok (.fu ds)
def pb(i:Nat):G->R Fl:=λΓ=>match Γ[i]? with
 | some (.own ds)=>.ok (.fu ds)
 | _=>.no
def Bw(c:Er):G->R Fl:=λΓ=>.ok (.ex c Γ)
def bu(g:G->R D):G->R Fl:=λΓ=>lift (g Γ) Γ λd=>.ok (.rt d)
def cF(gc:G->R Bool)(t u:G->R Fl):G->R Fl:=λΓ=>lift (gc Γ) Γ λk=>if k=true then t Γ else u Γ
def aV(i:Nat)(g:G->R D):G->R Fl:=λΓ=>lift (g Γ) Γ λd=>.ok (.nx (Γ.set i (.ro d)))
def c6(i:Nat)(g:G->R (List D)):G->R Fl:=λΓ=>lift (g Γ) Γ λds=>.ok (.nx (Γ.set i (.own ds)))
def gd(i:Nat)(g:G->R D):G->R Fl:=λΓ=>match Γ[i]? with
 | some (.own ds)=>lift (g Γ) Γ λd=>R.guard (ds.length<=100000) (.ok (.nx (Γ.set i (.own (ds++[d])))))
 | _=>.no
def qd(i:Nat)(gi g:G->R D):G->R Fl:=λΓ=>match Γ[i]? with
 | some (.own ds)=>lift (g Γ) Γ λd=>lift (gi Γ) Γ λk=>(match k with
   | .int j=>(match i6 ds.length j with | some j'=>.ok (.nx (Γ.set i (.own (ds.set j' d)))) | none=>.no)
   | _=>.no)
 | _=>.no
def dA(gb:G->R Fl)(i:Nat):List D->G->R Fl
 | [],Γ=>.ok (.nx Γ)
 | d::r,Γ=>match gb (Γ.set i (.ro d)) with
   | .ok (.nx Γ')=>dA gb i r Γ'
   | .ok (.ct Γ')=>dA gb i r Γ'
   | .ok (.bk Γ')=>.ok (.nx Γ')
   | .ok (.rt d)=>.ok (.rt d)
   | .ok (.fu d)=>.ok (.fu d)
   | .ok (.ex c Γ')=>.ok (.ex c Γ')
   | _=>.no
def fL(i:Nat)(gi:G->R (List D))(gb:G->R Fl):G->R Fl:=λΓ=>lift (gi Γ) Γ λds=>dA gb i ds Γ
def df(gc:G->R Bool)(gb:G->R Fl):Nat->G->R Fl
 | 0,_=>.no
 | n+1,Γ=>lift (gc Γ) Γ λk=>if k=true then (match gb Γ with
    | .ok (.nx Γ')=>df gc gb n Γ'
    | .ok (.ct Γ')=>df gc gb n Γ'
    | .ok (.bk Γ')=>.ok (.nx Γ')
    | .ok (.rt d)=>.ok (.rt d)
    | .ok (.fu d)=>.ok (.fu d)
    | .ok (.ex c Γ')=>.ok (.ex c Γ')
    | _=>.no) else .ok (.nx Γ)
theorem V_(gb:G->R Fl)(i:Nat)(Γ:G):dA gb i [] Γ = .ok (.nx Γ):=rfl
theorem Bx(gb:G->R Fl)(i:Nat)(d:D)(ds:List D)(Γ:G):dA gb i (d::ds) Γ=match gb (Γ.set i (.ro d)) with
 | .ok (.nx Γ')=>dA gb i ds Γ'
 | .ok (.ct Γ')=>dA gb i ds Γ'
 | .ok (.bk Γ')=>.ok (.nx Γ')
 | .ok (.rt d)=>.ok (.rt d)
 | .ok (.fu d)=>.ok (.fu d)
 | .ok (.ex c Γ')=>.ok (.ex c Γ')
 | _=>.no:=rfl
theorem vC{gb:G->R Fl}{i:Nat}(I:Nat->G->Prop):∀(ds:List D) (k:Nat) (Γ:G),I k Γ ->
 (∀(j:Nat) (d:D) (Γ:G),ds[j]? = some d->I (k+j) Γ->∃Γ',(gb (Γ.set i (.ro d)) = .ok (.nx Γ')∨gb (Γ.set i (.ro d)) = .ok (.ct Γ'))/\I (k+j+1) Γ') ->
 ∃Γ',dA gb i ds Γ = .ok (.nx Γ')/\I (k+ds.length) Γ'
 | [],k,Γ,h,_=>⟨Γ,rfl,h⟩
 | d::ds,k,Γ,h,q=>by
   obtain⟨mB,e1,h1⟩:=q 0 d Γ rfl h
   obtain⟨Wa,e2,h2⟩:=vC I ds (k+1) mB h1 λj d' Γ' hd hI=>by
    have:=q (j+1) d' Γ' (by simpa using hd) (by rw[show k+(j+1)=k+1+j by lia];exact hI)
    rw[show k+(j+1)=k+1+j by lia] at this
    exact this
   refine⟨Wa,?_,by rw[dE,show k+(ds.length+1)=k+1+ds.length by lia];exact h2⟩
   rw[Bx]
   rcases e1 with e1 | e1<;>rw[e1]<;>exact e2
theorem Wc{gb:G->R Fl}{i:Nat}(S:Nat->G)(ds:List D)(q:∀(j:Nat) (d:D),ds[j]? = some d->gb ((S j).set i (.ro d)) = .ok (.nx (S (j+1)))):dA gb i ds (S 0) = .ok (.nx (S ds.length)):=by
 obtain⟨Γ',e,h⟩:=vC (gb:=gb) (i:=i) (λk Γ=>Γ=S k) ds 0 (S 0) rfl λj d Γ hd hI=>by
  rw[gO] at hI ⊢
  subst hI
  exact⟨_,.inl (q j d hd),rfl⟩
 rw[gO] at h
 rw[e,h]
theorem Wd{gb:G->R Fl}{i:Nat}{Γ:G}(S:Nat->G){ds:List D}(h0:Γ=S 0)(q:∀(j:Nat) (d:D),ds[j]? = some d->gb ((S j).set i (.ro d)) = .ok (.nx (S (j+1)))):dA gb i ds Γ = .ok (.nx (S ds.length)):=by
 rw[h0];exact Wc S ds q
theorem We{gb:G->R Fl}{i:Nat}{Γ:G}(S:Nat->G){lo:Int}{n:Nat}(h0:Γ=S 0)(q:∀(j:Nat),j<n->gb ((S j).set i (.ro (.int (lo+(j:Int))))) = .ok (.nx (S (j+1)))):dA gb i (gx lo n) Γ = .ok (.nx (S n)):=by
 rw[Wd S h0,o_]
 intro j d hd
 have hj:j<n:=by
  have:=(List.getElem?_eq_some_iff.mp hd).1
  rw[o_] at this;exact this
 rw[EI lo _ _ hj] at hd
 cases hd
 exact q j hj
theorem Wf(gc:G->R Bool)(gb:G->R Fl)(n:Nat)(Γ:G):df gc gb (n+1) Γ=lift (gc Γ) Γ λk=>if k=true then (match gb Γ with
 | .ok (.nx Γ')=>df gc gb n Γ'
 | .ok (.ct Γ')=>df gc gb n Γ'
 | .ok (.bk Γ')=>.ok (.nx Γ')
 | .ok (.rt d)=>.ok (.rt d)
 | .ok (.fu d)=>.ok (.fu d)
 | .ok (.ex c Γ')=>.ok (.ex c Γ')
 | _=>.no) else .ok (.nx Γ):=rfl
theorem nK{gc:G->R Bool}{gb:G->R Fl}(I:Nat->G->Prop)(Q:R Fl->Prop)(q:∀m Γ,I m Γ->(gc Γ = .ok false/\Q (.ok (.nx Γ)))∨(gc Γ = .ok true /\
 ((∃Γ' m',m'<m/\(gb Γ = .ok (.nx Γ')∨gb Γ = .ok (.ct Γ'))/\I m' Γ')∨(∃Γ',gb Γ = .ok (.bk Γ')/\Q (.ok (.nx Γ')))∨(∃d,gb Γ = .ok (.rt d)/\Q (.ok (.rt d)))∨(∃d,gb Γ = .ok (.fu d)/\Q (.ok (.fu d)))∨(∃c Γ',gb Γ = .ok (.ex c Γ')/\Q (.ok (.ex c Γ')))))) :
 ∀(n m:Nat) (Γ:G),m<n->I m Γ->Q (df gc gb n Γ)
 | 0,m,Γ,h,_=>absurd h (rm _)
 | n+1,m,Γ,h,hI=>by
   rw[Wf]
   rcases q m Γ hI with ⟨e,hq⟩ | ⟨e,h2⟩
   ·rw[e,vB,if_neg oN];exact hq
   ·rw[e,vB,if_pos rfl]
    rcases h2 with ⟨Γ',m',hm,e',h'⟩ | ⟨Γ',e',h'⟩ | ⟨d,e',h'⟩ | ⟨d,e',h'⟩ | ⟨c,Γ',e',h'⟩
    ·rcases e' with e' | e'<;>rw[e']<;>exact nK I Q q n m' Γ' (by lia) h'
    ·rw[e'];exact h'
    ·rw[e'];exact h'
    ·rw[e'];exact h'
    ·rw[e'];exact h'
def gy(n:Nat)(ds:List D):G:=ds.map En.ro++dI (n-ds.length) En.no
def fin(r:R Fl):R D:=match r with
 | .ok (.rt d)=>.ok d
 | .ok (.nx _)=>.ok .bS
 | .ok (.ex c _)=>.er c
 | _=>.no
def By(r:R Fl):R (List D):=match r with
 | .ok (.fu d)=>.ok d
 | .ok (.ex c _)=>.er c
 | _=>.no
def b6(p n:Nat)(g:G->R Fl):List D->R D:=λds=>if ds.length=p then fin (g (gy n ds)) else .no
theorem rU{p n:Nat}{g:G->R Fl}{ds:List D}(h:b6 p n g ds ≠ .no):ds.length=p:=by
 unfold b6 at h
 by_cases q:ds.length=p
 ·exact q
 ·rw[if_neg q] at h;exact absurd rfl h
theorem vD{p n:Nat}{g:G->R Fl}{ds:List D}(h:ds.length=p):b6 p n g ds=fin (g (gy n ds)):=if_pos h
def jq(p n:Nat)(g:G->R Fl):List D->R (List D):=λds=>if ds.length=p then By (g (gy n ds)) else .no
theorem LN{p n:Nat}{g:G->R Fl}{ds:List D}(h:jq p n g ds ≠ .no):ds.length=p:=by
 unfold jq at h
 by_cases q:ds.length=p
 ·exact q
 ·rw[if_neg q] at h;exact absurd rfl h
theorem LO{p n:Nat}{g:G->R Fl}{ds:List D}(h:ds.length=p):jq p n g ds=By (g (gy n ds)):=if_pos h
theorem Wg:((0:Nat):Int)=0:=rfl
theorem Wh:((1:Nat):Int)=1:=rfl
theorem Wi:((2:Nat):Int)=2:=rfl
theorem Wj:((3:Nat):Int)=3:=rfl
theorem Wk:((4:Nat):Int)=4:=rfl
end
def kv:List Int->Int
 | []=>0
 | [a]=>a
 | a::b::r=>if kv (b::r)>a then kv (b::r) else a
theorem LP:∀{ns:List Int},ns≠[]->kv ns∈ns
 | [a],_=>by simp[kv]
 | a::b::r,_=>by
   have ih:=LP (ns:=b::r) (by simp)
   unfold kv
   split
   ·exact bY _ ih
   ·exact bV
theorem LQ:∀{ns:List Int} {a:Int},a∈ns->a<=kv ns
 | [b],a,h=>by simp only[xg] at h;subst h;exact AG _
 | b::c::r,a,h=>by
   unfold kv
   rcases List.mem_cons.mp h with rfl | h
   ·split<;>lia
   ·have:=LQ h
    split<;>lia
theorem LR{ns:List Int}{m:Int}(h:m∈ns)(g:∀a∈ns,a<=m):m=kv ns:=Int.le_antisymm (LQ h) (g _ (LP λz=>by rw[z] at h;cases h))
def vE(ds:List D):R D:=match ds with
 | [.lst xs]=>(match gv xs with | some (n::ns)=>.ok (.int (kv (n::ns))) | _=>.no)
 | [.int i,.int j]=>.ok (.int (if j>i then j else i))
 | _=>.no
theorem z6e(n:Int)(ns:List Int):vE [.lst (D.int n::ns.map D.int)] = .ok (.int (kv (n::ns))):=by
 have h:=tF (n::ns)
 rw[cN] at h
 simp only[vE,h]
def yc:Nat:=10^1200
def yd(i j:Int):Prop:=i.natAbs<yc/\j.natAbs<yc
instance (i j:Int):Decidable (yd i j):=by unfold yd;exact inferInstance
theorem LS{n:Nat}(h:n<=10^300):n<yc:=DF h (Nat.pow_lt_pow_right (by decide) (by decide))
noncomputable def y4v(x y:D):R D:=match x,y with
 | .int i,.int j=>R.guard (yd i j) (.ok (.int (i*j)))
 | _,_=>.no
def D.isNon:D->Bool
 | .bS=>true
 | _=>false
def y7d(x y:D):R D:=match y with
 | .bS=>.ok (.bl (!x.isNon))
 | _=>.no
def ye(n:Int):Nat:=if n==0 then 0 else n.natAbs.log2+1
def y7e(d:D):R D:=match d with
 | .int n=>.ok (.int (ye n))
 | _=>.no
noncomputable def y4u(ga:G->R D):G->R D:=λΓ=>ga Γ>>=y7e
noncomputable def EL(x y:D):R D:=match x,y with
 | .int i,.int j=>R.guard (0<=i/\0<=j) (.ok (.int (i/2^j.toNat)))
 | _,_=>.no
noncomputable def y0w(ge:G->R D):D->D->G->R (Option D):=λd d2 Γ=>ge (.ro d :: .ro d2::Γ)>>=λe=>.ok (some e)
noncomputable def vF(gc:G->R Bool)(ge:G->R D):D->D->G->R (Option D):=λd d2 Γ=>gc (.ro d :: .ro d2::Γ)>>=λk=>if k=true then ge (.ro d :: .ro d2::Γ)>>=λe=>.ok (some e) else .ok none
def z8z(f:D->D->G->R (Option D))(Γ:G)(d:D):R (Option D):=match d with
 | .tup [a,b]=>f a b Γ
 | _=>.no
noncomputable def z6d(gi:G->R (List D))(f:D->D->G->R (Option D)):G->R (List D):=λΓ=>gi Γ>>=λitems=>R.guard (items.length<=100000) (cj (z8z f Γ) items [])
def iN:List D->List D->List D
 | x::xs,y::ys=>.tup [x,y]::iN xs ys
 | _,_=>[]
noncomputable def gZip(ga gb:G->R D):G->R (List D):=λΓ=>ga Γ>>=λa=>gb Γ>>=λb=>mx a>>=λxs=>mx b>>=λys=>R.guard (D.bQ xs=true/\D.bQ ys=true) (.ok (iN xs ys))
def gD(gb:G->R Fl)(i j:Nat):List D->G->R Fl
 | [],Γ=>.ok (.nx Γ)
 | .tup [a,b]::ds,Γ=>match gb ((Γ.set i (.ro a)).set j (.ro b)) with
   | .ok (.nx Γ')=>gD gb i j ds Γ'
   | .ok (.ct Γ')=>gD gb i j ds Γ'
   | .ok (.bk Γ')=>.ok (.nx Γ')
   | .ok (.rt d)=>.ok (.rt d)
   | .ok (.fu d)=>.ok (.fu d)
   | .ok (.ex c Γ')=>.ok (.ex c Γ')
   | _=>.no
 | _::_,_=>.no
def vG(i j:Nat)(gs:G->R (List D))(gb:G->R Fl):G->R Fl:=λΓ=>lift (gs Γ) Γ λds=>gD gb i j ds Γ
def dY:Nat->List D->List D
 | _,[]=>[]
 | k,x::xs=>.tup [.int k,x]::dY (k+1) xs
noncomputable def y4d(ga:G->R D):G->R (List D):=λΓ=>ga Γ>>=λa=>match a with
 | .lst xs=>R.guard (D.bQ xs=true) (.ok (dY 0 xs))
 | _=>.no
def y8x(ga:G->R D):G->R Bool:=λΓ=>ga Γ>>=λd=>match d with
 | .lst ds=>.ok (!ds.isEmpty)
 | _=>.no
def tH(ds:List D):R D:=match ds with
 | [.tup xs]=>(match gv xs with | some ns=>.ok (.bl (ns.any (λn=>n != 0))) | none=>.no)
 | _=>.no
theorem z8d(ns:List Int):tH [.tup (ns.map D.int)] = .ok (.bl (ns.any (λn=>n != 0))):=by simp only[tH,tF]
def vH(i:Nat)(Γ:G):G:=match Γ[i]? with
 | some (.own ds)=>Γ.set i (.ro (.lst ds))
 | _=>Γ
def yf(i:Nat)(g:G->R Fl):G->R Fl:=λΓ=>g (vH i Γ)
noncomputable def z8a(φ:List D->R D)(gs:G->R (List D)):G->R D:=λΓ=>gs Γ>>=λds=>match φ ds with | .ok d=>.ok d | _=>.no
def tI(ds:List D):R D:=match ds with
 | [.tup ys]=>(match gv ys with | some ns=>.ok (.int ns.sum) | none=>.no)
 | _=>.no
theorem y9d(ns:List Int):tI [.tup (ns.map D.int)] = .ok (.int ns.sum):=by simp only[tI,tF]
noncomputable def tJ(i:Nat)(gs:G->R (List D)):G->R Fl:=λΓ=>match Γ[i]? with
 | some (.own ds)=>lift (gs Γ) Γ λes=>R.guard (ds.length+es.length<=100000) (.ok (.nx (Γ.set i (.own (ds++es)))))
 | _=>.no
theorem Wl{i:Nat}{gs:G->R (List D)}{Γ:G}{ds es:List D}(hi:Γ[i]? = some (.own ds))(h:gs Γ = .ok es)(hl:ds.length+es.length<=100000):tJ i gs Γ = .ok (.nx (Γ.set i (.own (ds++es)))):=by
 unfold tJ;rw[hi]
 show lift (gs Γ) Γ _=_
 rw[h,vB,e8 hl]
def nM(x:Int):List Int->List Int
 | []=>[x]
 | y::l=>if x<y then x::y::l else if x=y then y::l else y::nM x l
def fw:List Int->List Int
 | []=>[]
 | x::l=>nM x (fw l)
theorem EM{x z:Int}:∀{l:List Int},z∈nM x l↔z=x∨z∈l
 | []=>by simp[nM]
 | y::l=>by
   unfold nM
   by_cases h:x<y
   ·rw[if_pos h];simp
   ·rw[if_neg h]
    by_cases e:x=y
    ·rw[if_pos e];subst e;simp
    ·rw[if_neg e]
     simp only[fh,EM (l:=l)]
     constructor
     ·rintro(q | q | q)
      ·exact .inr (.inl q)
      ·exact .inl q
      ·exact .inr (.inr q)
     ·rintro(q | q | q)
      ·exact .inr (.inl q)
      ·exact .inl q
      ·exact .inr (.inr q)
theorem vI{z:Int}:∀{l:List Int},z∈fw l↔z∈l
 | []=>by simp[fw]
 | x::l=>by rw[fw,EM,vI (l:=l),fh]
theorem LU{x:Int}:∀{l:List Int},l.Pairwise (·<·)->(nM x l).Pairwise (·<·)
 | [],_=>by simp[nM]
 | y::l,h=>by
   obtain⟨h1,h2⟩:=List.pairwise_cons.mp h
   unfold nM
   by_cases q:x<y
   ·rw[if_pos q]
    refine List.pairwise_cons.mpr ⟨λz hz=>?_,h⟩
    rcases List.mem_cons.mp hz with e | e
    ·rw[e];exact q
    ·exact Int.lt_trans q (h1 z e)
   ·rw[if_neg q]
    by_cases e:x=y
    ·rw[if_pos e];exact h
    ·rw[if_neg e]
     refine List.pairwise_cons.mpr ⟨λz hz=>?_,LU h2⟩
     rcases EM.mp hz with w | w
     ·rw[w];lia
     ·exact h1 z w
theorem EN:∀l:List Int,(fw l).Pairwise (·<·)
 | []=>.nil
 | x::l=>LU (EN l)
noncomputable def Bz(ga:G->R D):G->R (List D):=λΓ=>ga Γ>>=λd=>match d with
 | .lst xs=>(match gv xs with | some ns=>R.guard (ns.length<64) (.ok ((fw ns).map D.int)) | none=>.no)
 | _=>.no
theorem Wm{ga:G->R D}{Γ:G}{ns:List Int}(h:ga Γ = .ok (.lst (ns.map D.int)))(hl:ns.length<64):Bz ga Γ = .ok ((fw ns).map D.int):=by
 unfold Bz
 rw[h]
 show(match gv (ns.map D.int) with | some ns=>R.guard (ns.length<64) (.ok ((fw ns).map D.int)) | none=>.no)=_
 rw[tF]
 show R.guard _ _=_
 rw[e8 hl]
noncomputable def kx(x c:D):R D:=match c with
 | .lst ys=>R.guard (D.lay 40 x=true/\D.lay 40 (.lst ys)=true) (.ok (.bl (ys.any λy=>bN y x)))
 | .tup ys=>R.guard (D.lay 40 x=true/\D.lay 40 (.tup ys)=true) (.ok (.bl (ys.any λy=>bN y x)))
 | _=>.no
noncomputable def tK(ys:List D)(x:D):R D:=match ys.findIdx? λy=>bN y x with
 | some j=>R.guard (D.lay 40 x=true/\D.lay 40 (.lst ys)=true/\ys.length<=100000) (.ok (.int (j:Int)))
 | none=>.no
noncomputable def z9k(ga gb:G->R D):G->R D:=λΓ=>ga Γ>>=λa=>match a with
 | .lst ys=>gb Γ>>=λx=>tK ys x
 | _=>.no
def y8z(g:G->R D):G->R (List D):=λΓ=>g Γ>>=λd=>match d with
 | .lst ds=>.ok (dY 1 ds)
 | _=>.no
end L3
namespace L3
section
variable {Γ Γ':G}{i:Nat}{g gk:G->R D}{gs:G->R (List D)}{gc:G->R Bool}{t u e gb:G->R Fl}{r:R Fl}{d k:D}{ds:List D}{c:Er}
theorem eG(h:t Γ = .ok (.nx Γ'))(h2:u Γ'=r):aG t u Γ=r:=by unfold aG;rw[h];exact h2
theorem pf(h:t Γ = .ok (.rt d)):aG t u Γ = .ok (.rt d):=by unfold aG;rw[h];rfl
theorem Wn(h:t Γ = .ok (.ex c Γ')):aG t u Γ = .ok (.ex c Γ'):=by unfold aG;rw[h];rfl
theorem gW(h:g Γ = .ok d):aV i g Γ = .ok (.nx (Γ.set i (.ro d))):=by unfold aV;rw[h];rfl
theorem Wo(h:gs Γ = .ok ds):c6 i gs Γ = .ok (.nx (Γ.set i (.own ds))):=by unfold c6;rw[h];rfl
theorem tL(ho:Γ[i]? = some (.own ds))(h:g Γ = .ok d)(hl:ds.length<=100000):gd i g Γ = .ok (.nx (Γ.set i (.own (ds++[d])))):=by
 unfold gd;rw[ho];simp only[h,vB,e8 hl]
theorem LV{j:Int}{n:Nat}(ho:Γ[i]? = some (.own ds))(h:g Γ = .ok d)(hk:gk Γ = .ok (.int j))(hn:i6 ds.length j=some n):qd i gk g Γ = .ok (.nx (Γ.set i (.own (ds.set n d)))):=by
 unfold qd;rw[ho];simp only[h,hk,vB,hn]
theorem ky(hc:gc Γ = .ok true)(h:t Γ=r):cF gc t u Γ=r:=by unfold cF;rw[hc];exact h
theorem LW(hc:gc Γ = .ok false)(h:u Γ=r):cF gc t u Γ=r:=by unfold cF;rw[hc];exact h
theorem rV(hc:gc Γ = .ok false):cF gc t c5 Γ = .ok (.nx Γ):=LW hc rfl
theorem EO(hi:gs Γ = .ok ds)(h:dA gb i ds Γ=r):fL i gs gb Γ=r:=by unfold fL;rw[hi];exact h
theorem cv(h:g Γ = .ok d):bu g Γ = .ok (.rt d):=by unfold bu;rw[h];rfl
theorem yg(h:gs Γ = .ok ds):qc gs Γ = .ok (.fu ds):=by unfold qc;rw[h];rfl
theorem LX(h:Γ[i]? = some (.own ds)):pb i Γ = .ok (.fu ds):=by unfold pb;rw[h]
theorem b8(hg:g Γ = .ok d)(h:u (Γ.set i (.ro d))=r):aG (aV i g) u Γ=r:=eG (gW hg) h
theorem fy(hg:gs Γ = .ok ds)(h:u (Γ.set i (.own ds))=r):aG (c6 i gs) u Γ=r:=eG (Wo hg) h
theorem mD(hc:gc Γ = .ok false)(h:u Γ=r):aG (cF gc t c5) u Γ=r:=eG (rV hc) h
theorem Wq(hc:gc Γ = .ok true)(ht:t Γ = .ok (.nx Γ'))(h:u Γ'=r):aG (cF gc t e) u Γ=r:=eG (ky hc ht) h
theorem yh(hi:gs Γ = .ok ds)(hf:dA gb i ds Γ = .ok (.nx Γ'))(h:u Γ'=r):aG (fL i gs gb) u Γ=r:=eG (EO hi hf) h
theorem cH{p n:Nat}(hl:ds.length=p)(h:t (gy n ds) = .ok (.rt d)):b6 p n t ds = .ok d:=by rw[vD hl,h];rfl
theorem Wr{p n:Nat}(hl:ds.length=p)(h:t (gy n ds) = .ok (.ex c Γ)):b6 p n t ds = .er c:=by rw[vD hl,h];rfl
theorem ph{p n:Nat}{es:List D}(hl:ds.length=p)(h:t (gy n ds) = .ok (.fu es)):jq p n t ds = .ok es:=by rw[LO hl,h];rfl
def Ends(r:R Fl)(I:G->Prop):Prop:=∃Γ',(r = .ok (.nx Γ')∨r = .ok (.ct Γ'))/\I Γ'
theorem Ends.nx{I:G->Prop}{r:R Fl}(h:r = .ok (.nx Γ))(hI:I Γ):Ends r I:=⟨Γ,.inl h,hI⟩
theorem rX(I:Nat->G->Prop)(hi:gs Γ = .ok ds)(h0:I 0 Γ)(hq:∀(j:Nat) (d:D) (Γ:G),ds[j]? = some d->I j Γ->Ends (gb (Γ.set i (.ro d))) (I (j+1)))(h:∀Γ',I ds.length Γ'->u Γ'=r):aG (fL i gs gb) u Γ=r:=by
 obtain⟨Γ',e,h'⟩:=vC I ds 0 Γ h0 λj d Γ hd hI=>by rw[gO] at hI ⊢;exact hq j d Γ hd hI
 rw[gO] at h'
 exact yh hi e (h Γ' h')
end
def aF(f:Nat->Int):Nat->Int
 | 0=>0
 | n+1=>aF f n+f n
theorem LY(f:Nat->Int):aF f 0=0:=rfl
theorem dB(f:Nat->Int)(n:Nat):aF f (n+1)=aF f n+f n:=rfl
theorem dc{f g:Nat->Int}:∀{n:Nat},(∀i,i<n->f i=g i)->aF f n=aF g n
 | 0,_=>rfl
 | n+1,h=>by rw[dB,dB,dc λi hi=>h i (by lia),h n (by lia)]
theorem pj(f g:Nat->Int):∀n:Nat,aF (λi=>f i+g i) n=aF f n+aF g n
 | 0=>rfl
 | n+1=>by rw[dB,dB,dB,pj f g n];lia
theorem mE(c:Int)(f:Nat->Int):∀n:Nat,aF (λi=>c*f i) n=c*aF f n
 | 0=>by simp[aF]
 | n+1=>by rw[dB,dB,mE c f n,uT]
theorem Ws(c:Int)(f:Nat->Int)(n:Nat):aF (λi=>f i*c) n=aF f n*c:=by
 rw[dc (g:=λi=>c*f i) λi _=>iH _ _,mE,iH]
theorem vJ:∀n:Nat,aF (λ_=>0) n=0
 | 0=>rfl
 | n+1=>by rw[dB,vJ n];rfl
theorem LZ(f:Nat->Nat->Int)(m:Nat):∀n:Nat,aF (λi=>aF (λj=>f i j) m) n=aF (λj=>aF (λi=>f i j) n) m
 | 0=>by simp only[LY,vJ]
 | n+1=>by
   rw[dB,LZ f m n,<-pj]
   rfl
theorem nN{f:Nat->Int}{k:Nat}:∀{n:Nat},k<n->(∀i,i<n->i≠k->f i=0)->aF f n=f k
 | 0,h,_=>absurd h (rm _)
 | n+1,h,q=>by
   rw[dB]
   by_cases e:k=n
   ·subst e
    rw[dc (g:=λ_=>0) λi hi=>q i (by lia) (by lia),vJ];lia
   ·rw[nN (by lia) λi hi hk=>q i (by lia) hk,q n (by lia) (eC e)];lia
theorem mF{f:Nat->Int}{n:Nat}(q:∀i,i<n->f i=0):aF f n=0:=by
 rw[dc (g:=λ_=>0) q,vJ]
theorem BA(f:Nat->Int):∀n:Nat,((bL n).map f).sum=aF f n
 | 0=>rfl
 | n+1=>by rw[uU,hV,a6a,BA f n,dB];simp
def cg(P a b:Int):Prop:=a%P=b%P
theorem cg.refl{P a:Int}:cg P a a:=rfl
theorem cg.symm{P a b:Int}(h:cg P a b):cg P b a:=Sf h
theorem cg.trans{P a b c:Int}(h:cg P a b)(g:cg P b c):cg P a c:=Eq.trans h g
theorem cg.of_eq{P a b:Int}(h:a=b):cg P a b:=by rw[h];exact cg.refl
theorem ip{P a:Int}:cg P (a%P) a:=by unfold cg;exact a6b a (Sg P)
theorem cg.add{P a b c d:Int}(h:cg P a b)(g:cg P c d):cg P (a+c) (b+d):=by unfold cg at *;rw[Int.add_emod,h,g,<-Int.add_emod]
theorem cg.sub{P a b c d:Int}(h:cg P a b)(g:cg P c d):cg P (a-c) (b-d):=by unfold cg at *;rw[Sh,h,g,<-Sh]
theorem cg.mul{P a b c d:Int}(h:cg P a b)(g:cg P c d):cg P (a*c) (b*d):=by unfold cg at *;rw[Int.mul_emod,h,g,<-Int.mul_emod]
theorem cg.neg{P a b:Int}(h:cg P a b):cg P (-a) (-b):=by
 have:=(cg.refl (P:=P) (a:=0)).sub h
 simpa using this
theorem cg.aF{P:Int}{f g:Nat->Int}:∀{n:Nat},(∀i,i<n->cg P (f i) (g i))->cg P (L3.aF f n) (L3.aF g n)
 | 0,_=>cg.refl
 | n+1,h=>(cg.aF λi hi=>h i (by lia)).add (h n (by lia))
theorem cg.ER{P a b:Int}(h:cg P a b)(ha:0<=a)(BB:a<P)(hb:0<=b)(yi:b<P):a=b:=by
 unfold cg at h;rw[ke ha BB,ke hb yi] at h;exact h
theorem L4{P a b:Int}:cg P a b↔(a-b)%P=0:=by
 unfold cg
 constructor
 ·intro h;rw[Sh,h,Ju,pR]
 ·intro h
  have:cg P (a-b+b) (0+b):=cg.add (by unfold cg;rw[h,pR]) cg.refl
  unfold cg at this
  rw[show a-b+b=a by lia,iI] at this
  exact this
theorem k_{w P:Int}(h:0<P):0<=w%P:=Si _ (by lia)
theorem lh{w P:Int}(h:0<P):w%P<P:=Sj _ h
end L3
namespace L3
open PySem
noncomputable section
def L5:G->R Fl :=
 (aG (cF (gT (au mq (gV 1) (aI i7 (ai (gV 0) aB)))) (bu (au aX (gV 0) (gV 1))) c5)
 (bu (gC (.int 0))))
def rY:List D->R D:=b6 2 2 L5
def L6:G->R Fl :=
 (aG (c6 3 (gS aB))
 (aG (fL 4 (jN (gV 2))
 (aG (gd 3 (aL (au dn (gV 0) (gV 1))))
 (aV 0 (aL (au gu (gV 0) (gV 1))))))
 (bu (aI ik (ai (gV 3) aB)))))
def tM:List D->R D:=b6 3 5 L6
def L7:G->R Fl :=
 (bu (au dn (gV 1) (gV 0)))
def lq:List D->R D:=b6 2 2 L7
def L8:G->R Fl :=
 (aG (aV 3 (aL (aI i7 (ai (gV 2) aB))))
 (bu (aI lq (ai (gV 0) (ai (au cz (aI nH (ai (gL (dM (jN (gV 3)) (fK (aL (au dX (au aX (gV 2) (gV 0)) (au aX (gV 3) (gV 0))))))) aB)) (au aX (gV 1) (gV 3))) aB)))))
def yj:List D->R D:=b6 3 4 L8
def L9:G->R Fl :=
 (bu (aI ik (ai (gL (dM (kY (gV 1)) (fK (aL (aI (fT yj) (ai (gV 1) (ai (gV 0) (ai (gV 3) aB)))))))) aB)))
def kz:List D->R D:=b6 3 3 L9
def L_:G->R Fl :=
 (bu (au dn (au cz (au aX (gV 1) (tD (gC (.int 1)))) (aI nH (ai (gL (dM (jN (aI i7 (ai (gV 2) aB))) (fK (aL (au dX (au aX (gV 2) (gV 0)) (au aX (gV 3) (gV 0))))))) aB))) (gV 0)))
def vK:List D->R D:=b6 3 3 L_
def Ma:G->R Fl :=
 (bu (aI nH (ai (gL (dM (jN (aI i7 (ai (gV 1) aB))) (fK (aL (au dX (au aX (gV 1) (gV 0)) (au aX (au aX (gV 2) (gV 0)) (gV 3))))))) aB)))
def ES:List D->R D:=b6 3 3 Ma
def Mb:G->R Fl :=
 (aG (aV 3 (aL (aI i7 (ai (gV 1) aB))))
 (aG (c6 4 (dM (jN (au cz (gV 3) (gC (.int 1)))) (fK (aL (aI (fT ES) (ai (gV 3) (ai (gV 2) (ai (gV 0) aB))))))))
 (aG (qd 4 (gV 3) (aL (au cz (au aX (gV 4) (gV 3)) (au aX (gV 2) (gV 3)))))
 (bu (aI ik (ai (gL (dM (kY (gV 4)) (fK (aL (aI (fT lq) (ai (gV 1) (ai (gV 0) aB))))))) aB))))))
def BC:List D->R D:=b6 3 5 Mb
def Mc:G->R Fl :=
 (bu (aI ik (ai (gL (dM (kY (gV 2)) (fK (aL (aI (fT BC) (ai (gV 1) (ai (gV 2) (ai (gV 0) aB)))))))) aB)))
def yk:List D->R D:=b6 3 3 Mc
def Md:G->R Fl :=
 (bu (aI ik (ai (gL (dM (jN (gV 0)) (fK (aL (Ey (gT (au dJ (gV 0) (gV 2))) (gC (.int 1)) (gC (.int 0))))))) aB)))
def ym:List D->R D:=b6 2 2 Md
def Me:G->R Fl :=
 (bu (aI ik (ai (gL (dM (jN (gV 0)) (fK (aL (aI (fT ym) (ai (au cz (gV 1) (gC (.int 1))) (ai (gV 0) aB))))))) aB)))
def yn:List D->R D:=b6 1 1 Me
def Mf:G->R Fl :=
 (aG (c6 3 (nJ (aI yn (ai (gV 0) aB))))
 (aG (qd 3 (gV 1) (aL (aI ik (ai (gV 2) aB))))
 (bu (aI ik (ai (gV 3) aB)))))
def ET:List D->R D:=b6 3 4 Mf
def EU:G->R Fl :=
 (aG (aV 2 (aL (aI lq (ai (gV 0) (ai (gV 1) aB)))))
 (aG (cF (gT (au dJ (gV 2) (gC (.int 0)))) (Bw .vq) c5)
 (aG (aV 3 (aL (gC (.int 1))))
 (aG (df (gT (au ij (gV 2) (gC (.int 1)))) (aG (aV 3 (aL (aI lq (ai (gV 0) (ai (au dX (tD (gV 3)) (au gu (gV 0) (gV 2))) aB)))))
 (aV 2 (aL (au dn (gV 0) (gV 2))))) 100000)
 (bu (gV 3))))))
def pk:List D->R D:=b6 2 4 EU
end
def wkL (e : String) : Lean.MacroM (Lean.TSyntax `tactic) := do let l <- (("L3.fin L3.By L3.b6 L3.jq L3.gV L3.dF L3.gC L3.aB L3.Ez L3.c5 L3.aG L3.aV L3.c6 L3.aL L3.aI L3.gU L3.ai L3.bu L3.qc L3.pb L3.au L3.gL L3.dM L3.jN L3.yb L3.EJ L3.fK L3.pa L3.gT L3.mi L3.Ew L3.Br L3.tD L3.Ls L3.Ey L3.cF L3.dW L3.gS L3.my L3.kY L3.mx L3.fL L3.gd L3.qd L3.Bw L3.kq L3.kX L3.jL L3.LH L3.Bt L3.Bu L3.ya L3.LL L3.nJ L3.LK L3.D.ty L3.vB L3.V9 L3.VM L3.VN L3.VO L3.VP L3.VQ L3.gy L3.i7 L3.ik L3.cz L3.ig L3.dX L3.gu L3.dn L3.EB L3.mq L3.xW L3.rR L3.dJ L3.ij L3.aX L3.x_ L3.fT L3.VS R.Eu R.VH R.VG L3.e8 L3.VI L3.V_ Bool.not_true Bool.not_false if_true if_false Bool.false_eq_true beq_self_eq_true ite_true ite_false Int.reduceToNat L3.o_ L3.Wg L3.Wh L3.Wi L3.Wj L3.Wk L3.Bo L3.Lr L3.VC L3.VD L3.VB L3.Lw L3.VU and_true true_and and_self List.map_cons List.map_nil List.length_cons List.length_nil List.length_map List.length_range List.length_set List.length_append List.length_replicate List.cons_append List.nil_append List.append_assoc List.replicate List.set_cons_zero List.set_cons_succ List.getElem?_cons_zero List.getElem?_cons_succ L3.tF L3.EH L3.V4 L3.V5 L3.VW L3.VX Nat.reduceAdd Nat.reduceSub Nat.reduceMul Int.reduceAdd Int.reduceSub Int.reduceMul Int.reduceNeg Int.toNat_natCast L3.V6 L3.V8 L3.VZ L3.V0 L3.V1 L3.V2 Option.map_some Int.add_zero Nat.reduceEqDiff Nat.reduceLeDiff Nat.zero_add Nat.add_zero Nat.sub_zero Nat.sub_self" ++ e).splitOn " ").toArray.mapM λn => `(Lean.Parser.Tactic.simpLemma| $(Lean.mkIdent n.toName):term); `(tactic| try simp (disch := first | decide | omega | exact Bo _ | exact Lr _ | exact Bq _ | exact ko _ | exact xX _ _ | exact EA (by omega) | exact ⟨EA (by omega), EA (by omega)⟩ | exact Lu (by first | assumption | exact vz (by omega)) | exact VT (by first | assumption | exact vz (by omega)) | assumption) only [$l,*])
local macro_rules | `(tactic| walk_at "ev") => wkL ""
def gE(ns:List Int)(k:Int):Int:=(ns[k.toNat]?).getD 0
theorem EV{ns:List Int}{k:Int}(h0:0<=k)(h:k<(ns.length:Int)):cu (ns.map D.int) k=some (.int (gE ns k)):=by
 rw[LC h0,cf]
 unfold gE
 rw[cD (by lia)];rfl
theorem Wt{ns:List Int}{k:Int}(h0:0<=k)(h:¬k<(ns.length:Int)):gE ns k=0:=by
 unfold gE
 rw[eY (by lia)];rfl
theorem z7u{ns:List Int}{k:Int}(h0:0<=k):rY [.lst (ns.map D.int),.int k] = .ok (.int (gE ns k)):=by
 unfold rY L5
 by_cases h:k<(ns.length:Int)
 ·have e1:=EV h0 h
  have e2:decide (k<(ns.length:Int))=true:=decide_eq_true h
  walk_at "ev"
  simp only[e1,e2]
  walk_at "ev"
 ·have e2:decide (k<(ns.length:Int))=false:=decide_eq_false h
  have e3:=Wt h0 h
  walk_at "ev"
  simp only[e2,e3]
  walk_at "ev"
def kA(P:Int):Nat->Int->List Int
 | 0,_=>[]
 | n+1,c=>c%P::kA P n (c/P)
theorem BD(P:Int):∀(n:Nat) (c:Int),(kA P n c).length=n
 | 0,_=>rfl
 | n+1,c=>by rw[kA,dE,BD P n]
def bX(P:Int)(ns:List Int):Prop:=∀n∈ns,0<=n/\n<P
theorem BE{P:Int}(hp:0<P):∀(n:Nat) (c:Int),bX P (kA P n c)
 | 0,_=>λx hx=>by simp[kA] at hx
 | n+1,c=>λx hx=>by
   rw[kA] at hx
   rcases List.mem_cons.mp hx with e | e
   ·subst e;exact⟨k_ hp,lh hp⟩
   ·exact BE hp n _ x e
def qe(P:Int):Nat->Int->Int
 | 0,c=>c
 | n+1,c=>qe P n c/P
def rZ(P:Int)(n:Nat)(c:Int):List Int:=(bL n).map λi=>qe P i c%P
theorem Wu(P:Int)(n:Nat)(c:Int):rZ P (n+1) c=rZ P n c++[qe P n c%P]:=by
 unfold rZ;rw[uU,hV];rfl
theorem Mg(P:Int):∀(n:Nat) (c:Int),qe P (n+1) c=qe P n (c/P)
 | 0,c=>rfl
 | n+1,c=>by rw[qe,Mg P n c];rfl
theorem Mh(P:Int):∀(n:Nat) (c:Int),rZ P n c=kA P n c
 | 0,c=>rfl
 | n+1,c=>by
   rw[kA,<-Mh P n (c/P)]
   unfold rZ
   rw[Sk,cN,lZ]
   congr 1
   apply AH
   intro i _
   show qe P (i+1) c%P=_
   rw[Mg]
theorem z4j{c P n:Int}(h1:0<P)(h2:P<1000000)(h3:0<=n)(h4:n<=20):tM [.int c,.int P,.int n] = .ok (.tup ((kA P n.toNat c).map D.int)):=by
 unfold tM L6
 walk_at "ev"
 rw[We (λj=>[.ro (.int (qe P j c)),.ro (.int P),.ro (.int n),.own ((rZ P j c).map D.int),(match j with | 0=>.no | k+1=>.ro (.int (0+(k:Int))))])]
 ·walk_at "ev"
  rw[Mh]
 ·rfl
 ·intro j hj
  have hl:(rZ P j c).length<=100000:=by unfold rZ;simp;lia
  walk_at "ev"
  rw[Wu]
  simp[qe]
def cV(n:Int):Bool:=((bL 98).filterMap λ(i:Nat)=>if 2+(i:Int)<n then some (n%(2+(i:Int))==0) else none).any λb=>b
theorem EW(n:Int):cV n=true↔∃b:Int,2<=b/\b<100/\b<n/\n%b=0:=by
 unfold cV
 simp only[Sl,List.mem_filterMap,Sm]
 constructor
 ·rintro⟨x,⟨i,hi,e⟩,hx⟩
  by_cases q:2+(i:Int)<n
  ·rw[if_pos q] at e;cases e
   exact⟨2+i,by lia,by lia,q,by simpa using hx⟩
  ·rw[if_neg q] at e;cases e
 ·rintro⟨b,h1,h2,h3,h4⟩
  refine⟨true,⟨(b-2).toNat,by lia,?_⟩,rfl⟩
  have e:(2+(((b-2).toNat:Nat):Int))=b:=by lia
  rw[e,if_pos h3,h4];rfl
theorem Wv{f:D->R (Option D)}{lo:Int}{n:Nat}{h:Nat->Option Bool}(q:∀i,i<n->f (.int (lo+(i:Int))) = .ok ((h i).map D.bl)):cj f (gx lo n) [] = .ok (((bL n).filterMap h).map D.bl):=by
 unfold gx
 rw[LM (h:=λi=>(h i).map D.bl) λi hi=>q i (List.mem_range.mp hi),Sn]
def cw(f s:List Int):Int:=aF (λi=>(f[i]?).getD 0*(s[i]?).getD 0) s.length+(f[s.length]?).getD 0
theorem s_on{P n:Int}(h:0<P):lq [.int P,.int n] = .ok (.int (n%P)):=by
 unfold lq L7
 walk_at "ev"
theorem pq{l:List Int}{i:Nat}(h:i<l.length):cu (l.map D.int) (i:Int)=some (.int ((l[i]?).getD 0)):=by
 rw[jK,cf,cD h];rfl
def fits(l:List Int):Prop:=∀n∈l,mj n
theorem BF{l:List Int}(h:fits l)(i:Nat):mj ((l[i]?).getD 0):=by
 by_cases q:i<l.length
 ·rw[cD q];exact h _ (pS q)
 ·rw[eY (by lia)];exact⟨by decide,by decide⟩
theorem bX.fits{P:Int}{l:List Int}(h:bX P l)(hp:P<18446744073709551616):fits l:=λn hn=>by
 have:=h n hn
 exact⟨by lia,by lia⟩
theorem yo{P:Int}{fs ss:List Int}(hp:0<P)(hf:fits fs)(hl:fs.length=ss.length+1)(hn:ss.length<=1000):yj [.int P,.tup (fs.map D.int),.tup (ss.map D.int)] = .ok (.int (cw fs ss%P)):=by
 unfold yj L8
 walk_at "ev"
 rw[rT (h:=λi=>D.int ((fs[i]?).getD 0*(ss[i]?).getD 0))]
 ·have e1:((bL ss.length).map λi=>D.int ((fs[i]?).getD 0*(ss[i]?).getD 0))=((bL ss.length).map λi=>(fs[i]?).getD 0*(ss[i]?).getD 0).map D.int:=by rw[lZ];rfl
  rw[e1]
  have e2:=pq (l:=fs) (i:=ss.length) (by lia)
  walk_at "ev"
  simp only[e2]
  walk_at "ev"
  rw[s_on hp,BA]
  rfl
 ·intro i hi
  have e1:=pq (l:=fs) (i:=i) (by lia)
  have e2:=pq (l:=ss) (i:=i) (by lia)
  have e3:=BF hf i
  walk_at "ev"
  simp only[iI,e1,e2]
  walk_at "ev"
def ao(r:List Int):D:=.tup (r.map D.int)
theorem dZ(r:List Int):ao r = .tup (r.map D.int):=rfl
theorem z0n(r:List Int):(ao r).cK=true:=Bq r
theorem tN(t:List (List Int)):D.bQ (t.map ao)=true:=vt λr _=>Bq r
theorem nO(t:List (List Int)):D.cK (.tup (t.map ao))=true:=by rw[Bp];exact tN t
theorem z5g(n:Nat)(r:List Int):D.lay (n+1) (ao r)=true:=xX n r
theorem Ww(n:Nat)(t:List (List Int)):D.lay (n+2) (.tup (t.map ao))=true:=by
 rw[ED,Jt,rj];intro x _;exact xX n x
theorem Mi(r:List Int):D.pl (ao r)=true:=Lz r
theorem Mj(t:List (List Int)):D.pl (.tup (t.map ao))=true:=by
 rw[Ly,Jt,rj];intro x _;exact Lz x
theorem Ml:∀{a b:List Int},a.map D.int=b.map D.int->a=b
 | [],[],_=>rfl
 | [],_::_,h=>by simp at h
 | _::_,[],h=>by simp at h
 | x::a,y::b,h=>by simp at h;rw[h.1,Ml h.2]
theorem vL{a b:List Int}(h:ao a=ao b):a=b:=Ml (by unfold ao at h;simpa using h)
theorem Mm:∀{a b:List (List Int)},a.map ao=b.map ao->a=b
 | [],[],_=>rfl
 | [],_::_,h=>by simp at h
 | _::_,[],h=>by simp at h
 | x::a,y::b,h=>by simp only[cN,List.cons.injEq] at h;rw[vL h.1,Mm h.2]
theorem z4h(a b:List Int):bN (ao a) (ao b)=decide (a=b):=LB (Mi a) (Mi b) ⟨vL,λh=>by rw[h]⟩
theorem z4v(a b:List Int):bN (.tup (a.map D.int)) (.tup (b.map D.int))=decide (a=b):=z4h a b
theorem Wx(a b:List (List Int)):bN (.tup (a.map ao)) (.tup (b.map ao))=decide (a=b):=LB (Mj a) (Mj b) ⟨λh=>Mm (by simpa using h),λh=>by rw[h]⟩
theorem atT{t:List (List Int)}{i:Nat}(h:i<t.length):cu (t.map ao) (i:Int)=some (ao ((t[i]?).getD [])):=by
 rw[jK,cf,cD h];rfl
def pv(P:Int)(n:Nat)(r:List Int):Prop:=bX P r/\r.length=n+1
def b0(P:Int)(n:Nat)(t:List (List Int)):Prop:=t.length=n/\∀r∈t,pv P n r
def cG(P:Int)(t:List (List Int))(s:List Int):List Int:=t.map λr=>cw r s%P
theorem r6(P:Int)(t:List (List Int))(s:List Int):(cG P t s).length=t.length:=by unfold cG;simp
theorem Mn{P:Int}(hp:0<P)(t:List (List Int))(s:List Int):bX P (cG P t s):=λn hn=>by
 unfold cG at hn
 obtain⟨r,_,rfl⟩:=List.mem_map.mp hn
 exact⟨k_ hp,lh hp⟩
theorem pz{P:Int}{ts:List (List Int)}{ss:List Int}(hp:0<P)(mG:P<18446744073709551616)(ht:b0 P ss.length ts)(hn:ss.length<=1000):kz [.int P,.tup (ts.map ao),.tup (ss.map D.int)] = .ok (.tup ((cG P ts ss).map D.int)):=by
 unfold kz L9
 have bO:ts.length<=100000:=by rw[ht.1];lia
 have Wy:=tN ts
 walk_at "ev"
 rw[mz (h:=λr=>D.int (cw r ss%P))]
 ·walk_at "ev"
  unfold cG
  rw[lZ];rfl
 ·intro r hr
  have q:=ht.2 r hr
  have e1:yj [D.int P,ao r,D.tup (ss.map D.int)]=R.ok (D.int (cw r ss%P)):=yo hp (q.1.fits mG) q.2 hn
  rw[e1]
  walk_at "ev"
def Wz(c:List D->R D):Prop:=∀ns:List Int,ns.length<=63->c [.lst (ns.map D.int)] = .ok (.bl true)
theorem yp{α:Type}{l:List α}{i:Nat}{d:α}(h:i<l.length):(l[i]?).getD d=l[i]:=by rw[cD h];rfl
def e9(P:Int)(t:List (List Int))(f:List Int):List Int:=(bL (t.length+1)).map λplace =>
 (aF (λx=>(f[x]?).getD 0*(((t[x]?).getD [])[place]?).getD 0) t.length+(if place=t.length then (f[t.length]?).getD 0 else 0))%P
def d8(P:Int)(a b:List (List Int)):List (List Int):=b.map (e9 P a)
theorem vM(P:Int)(t:List (List Int))(f:List Int):(e9 P t f).length=t.length+1:=by unfold e9;simp
theorem Mo{P:Int}(hp:0<P)(t:List (List Int))(f:List Int):bX P (e9 P t f):=λn hn=>by
 unfold e9 at hn
 obtain⟨r,_,rfl⟩:=List.mem_map.mp hn
 exact⟨k_ hp,lh hp⟩
theorem r8{P:Int}(hp:0<P){n:Nat}{a b:List (List Int)}(ha:a.length=n)(hb:b.length=n):b0 P n (d8 P a b):=by
 unfold d8
 refine⟨by rw[bD,hb],λr hr=>?_⟩
 obtain⟨f,_,rfl⟩:=List.mem_map.mp hr
 exact⟨Mo hp _ _,by rw[vM,ha]⟩
theorem EX{P:Int}{t:List (List Int)}{f:List Int}{k:Nat}(h:k<=t.length):((e9 P t f)[k]?).getD 0=(aF (λx=>(f[x]?).getD 0*(((t[x]?).getD [])[k]?).getD 0) t.length+(if k=t.length then (f[t.length]?).getD 0 else 0))%P:=by
 unfold e9
 rw[cf,l8 (by lia)];rfl
theorem Mp{P:Int}{t:List (List Int)}{f s:List Int}(hs:s.length=t.length):cg P (cw (e9 P t f) s) (cw f (cG P t s)):=by
 unfold cw
 rw[r6,hs]
 have h1:cg P (aF (λi=>((e9 P t f)[i]?).getD 0*(s[i]?).getD 0) t.length+((e9 P t f)[t.length]?).getD 0)
  (aF (λi=>aF (λx=>(f[x]?).getD 0*(((t[x]?).getD [])[i]?).getD 0) t.length*(s[i]?).getD 0) t.length+(aF (λx=>(f[x]?).getD 0*(((t[x]?).getD [])[t.length]?).getD 0) t.length+(f[t.length]?).getD 0)):=by
  refine cg.add (cg.aF λi hi=>cg.mul ?_ cg.refl) ?_
  ·rw[EX (by lia),if_neg (by lia),Jv];exact ip
  ·rw[EX (bA _),if_pos rfl];exact ip
 have h2:cg P (aF (λi=>(f[i]?).getD 0*((cG P t s)[i]?).getD 0) t.length+(f[t.length]?).getD 0)
  (aF (λx=>(f[x]?).getD 0*(aF (λi=>(((t[x]?).getD [])[i]?).getD 0*(s[i]?).getD 0) t.length+(((t[x]?).getD [])[t.length]?).getD 0)) t.length+(f[t.length]?).getD 0):=by
  refine cg.add (cg.aF λx hx=>cg.mul cg.refl ?_) cg.refl
  unfold cG
  rw[cf,cD hx]
  show cg P (cw t[x] s%P) _
  refine ip.trans (cg.of_eq ?_)
  unfold cw
  rw[hs];rfl
 refine h1.trans (cg.trans (cg.of_eq ?_) h2.symm)
 have e1:aF (λi=>aF (λx=>(f[x]?).getD 0*(((t[x]?).getD [])[i]?).getD 0) t.length*(s[i]?).getD 0) t.length=aF (λx=>(f[x]?).getD 0*aF (λi=>(((t[x]?).getD [])[i]?).getD 0*(s[i]?).getD 0) t.length) t.length:=by
  rw[dc (g:=λi=>aF (λx=>(f[x]?).getD 0*((((t[x]?).getD [])[i]?).getD 0*(s[i]?).getD 0)) t.length) λi _=>by
   rw[<-Ws];exact dc λx _=>dN _ _ _]
  rw[LZ]
  exact dc λx _=>mE _ _ _
 rw[e1,dc (f:=λx=>(f[x]?).getD 0*(aF (λi=>(((t[x]?).getD [])[i]?).getD 0*(s[i]?).getD 0) t.length+(((t[x]?).getD [])[t.length]?).getD 0)) (g:=λx=>(f[x]?).getD 0*aF (λi=>(((t[x]?).getD [])[i]?).getD 0*(s[i]?).getD 0) t.length+(f[x]?).getD 0*(((t[x]?).getD [])[t.length]?).getD 0) λx _=>uT _ _ _,pj]
 lia
def tO(n:Nat):List Int:=dI n 0
def cP(n k:Nat):List Int:=(bL n).map λi=>if i=k then 1 else 0
theorem Mq(n:Nat):(tO n).length=n:=by unfold tO;simp
theorem qf(n k:Nat):(cP n k).length=n:=by unfold cP;simp
theorem WA(n i:Nat):((tO n)[i]?).getD 0=0:=by
 unfold tO
 rw[RY];split<;>rfl
theorem tP{n k i:Nat}(h:i<n):((cP n k)[i]?).getD 0=if i=k then 1 else 0:=by
 unfold cP
 rw[cf,l8 h];rfl
theorem Ms(f:List Int)(n:Nat):cw f (tO n)=(f[n]?).getD 0:=by
 unfold cw
 rw[Mq,mF λi _=>by rw[WA,gq]];lia
theorem Mt(f:List Int){n k:Nat}(h:k<n):cw f (cP n k)=(f[k]?).getD 0+(f[n]?).getD 0:=by
 unfold cw
 rw[qf,nN h λi hi hk=>by rw[tP hi,if_neg hk,gq]]
 rw[tP h,if_pos rfl,j8]
theorem mH{P:Int}{f:List Int}(hp:0<P)(h:bX P f)(k:Nat):0<=(f[k]?).getD 0/\(f[k]?).getD 0<P:=by
 by_cases q:k<f.length
 ·rw[yp q];exact h _ (pS q)
 ·rw[eY (by lia)];exact⟨by simp,by simpa using hp⟩
theorem EY{a b:List Int}(hl:a.length=b.length)(h:∀k,k<a.length->(a[k]?).getD 0=(b[k]?).getD 0):a=b:=by
 apply DH hl
 intro k h1 h2
 have:=h k h1
 rw[yp h1,yp h2] at this
 exact this
theorem WB{P:Int}{n:Nat}{f g:List Int}(hp:0<P)(hf:pv P n f)(hg:pv P n g)(h0:cg P (cw f (tO n)) (cw g (tO n)))(h1:∀k,k<n->cg P (cw f (cP n k)) (cw g (cP n k))):f=g:=by
 have e0:(f[n]?).getD 0=(g[n]?).getD 0:=by
  rw[Ms,Ms] at h0
  exact h0.ER (mH hp hf.1 n).1 (mH hp hf.1 n).2 (mH hp hg.1 n).1 (mH hp hg.1 n).2
 refine EY (by rw[hf.2,hg.2]) λk hk=>?_
 rw[hf.2] at hk
 by_cases q:k=n
 ·rw[q];exact e0
 ·have cQ:k<n:=by lia
  have h2:=h1 k cQ
  rw[Mt f cQ,Mt g cQ,e0] at h2
  have h3:=h2.sub (cg.refl (P:=P) (a:=(g[n]?).getD 0))
  rw[show(f[k]?).getD 0+(g[n]?).getD 0-(g[n]?).getD 0=(f[k]?).getD 0 by lia,show(g[k]?).getD 0+(g[n]?).getD 0-(g[n]?).getD 0=(g[k]?).getD 0 by lia] at h3
  exact h3.ER (mH hp hf.1 k).1 (mH hp hf.1 k).2 (mH hp hg.1 k).1 (mH hp hg.1 k).2
theorem qg{P:Int}{n:Nat}{a b:List (List Int)}{s:List Int}(ha:a.length=n)(hs:s.length=n):cG P (d8 P a b) s=cG P b (cG P a s):=by
 unfold d8
 show(b.map (e9 P a)).map (λr=>cw r s%P)=b.map λr=>cw r (cG P a s)%P
 rw[lZ]
 apply AH
 intro f _
 exact Mp (by rw[hs,ha])
theorem EZ{P:Int}{n:Nat}{a b:List (List Int)}(hp:0<P)(ha:b0 P n a)(hb:b0 P n b)(h:∀s,s.length=n->cG P a s=cG P b s):a=b:=by
 apply DH (by rw[ha.1,hb.1])
 intro k h1 h2
 have hw:∀s,s.length=n->cg P (cw a[k] s) (cw b[k] s):=λs hs=>by
  have e:=congrArg (λl=>(l[k]?).getD 0) (h s hs)
  unfold cG at e
  simp only[cf,cD h1,cD h2,AI,So] at e
  exact e
 exact WB hp (ha.2 _ (pS h1)) (hb.2 _ (pS h2)) (hw _ (Mq n)) λj _=>hw _ (qf n j)
theorem Mu{P:Int}{n:Nat}{a b c:List (List Int)}(hp:0<P)(ha:a.length=n)(hb:b.length=n)(hc:c.length=n):d8 P (d8 P a b) c=d8 P a (d8 P b c):=by
 have h1:=(r8 hp ha hb).1
 have h2:=(r8 hp hb hc).1
 refine EZ hp (r8 hp h1 hc) (r8 hp ha h2) λs hs=>?_
 rw[qg h1 hs,qg ha hs,qg ha hs,qg hb (by rw[r6,ha])]
def gf(n:Nat):List (List Int):=(bL n).map λx=>cP (n+1) x
theorem tQ(n:Nat):(gf n).length=n:=by unfold gf;simp
theorem E0{P:Int}(hp:1<P)(n:Nat):b0 P n (gf n):=by
 refine⟨tQ n,λr hr=>?_⟩
 unfold gf at hr
 obtain⟨x,_,rfl⟩:=List.mem_map.mp hr
 refine⟨λz hz=>?_,by rw[qf]⟩
 unfold cP at hz
 obtain⟨i,_,rfl⟩:=List.mem_map.mp hz
 split<;>lia
theorem WC{n x:Nat}{s:List Int}(h:x<n)(hs:s.length=n):cw (cP (n+1) x) s=(s[x]?).getD 0:=by
 unfold cw
 rw[hs,nN h λi hi hk=>by rw[tP (by lia),if_neg hk,gP],tP (by lia),if_pos rfl,tP (by lia),if_neg (by lia)]
 lia
theorem E2{P:Int}{n:Nat}{s:List Int}(hs:s.length=n)(ho:bX P s):cG P (gf n) s=s:=by
 refine EY (by rw[r6,tQ,hs]) λk hk=>?_
 rw[r6,tQ] at hk
 have e:((cG P (gf n) s)[k]?).getD 0=cw (cP (n+1) k) s%P:=by
  unfold cG gf
  rw[lZ,cf,l8 hk];rfl
 rw[e,WC hk hs]
 have h2:k<s.length:=by lia
 rw[yp h2]
 have:=ho _ (pS h2)
 exact ke this.1 this.2
theorem Mv{P:Int}{f s:List Int}:cg P (cw f (s.map (·%P))) (cw f s):=by
 unfold cw
 rw[bD]
 refine cg.add (cg.aF λi hi=>cg.mul cg.refl ?_) cg.refl
 rw[cf,cD hi]
 exact ip
theorem Mw{P:Int}{t:List (List Int)}{s:List Int}:cG P t (s.map (·%P))=cG P t s:=by
 unfold cG
 exact AH λr _=>Mv
theorem Mx{P:Int}{n:Nat}{s:List Int}(hp:0<P)(hs:s.length=n):cG P (gf n) s=s.map (·%P):=by
 rw[<-Mw,E2 (by rw[bD,hs])]
 intro z hz
 obtain⟨y,_,rfl⟩:=List.mem_map.mp hz
 exact⟨k_ hp,lh hp⟩
theorem Mz{P:Int}{n:Nat}{t:List (List Int)}(hp:1<P)(ht:b0 P n t):d8 P (gf n) t=t:=by
 refine EZ (by lia) (r8 (by lia) (tQ n) ht.1) ht λs hs=>?_
 rw[qg (tQ n) hs,Mx (by lia) hs,Mw]
theorem MA{P:Int}{n:Nat}{t:List (List Int)}(hp:1<P)(ht:b0 P n t):d8 P t (gf n)=t:=by
 refine EZ (by lia) (r8 (by lia) ht.1 (tQ n)) ht λs hs=>?_
 rw[qg ht.1 hs,E2 (by rw[r6,ht.1]) (Mn (by lia) _ _)]
local macro_rules | `(tactic| walk_at "evs") => wkL " L3.z7u L3.z4j L3.s_on"
theorem tR{α:Type}(l:List α)(f:α->Int):l.map (λx=>D.int (f x))=(l.map f).map D.int:=by rw[lZ];rfl
theorem tS{α:Type}(l:List α)(f:α->List Int):l.map (λx=>ao (f x))=(l.map f).map ao:=by rw[lZ];rfl
theorem WD{P:Int}{n k:Nat}{t:List (List Int)}(ht:b0 P n t)(hk:k<n):pv P n ((t[k]?).getD []):=by
 rw[yp (by rw[ht.1];exact hk)]
 exact ht.2 _ (pS _)
theorem yq{P:Int}{n k:Nat}{f:List Int}{t:List (List Int)}(hf:fits f)(hl:n<=f.length)(ht:b0 P n t)(hn:n<=1000)(hk:k<=n):ES [.tup (f.map D.int),.tup (t.map ao),.int k] = .ok (.int (aF (λx=>(f[x]?).getD 0*(((t[x]?).getD [])[k]?).getD 0) n)):=by
 refine cH rfl ?_
 delta Ma
 refine cv ?_
 have BG:=ht.1
 walk_at "evs"
 rw[rT (h:=λx=>D.int ((f[x]?).getD 0*(((t[x]?).getD [])[k]?).getD 0)),tR]
 ·walk_at "evs"
  rw[BA,BG]
 ·intro x hx
  have hr:=WD ht (k:=x) (by lia)
  have e1:=pq (l:=f) (i:=x) (by lia)
  have e2:=atT (t:=t) (i:=x) (by lia)
  have e3:=pq (l:=(t[x]?).getD []) (i:=k) (by rw[hr.2];lia)
  have e4:=BF hf x
  walk_at "evs"
  simp only[iI,e1,e2]
  walk_at "evs"
  simp only[dZ,e3]
  walk_at "evs"
theorem vN{P:Int}{n:Nat}{f:List Int}{t:List (List Int)}(hp:0<P)(mG:P<1000000)(hf:pv P n f)(ht:b0 P n t)(hn:n<=100):BC [.int P,.tup (t.map ao),.tup (f.map D.int)] = .ok (ao (e9 P t f)):=by
 have BG:=ht.1
 refine cH rfl ?_
 delta Mb
 refine b8 (d:=.int n) (by walk_at "evs";rw[BG]) ?_
 refine fy (ds:=((bL (n+1)).map λk=>aF (λx=>(f[x]?).getD 0*(((t[x]?).getD [])[k]?).getD 0) n).map D.int) ?_ ?_
 ·walk_at "evs"
  rw[show((n:Int)+1).toNat=n+1 by lia,rT (h:=λk=>D.int (aF (λx=>(f[x]?).getD 0*(((t[x]?).getD [])[k]?).getD 0) n)),tR]
  intro k hk
  have e:=yq (f:=f) (k:=k) (hf.1.fits (by lia)) (by rw[hf.2];lia) ht (by lia) (by lia)
  walk_at "evs"
  simp only[iI,e]
  walk_at "evs"
 have e1:=pq (l:=f) (i:=n) (by rw[hf.2];lia)
 have e2:=pq (l:=(bL (n+1)).map λk=>aF (λx=>(f[x]?).getD 0*(((t[x]?).getD [])[k]?).getD 0) n) (i:=n) (by simp)
 have e3:((((bL (n+1)).map λk=>aF (λx=>(f[x]?).getD 0*(((t[x]?).getD [])[k]?).getD 0) n)[n]?).getD 0)=aF (λx=>(f[x]?).getD 0*(((t[x]?).getD [])[n]?).getD 0) n:=by
  rw[cf,l8 (by lia)];rfl
 rw[e3] at e2
 generalize hL:((bL (n+1)).map λk=>aF (λx=>(f[x]?).getD 0*(((t[x]?).getD [])[k]?).getD 0) n)=L at *
 have WE:L.length=n+1:=by rw[<-hL];simp
 refine eG (LV (ds:=L.map D.int) (j:=n) (n:=n) (d:=.int (aF (λx=>(f[x]?).getD 0*(((t[x]?).getD [])[n]?).getD 0) n+(f[n]?).getD 0)) ?_ ?_ ?_ ?_) ?_
 ·rfl
 ·walk_at "evs"
  simp only[e1,e2]
  walk_at "evs"
 ·walk_at "evs"
 ·rw[bD,WE]
  unfold i6
  rw[if_pos (by lia),if_pos (by lia)];simp
 refine cv ?_
 have e4:(L.map D.int).set n (.int (aF (λx=>(f[x]?).getD 0*(((t[x]?).getD [])[n]?).getD 0) n+(f[n]?).getD 0))=((bL (n+1)).map λk=>D.int (aF (λx=>(f[x]?).getD 0*(((t[x]?).getD [])[k]?).getD 0) n+(if k=n then (f[n]?).getD 0 else 0))):=by
  rw[<-hL]
  apply DH (by simp)
  intro k h1 h2
  rw[List.getElem_set]
  by_cases q:n=k
  ·subst q;simp
  ·rw[if_neg q];simp[eC q]
 walk_at "evs"
 rw[e4]
 have e5:D.bQ ((bL (n+1)).map λk=>D.int (aF (λx=>(f[x]?).getD 0*(((t[x]?).getD [])[k]?).getD 0) n+(if k=n then (f[n]?).getD 0 else 0)))=true:=vt λ_ _=>Bo _
 rw[e8 e5]
 walk_at "evs"
 rw[mz (h:=λk=>D.int ((aF (λx=>(f[x]?).getD 0*(((t[x]?).getD [])[k]?).getD 0) n+(if k=n then (f[n]?).getD 0 else 0))%P))]
 ·walk_at "evs"
  unfold e9
  rw[BG]
  unfold ao
  rw[lZ];rfl
 ·intro k hk
  walk_at "evs"
theorem tU{P:Int}{n:Nat}{a b:List (List Int)}(hp:0<P)(mG:P<1000000)(ha:b0 P n a)(hb:b0 P n b)(hn:n<=100):yk [.int P,.tup (a.map ao),.tup (b.map ao)] = .ok (.tup ((d8 P a b).map ao)):=by
 refine cH rfl ?_
 delta Mc
 refine cv ?_
 have h1:=tN b
 have h2:b.length<=100000:=by rw[hb.1];lia
 walk_at "evs"
 rw[mz (h:=λf=>ao (e9 P a f))]
 ·walk_at "evs"
  unfold d8
  rw[lZ];rfl
 ·intro f hf
  have e:=vN hp mG (hb.2 f hf) ha hn
  have e2:=z0n (e9 P a f)
  walk_at "evs"
  simp only[dZ f,e]
  walk_at "evs"
theorem tV{n x:Nat}(hn:n<=1000):ym [.int n,.int x] = .ok (ao (cP n x)):=by
 refine cH rfl ?_
 delta Md
 refine cv ?_
 walk_at "evs"
 rw[rT (h:=λi=>D.int (if i=x then 1 else 0)),tR]
 ·walk_at "evs";rfl
 ·intro i hi
  walk_at "evs"
  by_cases q:i=x
  ·subst q
   have e:((0:Int)+(i:Int)==(i:Int))=true:=by simp
   simp only[e]
   walk_at "evs"
  ·have e:((0:Int)+(i:Int)==(x:Int))=false:=by simp;lia
   simp only[e,if_neg q]
   walk_at "evs"
theorem tW{n:Nat}(hn:n<=100):yn [.int n] = .ok (.tup ((gf n).map ao)):=by
 refine cH rfl ?_
 delta Me
 refine cv ?_
 walk_at "evs"
 rw[rT (h:=λx=>ao (cP (n+1) x)),tS]
 ·walk_at "evs";rfl
 ·intro x hx
  have e:=tV (n:=n+1) (x:=x) (by lia)
  rw[show(((n+1:Nat):Int))=(n:Int)+1 by lia] at e
  have e2:=z0n (cP (n+1) x)
  walk_at "evs"
  simp only[iI,e]
  walk_at "evs"
theorem MB{P:Int}{fs ss:List Int}(hp:0<P)(hf:fits fs)(hl:fs.length=ss.length+1)(hn:ss.length<=1000):vK [.int P,.tup (fs.map D.int),.tup (ss.map D.int)] = .ok (.int (cw fs ss%P)):=by
 refine cH rfl ?_
 delta L_
 refine cv ?_
 have e0:cu (fs.map D.int) (-1)=some (.int ((fs[ss.length]?).getD 0)):=by
  rw[LD (by lia) (by rw[bD];lia),bD,show(-1+(fs.length:Int)).toNat=ss.length by lia,cf,cD (by lia)];rfl
 walk_at "evs"
 simp only[e0]
 walk_at "evs"
 rw[rT (h:=λi=>D.int ((fs[i]?).getD 0*(ss[i]?).getD 0)),tR]
 ·walk_at "evs"
  rw[BA,Sr];rfl
 ·intro i hi
  have e1:=pq (l:=fs) (i:=i) (by lia)
  have e2:=pq (l:=ss) (i:=i) (by lia)
  have e3:=BF hf i
  walk_at "evs"
  simp only[iI,e1,e2]
  walk_at "evs"
def aR(t:List (List Int)):D:=.tup (t.map ao)
theorem WG(t:List (List Int)):aR t = .tup (t.map ao):=rfl
theorem z4s(t:List (List Int)):(aR t).cK=true:=nO t
theorem vO(l:List (List (List Int))):D.bQ (l.map aR)=true:=vt λt _=>nO t
theorem z4t(n:Nat)(t:List (List Int)):D.lay (n+2) (aR t)=true:=Ww n t
theorem z4u(a b:List (List Int)):bN (aR a) (aR b)=decide (a=b):=Wx a b
theorem WH(lo st:Int)(n:Nat):(kZ lo st n).length=n:=by unfold kZ;simp
theorem WI{lo st:Int}{n j:Nat}{d:D}(h:(kZ lo st n)[j]? = some d):j<n/\d = .int (lo+st*(j:Int)):=by
 have hj:j<n:=by
  have:=(List.getElem?_eq_some_iff.mp h).1
  rw[WH] at this;exact this
 refine⟨hj,?_⟩
 unfold kZ at h
 rw[cf,l8 hj] at h
 cases h;rfl
theorem E4{lo:Int}{n j:Nat}{d:D}(h:(gx lo n)[j]? = some d):j<n/\d = .int (lo+(j:Int)):=by
 have hj:j<n:=by
  have:=(List.getElem?_eq_some_iff.mp h).1
  rw[o_] at this;exact this
 rw[EI lo _ _ hj] at h
 cases h;exact⟨hj,rfl⟩
end L3
namespace L3
open PySem
local macro_rules | `(tactic| walk_at "evs") => wkL " L3.z7u L3.z4j L3.s_on L3.z4s L3.z4t L3.z4u L3.z5g L3.z4h L3.z4v L3.z0n"
theorem yr{n x:Nat}{f:List Int}(hn:n<=100)(hx:x<n):ET [.int n,.int x,ao f] = .ok (aR ((gf n).set x f)):=by
 refine cH rfl ?_
 delta Mf
 have e:=tW hn
 have Wy:=tN (gf n)
 refine fy (ds:=(gf n).map ao) (by walk_at "evs";simp only[e];walk_at "evs") ?_
 refine eG (LV (ds:=(gf n).map ao) (j:=x) (n:=x) (d:=ao f) rfl (by simp only[dZ];walk_at "evs") (by walk_at "evs") ?_) ?_
 ·rw[bD,tQ]
  unfold i6
  rw[if_pos (by lia),if_pos (by lia)];simp
 refine cv ?_
 walk_at "evs"
 unfold aR
 rw[List.map_set]
noncomputable section
def WJ:G->R Fl :=
 (bu (au aX (gL (gS (ai (au dn (au gu (gV 0) (gC (.int 3))) (gC (.int 5))) (ai (au dn (au gu (gV 0) (gC (.int 3))) (gC (.int 1000))) (ai (au dn (au gu (gV 0) (gC (.int 3))) (au cz (au EB (gC (.int 10)) (gC (.int 30))) (gC (.int 1)))) aB))))) (au dn (gV 0) (gC (.int 3)))))
def E6:List D->R D:=b6 1 1 WJ
def E8:G->R Fl :=
 (aG (aV 4 (aL (au dn (gV 0) (gV 3))))
 (aG (aV 5 (aL (aI tM (ai (gV 1) (ai (gV 2) (ai (au cz (gV 3) (gC (.int 1))) aB))))))
 (aG (cF (mi (gT (au dJ (au aX (gV 5) (gV 4)) (gC (.int 0)))) (gT (au rR (au dn (au gu (gV 0) (gC (.int 3))) (gC (.int 6))) (gC (.int 0))))) (aV 5 (aL (au cz (au cz (kq (gV 5) kX (jL (gV 4))) (dW (ai (au cz (gC (.int 1)) (au dn (au gu (gV 0) (gC (.int 18))) (au ig (gV 2) (gC (.int 1))))) aB))) (kq (gV 5) (jL (au cz (gV 4) (gC (.int 1)))) kX)))) c5)
 (bu (dW (ai (gC (.str "set")) (ai (gV 4) (ai (gV 5) aB))))))))
def E9:List D->R D:=b6 4 6 E8
def E_:G->R Fl :=
 (aG (c6 4 (gS aB))
 (aG (c6 5 (gS aB))
 (aG (fL 6 (EJ (gC (.int 0)) (au ig (aI x_ (ai (aI i7 (ai (gV 0) aB)) (ai (gC (.int 60)) aB))) (gC (.int 1))) (gC (.int 2)))
 (aG (aV 7 (aL (au ig (aI i7 (ai (gV 4) aB)) (aI x_ (ai (au dn (au gu (au aX (gV 0) (gV 6)) (gC (.int 4))) (gC (.int 4))) (ai (aI i7 (ai (gV 4) aB)) aB))))))
 (aG (aV 8 (aL (au cz (gC (.int 1)) (aI vE (ai (gL (ya (gL (gS (ai (gC (.int 0)) aB))) (kq (gV 5) (jL (gV 7)) kX))) aB)))))
 (cF (mi (gT (au dJ (au dn (au aX (gV 0) (gV 6)) (gC (.int 4))) (gC (.int 3)))) (mi (gT (au mq (gV 8) (gC (.int 4)))) (gT (au rR (gV 3) (gC (.int 0)))))) (aG (c6 4 (ya (kq (gV 4) kX (jL (gV 7))) (gL (gS (ai (dW (ai (gC (.str "again")) (ai (aI E6 (ai (au aX (gV 0) (au cz (gV 6) (gC (.int 1)))) aB)) (ai (aI ik (ai (kq (gV 4) (jL (gV 7)) kX) aB)) aB)))) aB)))))
 (aG (c6 5 (ya (kq (gV 5) kX (jL (gV 7))) (gL (gS (ai (gV 8) aB)))))
 (aV 3 (aL (au ig (gV 3) (gC (.int 1))))))) (aG (gd 4 (aL (aI E9 (ai (au gu (au aX (gV 0) (gV 6)) (gC (.int 4))) (ai (au aX (gV 0) (au cz (gV 6) (gC (.int 1)))) (ai (gV 1) (ai (gV 2) aB)))))))
 (gd 5 (aL (gC (.int 0)))))))))
 (bu (aI ik (ai (gV 4) aB))))))
def BH:List D->R D:=b6 4 9 E_
end
noncomputable section
def MC:G->R Fl :=
 (aG (c6 3 (gS aB))
 (aG (aV 4 (aL (gV 1)))
 (aG (fL 5 (jN (y4u (gV 2)))
 (aG (gd 3 (aL (gV 4)))
 (aV 4 (aL (aI yk (ai (gV 0) (ai (gV 4) (ai (gV 4) aB))))))))
 (pb 3))))
def BI:List D->R (List D):=jq 3 6 MC
def WK:G->R Fl :=
 (qc (z6d (y4d (gV 0)) (vF (gT (au dJ (au dn (au EL (gV 3) (gV 0)) (gC (.int 2))) (gC (.int 1)))) (aL (gV 1)))))
def BJ:List D->R (List D):=jq 2 2 WK
def MD:G->R Fl :=
 (aG (aV 3 (aL (aI yn (ai (aI i7 (ai (gV 1) aB)) aB))))
 (aG (fL 4 (my (gL (gU BJ (ai (gL (gU BI (ai (gV 0) (ai (gV 1) (ai (gV 2) aB))))) (ai (gV 2) aB)))))
 (aV 3 (aL (aI yk (ai (gV 0) (ai (gV 3) (ai (gV 4) aB)))))))
 (bu (gV 3))))
def vP:List D->R D:=b6 3 5 MD
def BK(ME:List D->R D)(MF:List D->R D):G->R Fl :=
 (aG (aV 3 (aL (aI yn (ai (gV 1) aB))))
 (aG (fL 4 (my (dF 2))
 (aV 3 (aL (aI yk (ai (gV 0) (ai (gV 3) (ai (aI MF (ai (gV 0) (ai (gV 1) (ai (gV 4) aB)))) aB)))))))
 (bu (gV 3))))
def BL(ME:List D->R D)(MF:List D->R D):G->R Fl :=
 (aG (cF (gT (au dJ (au aX (gV 2) (gC (.int 0))) (gC (.str "set")))) (bu (aI ET (ai (gV 1) (ai (au aX (gV 2) (gC (.int 1))) (ai (au aX (gV 2) (gC (.int 2))) aB))))) c5)
 (bu (aI vP (ai (gV 0) (ai (aI ME (ai (gV 0) (ai (gV 1) (ai (au aX (gV 2) (gC (.int 2))) aB)))) (ai (au aX (gV 2) (gC (.int 1))) aB))))))
mutual
def lx:Nat->List D->R D
 | 0=>λ_=>.no
 | n+1=>b6 3 5 (BK (lx n) (qh n))
def qh:Nat->List D->R D
 | 0=>λ_=>.no
 | n+1=>b6 3 3 (BL (lx n) (qh n))
end
end
end L3
namespace L3
open PySem
local macro_rules | `(tactic| walk_at "evs") => wkL " L3.z7u L3.z4j L3.s_on L3.z4s L3.z4t L3.z4u L3.z5g L3.z4h L3.z4v L3.z0n L3.z6e L3.y4v L3.y4u L3.y7e"
inductive Item where
 | set (x:Int) (f:List Int)
 | again (n:Int) (its:List Item)
mutual
def Item.d:Item->D
 | .set x f=>.tup [.str "set",.int x,ao f]
 | .again n its=>.tup [.str "again",.int n,.tup (Item.ds its)]
def Item.ds:List Item->List D
 | []=>[]
 | a::r=>a.d::Item.ds r
end
theorem Item.ds_map:∀its:List Item,Item.ds its=its.map Item.d
 | []=>rfl
 | a::r=>by rw[Item.ds,Item.ds_map r];rfl
mutual
def Item.deep:Item->Nat
 | .set _ _=>0
 | .again _ its=>1+Item.fM its
def Item.fM:List Item->Nat
 | []=>0
 | a::r=>max a.deep (Item.fM r)
end
mutual
def Item.many:Item->Nat
 | .set _ _=>1
 | .again _ its=>1+Item.gj its
def Item.gj:List Item->Nat
 | []=>0
 | a::r=>a.many+Item.gj r
end
mutual
def Item.ok(P many:Int):Item->Prop
 | .set x f=>0<=x/\x<many/\(f.length:Int)=many+1/\bX P f
 | .again n its=>0<=n/\n<=10^30/\Item.fA P many its
def Item.fA(P many:Int):List Item->Prop
 | []=>True
 | a::r=>a.ok P many/\Item.fA P many r
end
theorem Item.tX{P many:Int}:∀{its:List Item},Item.fA P many its↔∀a∈its,a.ok P many
 | []=>by simp[Item.fA]
 | a::r=>by simp[Item.fA,Item.tX (its:=r)]
theorem Item.tY{k:Nat}:∀{its:List Item},Item.fM its<=k↔∀a∈its,a.deep<=k
 | []=>by simp[Item.fM]
 | a::r=>by
   have:=Item.tY (k:=k) (its:=r)
   simp only[Item.fM,fh,forall_eq_or_imp,<-this]
   lia
theorem Item.BM:∀{a b:List Item},Item.gj (a++b)=Item.gj a+Item.gj b
 | [],b=>by simp[Item.gj]
 | x::a,b=>by simp[Item.gj,Item.BM (a:=a)];lia
theorem Item.WL:∀a:Item,0<a.many
 | .set _ _=>by simp[Item.many]
 | .again _ _=>by simp[Item.many];lia
theorem Item.MG:∀its:List Item,its.length<=Item.gj its
 | []=>bA _
 | a::r=>by have:=a.WL;have:=Item.MG r;simp only[Item.gj,dE];lia
mutual
theorem Item.cK:∀a:Item,a.d.cK=true
 | .set x f=>by
   have:=z0n f
   simp[Item.d,D.cK,D.bQ,this]
 | .again n its=>by
   have:=Item.bQ its
   simp[Item.d,D.cK,D.bQ,this]
theorem Item.bQ:∀its:List Item,D.bQ (Item.ds its)=true
 | []=>rfl
 | a::r=>by
   have h1:=Item.cK a
   have h2:=Item.bQ r
   simp[Item.ds,D.bQ,h1,h2]
end
theorem Item.Fb(its:List Item):D.bQ (its.map Item.d)=true:=by rw[<-Item.ds_map];exact Item.bQ its
theorem WM(c:Int):∃n:Int,E6 [.int c] = .ok (.int n)/\0<=n/\n<=10^30:=by
 have hw:c%3=0∨c%3=1∨c%3=2:=by lia
 have WN:(0:Int)<10^30+1:=by decide
 have n3:D.bQ [D.int (c/3%5),D.int (c/3%1000),D.int (c/3%(10^30+1))]=true:=ko [_,_,_]
 obtain⟨n,e,h1,h2⟩:∃n:Int,cu [D.int (c/3%5),D.int (c/3%1000),D.int (c/3%(10^30+1))] (c%3)=some (.int n)/\0<=n/\n<=10^30:=by
  rcases hw with w | w | w<;>rw[w]
  ·exact⟨_,rfl,by omega,by have:(5:Int)<=10^30:=by decide
                           lia⟩
  ·exact⟨_,rfl,by omega,by have:(1000:Int)<=10^30:=by decide
                           lia⟩
  ·refine⟨_,rfl,Si _ (by lia),?_⟩
   have:=Sj (c/3) WN
   exact Int.lt_add_one_iff.mp this
 refine⟨n,cH rfl (cv ?_),h1,h2⟩
 walk_at "evs"
 simp only[e]
theorem WO{f:List Int}{x:Nat}{v P:Int}(hx:x<f.length)(hf:bX P f)(h0:0<=v)(hv:v<P):∃g:List Int,f.take x++[v]++f.drop (x+1)=g/\g.length=f.length/\bX P g/\g[x]? = some v:=by
 refine⟨_,rfl,?_,λn hn=>?_,?_⟩
 ·simp only[hU,lX,rf,dE,uV];lia
 ·simp only[List.mem_append,xg] at hn
  rcases hn with (h | h) | h
  ·exact hf n (uW h)
  ·rw[h];exact⟨h0,hv⟩
  ·exact hf n (Ss h)
 ·rw[AA,Ax (by rw[lX];lia),lX,Se (by lia),DI];rfl
theorem WQ{c m P many:Int}(p1:3<=P)(p2:P<=9973)(m1:1<=many)(m2:many<=3):∃(x:Int) (f:List Int),E9 [.int c,.int m,.int P,.int many] = .ok (Item.set x f).d/\(Item.set x f).ok P many:=by
 have hl:=BD P (many+1).toNat m
 have ho:=BE (P:=P) (by lia) (many+1).toNat m
 have MH:=k_ (w:=c) (P:=many) (by lia)
 have hx1:=lh (w:=c) (P:=many) (by lia)
 generalize hf:kA P (many+1).toNat m=f at hl ho
 obtain⟨x,ex⟩:∃x:Nat,c%many=(x:Int):=⟨(c%many).toNat,by lia⟩
 have hx:x<f.length:=by lia
 have start:∀u r,u [.ro (.int c),.ro (.int m),.ro (.int P),.ro (.int many),.ro (.int x),.ro (ao f)]=r->aG (aV 4 (aL (au dn (gV 0) (gV 3)))) (aG (aV 5 (aL (aI tM (ai (gV 1) (ai (gV 2) (ai (au cz (gV 3) (gC (.int 1))) aB)))))) u) [.ro (.int c),.ro (.int m),.ro (.int P),.ro (.int many),.no,.no]=r:=λu r h=>by
  refine b8 (d:=.int x) (by walk_at "evs";rw[ex]) (b8 (d:=ao f) (by walk_at "evs";rw[hf];rfl) h)
 have nP:cu (f.map D.int) (x:Int)=some (.int (f[x]'hx)):=by
  rw[LC (by lia),cf,rk,cD hx];rfl
 by_cases hz:(f[x]'hx==0&&decide (0<c/3%6))=true
 ·have hv0:=k_ (w:=c/18) (P:=P-1) (by lia)
  have hv1:=lh (w:=c/18) (P:=P-1) (by lia)
  obtain⟨g,eg,gl,go,_⟩:=WO (v:=1+c/18%(P-1)) hx ho (by lia) (by lia)
  rw[gN] at hz
  refine⟨x,g,cH rfl ?_,by simp only[Item.ok];exact⟨by lia,by lia,by lia,go⟩⟩
  delta E8
  refine start _ _ (Wq (Γ':=[.ro (.int c),.ro (.int m),.ro (.int P),.ro (.int many),.ro (.int x),.ro (ao g)]) ?_ ?_ ?_)
  ·walk_at "evs"
   simp only[ao,aX,nP]
   walk_at "evs"
   simp only[hz.1,hz.2]
   walk_at "evs"
  ·refine(gW (d:=ao g) ?_).trans rfl
   have WR:(x:Int)+1=((x+1:Nat):Int):=rfl
   have hlen:f.length<=4:=by lia
   walk_at "evs"
   simp only[ao,Bt,R.Eu]
   rw[WR,xZ,xY,<-w8,<-w9]
   have lt:(f.take x).length<=4:=by rw[lX];lia
   have ld:(f.drop (x+1)).length<=4:=by rw[rf];lia
   have e2:(f.take x).map D.int++(D.int (1+c/18%(P-1))::(f.drop (x+1)).map D.int)=g.map D.int:=by rw[<-eg];simp
   have n2:=Bq g
   walk_at "evs"
   rw[e2]
   walk_at "evs"
  ·exact cv (by walk_at "evs";rfl)
 ·refine⟨x,f,cH rfl ?_,by simp only[Item.ok];exact⟨by lia,by lia,by lia,ho⟩⟩
  delta E8
  refine start _ _ (mD ?_ (cv (by walk_at "evs";rfl)))
  walk_at "evs"
  simp only[ao,aX,nP]
  walk_at "evs"
  cases q:(f[x]'hx==0) with
  | false=>simp
  | true =>
    rw[q,Bool.true_and] at hz
    simp[hz]
def fU(its:List Item):List Int:=its.map λa=>(a.deep:Int)
theorem WT(its:List Item):kv (0::fU its)=(Item.fM its:Int):=by
 refine Sf (LR ?_ ?_)
 ·induction its with
  | nil=>simp[Item.fM]
  | cons a r ih =>
    simp only[Item.fM,fU,cN,fh]
    by_cases h:Item.fM r<=a.deep
    ·rw[Nat.max_eq_left h];exact .inr (.inl rfl)
    ·rw[Nat.max_eq_right (by lia)]
     rcases List.mem_cons.mp ih with e | e
     ·exact .inl e
     ·exact .inr (.inr e)
 ·intro b hb
  rcases List.mem_cons.mp hb with rfl | hb
  ·lia
  ·obtain⟨a,ha,rfl⟩:=List.mem_map.mp hb
   have:=Item.tY.mp (bA (Item.fM its)) a ha
   lia
theorem WU{gb:G->R Fl}{i:Nat}{ds:List D}{Γ:G}(I:Nat->G->Prop)(h0:I 0 Γ)(hq:∀(j:Nat) (d:D) (Γ:G),ds[j]? = some d->I j Γ->Ends (gb (Γ.set i (.ro d))) (I (j+1))):∃Γ',dA gb i ds Γ = .ok (.nx Γ')/\I ds.length Γ':=by
 obtain⟨Γ',e,h'⟩:=vC I ds 0 Γ h0 λj d Γ hd hI=>by rw[gO] at hI ⊢;exact hq j d Γ hd hI
 rw[gO] at h'
 exact⟨Γ',e,h'⟩
theorem MI{gs:G->R (List D)}{gb u:G->R Fl}{i:Nat}{ds:List D}{Γ:G}(T:R Fl->Prop)(I:Nat->G->Prop)(hi:gs Γ = .ok ds)(h0:I 0 Γ)(hq:∀(j:Nat) (d:D) (Γ:G),ds[j]? = some d->I j Γ->Ends (gb (Γ.set i (.ro d))) (I (j+1)))(h:∀Γ',I ds.length Γ'->T (u Γ')):T (aG (fL i gs gb) u Γ):=by
 obtain⟨Γ',e,h'⟩:=WU I h0 hq
 rw[yh hi e rfl];exact h Γ' h'
theorem WV{cs:List Int}{P many ag:Int}(p1:3<=P)(p2:P<=9973)(m1:1<=many)(m2:many<=3)(tB:cs.length<=63) :
 ∃its:List Item,BH [.lst (cs.map D.int),.int P,.int many,.int ag] = .ok (.tup (its.map Item.d))/\Item.fA P many its/\Item.fM its<=3/\Item.gj its<=30/\2*Item.gj its<=cs.length:=by
 suffices h:∃its:List Item,E_ [.ro (.lst (cs.map D.int)),.ro (.int P),.ro (.int many),.ro (.int ag),.no,.no,.no,.no,.no] = .ok (.rt (.tup (its.map Item.d)))/\Item.fA P many its/\Item.fM its<=3/\Item.gj its<=30/\2*Item.gj its<=cs.length by
  obtain⟨its,e,h'⟩:=h
  exact⟨its,cH rfl e,h'⟩
 delta E_
 rw[fy (ds:=[]) (by walk_at "evs") rfl,fy (ds:=[]) (by walk_at "evs") rfl]
 let I:Nat->G->Prop:=λj Γ=>∃(its:List Item) (a:Int) (x6 x7 x8:En),Γ=[.ro (.lst (cs.map D.int)),.ro (.int P),.ro (.int many),.ro (.int a),.own (its.map Item.d),.own ((fU its).map D.int),x6,x7,x8]/\Item.fA P many its/\Item.fM its<=3/\Item.gj its<=j
 obtain⟨n,hn,Bn,en⟩:∃n:Nat,n<=30/\2*n<=cs.length/\ku 0 ((if (60:Int)<cs.length then 60 else (cs.length:Int))-1) 2=n:=by
  refine⟨_,?_,?_,rfl⟩<;>unfold ku<;>split<;>lia
 have ly:(kZ 0 2 n).length=n:=by unfold kZ;simp
 refine MI (ds:=kZ 0 2 n) (λr=>∃its:List Item,r = .ok (.rt (.tup (its.map Item.d)))/\Item.fA P many its/\Item.fM its<=3/\Item.gj its<=30/\2*Item.gj its<=cs.length) I ?_ ⟨[],ag,.no,.no,.no,rfl,True.intro,ji _,ji _⟩ ?turn ?_
 ·walk_at "evs"
  have r1:(-1073741824:Int)<=(if (60:Int)<cs.length then 60 else (cs.length:Int))-1/\(if (60:Int)<cs.length then 60 else (cs.length:Int))-1<1073741824:=by split<;>lia
  walk_at "evs"
  rw[en]
 case turn =>
  clear en ly
  rintro j d Γ hd ⟨its,a,x6,x7,x8,rfl,h1,h2,h3⟩
  obtain⟨hj,rfl⟩:=WI hd
  have hil:=Item.MG its
  have e0:(0:Int)+2*(j:Int)=((2*j:Nat):Int):=by lia
  rw[e0]
  have c0:=EV (ns:=cs) (k:=((2*j:Nat):Int)) (by lia) (by lia)
  have c1:=EV (ns:=cs) (k:=((2*j:Nat):Int)+1) (by lia) (by lia)
  generalize gE cs ((2*j:Nat):Int)=y at c0
  generalize gE cs (((2*j:Nat):Int)+1)=z at c1
  clear e0
  obtain⟨w,hw,ew⟩:∃w:Nat,w<=its.length/\(its.length:Int)-(if (its.length:Int)<y/4%4 then (its.length:Int) else y/4%4)=w:=by
   refine⟨((its.length:Int)-(if (its.length:Int)<y/4%4 then (its.length:Int) else y/4%4)).toNat,?_,?_⟩<;>split<;>lia
  have hd2:(fU its).drop w=fU (its.drop w):=by unfold fU;rw[w9]
  have n0:D.bQ [D.int 0]=true:=ko [0]
  have nd:D.bQ (D.int 0::(fU (its.drop w)).map D.int)=true:=ko (0::fU (its.drop w))
  have ll:(fU (its.drop w)).length<=30:=by unfold fU;rw[bD,rf];lia
  rw[b8 (d:=.int w) (by walk_at "evs";simp only[aX,c0];walk_at "evs";rw[ew]) rfl]
  rw[b8 (d:=.int (1+(Item.fM (its.drop w):Int))) (by
   walk_at "evs"
   rw[xY,<-w9,hd2]
   walk_at "evs"
   rw[e8 ⟨by lia,nd⟩]
   walk_at "evs"
   rw[WT]) rfl]
  generalize hk:Item.fM (its.drop w)=lv
  by_cases hc:y%4=3/\lv<3/\0<a
  ·obtain⟨pA,nE,Fc⟩:=hc
   have b1:(y%4==3)=true:=by simpa using pA
   have b2:decide (1+(lv:Int)<4)=true:=decide_eq_true (by lia)
   have b3:decide (0<a)=true:=decide_eq_true Fc
   obtain⟨m,em,m3,m4⟩:=WM z
   have d4:(Item.again m (its.drop w)).d = .tup [.str "again",.int m,.tup ((its.drop w).map Item.d)]:=by rw[Item.d,Item.ds_map]
   have q4:D.bQ [(Item.again m (its.drop w)).d]=true:=by have:=Item.cK (Item.again m (its.drop w));simp only[D.bQ,this,Bool.and_true]
   have q5:D.bQ ((its.take w).map Item.d++[(Item.again m (its.drop w)).d])=true:=by have:=Item.Fb (its.take w++[Item.again m (its.drop w)]);rwa [hV] at this
   have l4:((its.take w).map Item.d).length<=30:=by rw[bD,lX];lia
   refine .nx (Γ:=[.ro (.lst (cs.map D.int)),.ro (.int P),.ro (.int many),.ro (.int (a-1)),.own ((its.take w++[Item.again m (its.drop w)]).map Item.d),.own ((fU (its.take w++[Item.again m (its.drop w)])).map D.int),.ro (.int ((2*j:Nat):Int)),.ro (.int w),.ro (.int (1+(lv:Int)))]) (ky ?_ (fy (ds:=(its.take w++[Item.again m (its.drop w)]).map Item.d) ?_ (fy (ds:=(fU (its.take w++[Item.again m (its.drop w)])).map D.int) ?_ ((gW (d:=.int (a-1)) ?_).trans rfl)))) ⟨_,_,_,_,_,rfl,?_,?_,?_⟩
   ·walk_at "evs"
    simp only[aX,c0]
    walk_at "evs"
    simp only[b1,b2,b3]
    walk_at "evs"
   ·walk_at "evs"
    simp only[aX,c1,R.Eu,em]
    walk_at "evs"
    rw[xY,xZ,<-w9,<-w8,<-d4,e8 q4]
    walk_at "evs"
    rw[e8 ⟨by rw[bD] at l4;lia,q5⟩,hV]
    rfl
   ·have n1:D.bQ [D.int (1+(lv:Int))]=true:=ko [_]
    have e5:(fU (its.take w++[Item.again m (its.drop w)])).map D.int=((fU its).take w).map D.int++[D.int (1+(lv:Int))]:=by
     unfold fU
     rw[hV,hV,w8]
     simp only[cN,Az,Item.deep,hk]
     push_cast
     rfl
    have n5:=ko (fU (its.take w++[Item.again m (its.drop w)]))
    have l5:((fU its).take w).length<=30:=by unfold fU;rw[lX,bD];lia
    rw[e5] at n5 ⊢
    walk_at "evs"
    rw[xZ,<-w8,e8 ⟨by rw[bD];lia,n5⟩]
   ·walk_at "evs"
   ·rw[Item.tX] at h1 ⊢
    intro b hb
    rcases List.mem_append.mp hb with hb | hb
    ·exact h1 b (uW hb)
    ·rw[List.mem_singleton.mp hb,Item.ok]
     exact⟨m3,m4,Item.tX.mpr λb hb=>h1 b (Ss hb)⟩
   ·rw[Item.tY] at h2 ⊢
    intro b hb
    rcases List.mem_append.mp hb with hb | hb
    ·exact h2 b (uW hb)
    ·rw[List.mem_singleton.mp hb,Item.deep,hk];lia
   ·have e1:Item.gj its=Item.gj (its.take w)+Item.gj (its.drop w):=by rw[<-Item.BM,a6c]
    rw[Item.BM]
    simp only[Item.gj,Item.many]
    lia
  ·obtain⟨x,f,es,hx⟩:=WQ (c:=y/4) (m:=z) p1 p2 m1 m2
   have nx:=Item.cK (Item.set x f)
   have l6:(its.map Item.d).length<=30:=by rw[bD];lia
   have l7:((fU its).map D.int).length<=30:=by unfold fU;rw[bD,bD];lia
   refine .nx (Γ:=[.ro (.lst (cs.map D.int)),.ro (.int P),.ro (.int many),.ro (.int a),.own ((its++[Item.set x f]).map Item.d),.own ((fU (its++[Item.set x f])).map D.int),.ro (.int ((2*j:Nat):Int)),.ro (.int w),.ro (.int (1+(lv:Int)))]) (LW ?_ (eG (Γ':=[.ro (.lst (cs.map D.int)),.ro (.int P),.ro (.int many),.ro (.int a),.own ((its++[Item.set x f]).map Item.d),.own ((fU its).map D.int),.ro (.int ((2*j:Nat):Int)),.ro (.int w),.ro (.int (1+(lv:Int)))]) ?_ ?_)) ⟨_,_,_,_,_,rfl,?_,?_,?_⟩
   ·walk_at "evs"
    simp only[aX,c0]
    walk_at "evs"
    cases b1:(y%4==3) with
    | false=>rfl
    | true =>
      simp only[if_true]
      have:¬(1+(lv:Int)<4/\0<a):=λz=>hc ⟨by simpa using b1,by lia,z.2⟩
      by_cases b2:1+(lv:Int)<4
      ·have b3:decide (0<a)=false:=decide_eq_false λz=>this ⟨b2,z⟩
       simp only[decide_eq_true b2,b3,if_true]
      ·simp only[decide_eq_false b2]
       rfl
   ·rw[hV]
    walk_at "evs"
    simp only[aX,c0,c1]
    walk_at "evs"
    simp only[es]
    walk_at "evs"
   ·unfold fU
    rw[hV,hV]
    simp only[cN,Az,Item.deep]
    walk_at "evs"
    simp
   ·rw[Item.tX] at h1 ⊢
    intro b hb
    rcases List.mem_append.mp hb with hb | hb
    ·exact h1 b hb
    ·rw[List.mem_singleton.mp hb];exact hx
   ·rw[Item.tY] at h2 ⊢
    intro b hb
    rcases List.mem_append.mp hb with hb | hb
    ·exact h2 b hb
    ·rw[List.mem_singleton.mp hb,Item.deep];lia
   ·rw[Item.BM]
    simp only[Item.gj,Item.many]
    lia
 ·rintro Γ ⟨its,a,x6,x7,x8,rfl,h1,h2,h3⟩
  rw[ly] at h3
  exact⟨its,cv (by walk_at "evs"),h1,h2,by lia,by lia⟩
theorem WW{cs:List Int}{P many ag:Int}(p1:3<=P)(p2:P<=9973)(m1:1<=many)(m2:many<=3)(tB:cs.length<=63) :
 ∃its:List Item,BH [.lst (cs.map D.int),.int P,.int many,.int ag] = .ok (.tup (its.map Item.d))/\Item.fA P many its/\Item.fM its<=3/\Item.gj its<=30 :=
 let ⟨its,e,h1,h2,h3,_⟩:=WV (ag:=ag) p1 p2 m1 m2 tB;⟨its,e,h1,h2,h3⟩
theorem y5e:((bt "set")==(bt "again"))=false:=by decide +kernel
theorem y5f:((bt "again")==(bt "set"))=false:=by decide +kernel
theorem y1z(n:Nat):D.lay n (.str (bt "set"))=true:=by rw[rS];decide +kernel
theorem z7y(n:Nat):D.lay n (.str (bt "again"))=true:=by rw[rS];decide +kernel
def bJ(P:Int)(n:Nat)(t:List (List Int)):Nat->List (List Int)
 | 0=>gf n
 | k+1=>d8 P (bJ P n t k) t
section
variable {P:Int}{n:Nat}{t:List (List Int)}
theorem iO(hp:1<P)(ht:b0 P n t):∀k,b0 P n (bJ P n t k)
 | 0=>E0 hp n
 | k+1=>r8 (by lia) (iO hp ht k).1 ht.1
theorem WX(hp:1<P)(ht:b0 P n t):bJ P n t 1=t:=Mz hp ht
theorem yt(hp:1<P)(ht:b0 P n t)(a:Nat):∀b,bJ P n t (a+b)=d8 P (bJ P n t a) (bJ P n t b)
 | 0=>(MA hp (iO hp ht a)).symm
 | b+1=>by
   show d8 P (bJ P n t (a+b)) t=d8 P (bJ P n t a) (d8 P (bJ P n t b) t)
   rw[yt hp ht a b,Mu (by lia) (iO hp ht a).1 (iO hp ht b).1 ht.1]
theorem MJ(hp:1<P)(ht:b0 P n t)(a:Nat):∀b,bJ P n (bJ P n t a) b=bJ P n t (a*b)
 | 0=>rfl
 | b+1=>by
   show d8 P (bJ P n (bJ P n t a) b) (bJ P n t a)=bJ P n t (a*b+a)
   rw[MJ hp ht a b,yt hp ht]
theorem WY(hp:1<P)(ht:b0 P n t)(k:Nat):d8 P (bJ P n t k) (bJ P n t k)=bJ P n t (2*k):=by
 rw[<-yt hp ht,Nat.two_mul]
theorem WZ{s:List Int}(hp:1<P)(ht:b0 P n t)(hs:s.length=n)(a b:Nat):cG P (bJ P n t (a+b)) s=cG P (bJ P n t b) (cG P (bJ P n t a) s):=by
 rw[yt hp ht,qg (iO hp ht a).1 hs]
end
def d9(n:Nat):Nat:=if n=0 then 0 else n.log2+1
theorem MK{n j:Nat}:j<d9 n↔2^j<=n:=by
 unfold d9
 by_cases h:n=0
 ·rw[if_pos h,h]
  have:0<2^j:=Su j
  lia
 ·rw[if_neg h,Nat.lt_succ_iff,Nat.le_log2 h]
theorem Fd{n k:Nat}(h:n<2^k):d9 n<=k:=by
 rcases dt k (d9 n) with z | z
 ·have:=MK.mp z
  lia
 ·exact z
def cL(P:Int)(m:Nat)(t:List (List Int))(n:Nat):List (List (List Int)):=(bL n).map λj=>bJ P m t (2^j)
theorem W0(P:Int)(m:Nat)(t:List (List Int))(n:Nat):cL P m t (n+1)=cL P m t n++[bJ P m t (2^n)]:=by
 unfold cL;rw[uU,hV];rfl
theorem W2(n:Nat):ye (n:Int)=d9 n:=by
 unfold ye d9
 by_cases h:n=0
 ·subst h;rfl
 ·rw[if_neg h,a6d,if_neg]
  intro z
  have:(n:Int)=0:=by simpa using z
  lia
theorem vQ{P:Int}{m n:Nat}{t:List (List Int)}(p1:3<=P)(p2:P<=9973)(hm:m<=3)(ht:b0 P m t)(hn:n<2^150):BI [.int P,aR t,.int n] = .ok ((cL P m t (d9 n)).map aR):=by
 refine ph rfl ?_
 delta MC
 have hp:1<P:=by lia
 have hF:=Fd hn
 refine fy (ds:=[]) (by walk_at "evs") ?_
 refine b8 (d:=aR (bJ P m t (2^0))) (by rw[AJ,WX hp ht];walk_at "evs") ?_
 refine rX (ds:=gx 0 (d9 n)) (λj Γ=>∃x5,Γ=[.ro (.int P),.ro (aR t),.ro (.int n),.own ((cL P m t j).map aR),.ro (aR (bJ P m t (2^j))),x5]) ?_ ⟨_,rfl⟩ ?_ ?_
 ·walk_at "evs"
  rw[W2]
  walk_at "evs"
 ·rintro j d Γ hd ⟨x5,rfl⟩
  obtain⟨hj,rfl⟩:=E4 hd
  have hl:((cL P m t j).map aR).length<=200:=by unfold cL;rw[bD,bD,Jw];lia
  have tZ:=tU (P:=P) (n:=m) (by lia) (by lia) (iO hp ht (2^j)) (iO hp ht (2^j)) (by lia)
  rw[WY hp ht] at tZ
  refine .nx (eG (tL (d:=aR (bJ P m t (2^j))) rfl (by walk_at "evs") (by lia)) ((gW (d:=aR (bJ P m t (2^(j+1)))) ?_).trans ?_)) ⟨.ro (.int (0+(j:Int))),rfl⟩
  ·walk_at "evs"
   simp only[aR,tZ,DJ,uX _ 2]
   have:=nO (bJ P m t (2*2^j))
   walk_at "evs"
  ·rw[W0,hV]
   rfl
 ·rintro Γ ⟨x5,rfl⟩
  rw[o_]
  walk_at "evs"
theorem W3(n j:Nat):n%2^(j+1)=n%2^j+(n/2^j%2)*2^j:=by
 rw[DJ,Nat.mod_mul,uX (2^j)]
theorem ML(n:Nat):n%2^d9 n=n:=a6e (by
 rcases dt n (2^d9 n) with z | z
 ·exact z
 ·exact absurd (MK.mpr z) (dS _))
def nQ(n j:Nat):Bool:=n/2^j%2==1
def e_(n k:Nat):List Nat:=(bL k).filter (nQ n)
def gX:List Nat->Nat
 | []=>0
 | j::js=>2^j+gX js
theorem Fe:∀(a b:List Nat),gX (a++b)=gX a+gX b
 | [],b=>(gO _).symm
 | j::a,b=>by rw[Sv,gX,gX,Fe a b,Sw]
theorem Ff(n:Nat):∀k,gX (e_ n k)=n%2^k
 | 0=>by rw[AJ,Nat.mod_one];rfl
 | k+1=>by
   have h:e_ n (k+1)=e_ n k++(if nQ n k then [k] else []):=by
    unfold e_
    rw[uU,List.filter_append]
    cases q:nQ n k<;>simp[q]
   rw[h,Fe,Ff n k,W3]
   have w:n/2^k%2=0∨n/2^k%2=1:=by lia
   rcases w with w | w
   ·have:nQ n k=false:=by unfold nQ;rw[w];rfl
    rw[this,w,Sy];rfl
   ·have:nQ n k=true:=by unfold nQ;rw[w];rfl
    rw[this,w,Nat.one_mul];rfl
def t4(p:Nat->Bool):Nat->List D->List D
 | _,[]=>[]
 | k,x::xs=>if p k=true then x::t4 p (k+1) xs else t4 p (k+1) xs
theorem MM{f:D->D->G->R (Option D)}{Γ:G}(p:Nat->Bool):∀(xs:List D) (k:Nat) (acc:List D),(∀j x,xs[j]? = some x->f (.int ((k+j:Nat):Int)) x Γ = .ok (if p (k+j)=true then some x else none)) ->
 cj (z8z f Γ) (dY k xs) acc = .ok (acc++t4 p k xs)
 | [],k,acc,_=>by rw[dY,t4,oJ];rfl
 | x::xs,k,acc,h=>by
   have h0:=h 0 x rfl
   have ih:=λacc=>MM p xs (k+1) acc (λj y hy=>by
    have:=h (j+1) y hy
    rw[show k+1+j=k+(j+1) by lia];exact this)
   rw[dY,EK,show z8z f Γ (.tup [.int (k:Int),x])=f (.int (k:Int)) x Γ from rfl,show f (.int (k:Int)) x Γ=_ from h0]
   rw[oO,t4]
   by_cases q:p k=true
   ·rw[if_pos q,if_pos q]
    show cj (z8z f Γ) (dY (k+1) xs) (acc++[x])=_
    rw[ih,AA];rfl
   ·rw[if_neg q,if_neg q]
    exact ih acc
theorem MN(p:Nat->Bool)(F:Nat->D):∀(l s:Nat),t4 p s ((List.range' s l).map F)=((List.range' s l).filter p).map F
 | 0,s=>rfl
 | l+1,s=>by
   rw[List.range'_succ,cN,t4,MN p F l (s+1),AK]
   by_cases q:p s=true
   ·rw[if_pos q,if_pos q,cN]
   ·rw[if_neg q,if_neg q]
theorem W4(P:Int)(m:Nat)(t:List (List Int))(k:Nat):(cL P m t k).map aR=(bL k).map λj=>aR (bJ P m t (2^j)):=by
 unfold cL;rw[lZ];rfl
theorem MO:∀(k:Nat) (xs:List D),(dY k xs).length=xs.length
 | _,[]=>rfl
 | k,a::xs=>by rw[dY,dE,MO (k+1) xs,dE]
theorem vR{P:Int}{m n k:Nat}{t:List (List Int)}(hk:k<=1000):BJ [.lst ((cL P m t k).map aR),.int n] = .ok ((e_ n k).map λj=>aR (bJ P m t (2^j))):=by
 refine ph rfl (yg ?_)
 have nt:=vO (cL P m t k)
 have hl:((cL P m t k).map aR).length=k:=by unfold cL;simp
 show(y4d (gV 0) _>>=λitems=>R.guard _ _)=_
 have e1:y4d (gV 0) (gy 2 [.lst ((cL P m t k).map aR),.int n]) = .ok (dY 0 ((cL P m t k).map aR)):=by
  show(R.guard _ _:R (List D))=_
  rw[e8 nt]
 rw[e1]
 show R.guard _ _=_
 rw[e8 (by rw[MO,hl];lia),MM (nQ n),Jy,W4,a6f,MN]
 ·unfold e_;rw[a6f]
 ·intro j x hx
  have nx:D.cK x=true:=VF nt (kN hx)
  rw[gO]
  have e2:(n:Int)/2^j%2=((n/2^j%2:Nat):Int):=by
   rw[Int.natCast_emod,Int.natCast_ediv,DK];rfl
  have e3:((n:Int)/2^j%2==1)=nQ n j:=by
   rw[e2];unfold nQ
   cases q:(n/2^j%2==1) with
   | true=>rw[beq_iff_eq] at q;rw[q];rfl
   | false =>
     have:n/2^j%2=0:=by
      have h1:n/2^j%2≠1:=by simpa using q
      lia
     rw[this];rfl
  have e4:EL (.int (n:Int)) (.int ((j:Nat):Int)) = .ok (.int ((n:Int)/2^j)):=by
   show R.guard _ (R.ok (D.int ((n:Int)/2^((j:Nat):Int).toNat)))=_
   rw[e8 ⟨Sz n,Sz j⟩,rk]
  unfold vF
  walk_at "evs"
  rw[e4]
  walk_at "evs"
  rw[e3]
  cases q:nQ n j with
  | true=>walk_at "evs"
  | false=>rfl
theorem MP{n k i:Nat}{d:D}{F:Nat->D}(h:((e_ n k).map F)[i]? = some d):∃j,(e_ n k)[i]? = some j/\d=F j:=by
 rw[cf] at h
 cases q:(e_ n k)[i]? with
 | none=>rw[q] at h;cases h
 | some j=>rw[q] at h;injection h with h;exact⟨j,rfl,h.symm⟩
theorem MQ{l:List Nat}{i j:Nat}(h:l[i]? = some j):gX (l.take (i+1))=gX (l.take i)+2^j:=by
 rw[AL,h,Fe]
 show _+(2^j+0)=_
 rw[oO]
theorem t5{P:Int}{m n:Nat}{t:List (List Int)}(p1:3<=P)(p2:P<=9973)(hm:m<=3)(ht:b0 P m t)(hn:n<2^150):vP [.int P,aR t,.int n] = .ok (aR (bJ P m t n)):=by
 refine cH rfl ?_
 delta MD
 have hp:1<P:=by lia
 have el:=vQ p1 p2 hm ht hn
 have ei:=tW (n:=m) (by lia)
 have hF:=Fd hn
 have er:=vR (P:=P) (m:=m) (n:=n) (k:=d9 n) (t:=t) (by lia)
 refine b8 (d:=aR (bJ P m t 0)) ?_ ?_
 ·have:=nO (gf m)
  simp only[aR,bJ]
  walk_at "evs"
  rw[show(t.length:Int)=(m:Int) by rw[ht.1]]
  simp only[ei]
  walk_at "evs"
 refine rX (ds:=(e_ n (d9 n)).map λj=>aR (bJ P m t (2^j))) (λi Γ=>∃x4,Γ=[.ro (.int P),.ro (aR t),.ro (.int n),.ro (aR (bJ P m t (gX ((e_ n (d9 n)).take i)))),x4]) ?_ ⟨_,rfl⟩ ?_ ?_
 ·have nt:=vO (cL P m t (d9 n))
  walk_at "evs"
  simp only[el]
  walk_at "evs"
  simp only[er]
  have W5:D.bQ ((e_ n (d9 n)).map λj=>aR (bJ P m t (2^j)))=true:=vt λj _=>nO _
  walk_at "evs"
 ·rintro i d Γ hd ⟨x4,rfl⟩
  obtain⟨j,hj,rfl⟩:=MP hd
  have tZ:=tU (P:=P) (n:=m) (by lia) (by lia) (iO hp ht (gX ((e_ n (d9 n)).take i))) (iO hp ht (2^j)) (by lia)
  rw[<-yt hp ht,<-MQ hj] at tZ
  refine .nx (gW (d:=aR (bJ P m t (gX ((e_ n (d9 n)).take (i+1))))) ?_) ⟨_,rfl⟩
  walk_at "evs"
  simp only[aR,tZ]
  have:=nO (bJ P m t (gX ((e_ n (d9 n)).take (i+1))))
  walk_at "evs"
 ·rintro Γ ⟨x4,rfl⟩
  refine cv ?_
  walk_at "evs"
  rw[show((e_ n (d9 n)).take (e_ n (d9 n)).length)=e_ n (d9 n) from xc,Ff,ML]
end L3
namespace L3
open PySem
local macro_rules | `(tactic| walk_at "evs") => wkL " L3.z7u L3.z4j L3.s_on L3.z4s L3.z4t L3.z4u L3.z5g L3.z4h L3.z4v L3.z0n L3.z6e L3.y4v L3.y4u L3.y7e L3.Item.d L3.Item.ds_map L3.z8u L3.y5e L3.y5f L3.y1z L3.z7y"
mutual
def Item.tab(P:Int)(m:Nat):Item->List (List Int)
 | .set x f=>(gf m).set x.toNat f
 | .again n its=>bJ P m (Item.tabs P m its) n.toNat
def Item.tabs(P:Int)(m:Nat):List Item->List (List Int)
 | []=>gf m
 | a::r=>d8 P (a.tab P m) (Item.tabs P m r)
end
theorem W6{P:Int}{m x:Nat}{f:List Int}(hp:1<P)(h:pv P m f):b0 P m ((gf m).set x f):=by
 obtain⟨h1,h2⟩:=E0 hp m
 refine⟨by rw[kd];exact h1,λr hr=>?_⟩
 rcases List.mem_or_eq_of_mem_set hr with z | z
 ·exact h2 r z
 ·rw[z];exact h
mutual
theorem Item.BN{P:Int}{m:Nat}(hp:1<P):∀a:Item,a.ok P m->b0 P m (a.tab P m)
 | .set x f,h=>by
   simp only[Item.ok] at h
   exact W6 hp ⟨h.2.2.2,by lia⟩
 | .again n its,h=>by
   simp only[Item.ok] at h
   exact iO hp (Item.tabs_ok hp its h.2.2) _
theorem Item.tabs_ok{P:Int}{m:Nat}(hp:1<P):∀its:List Item,Item.fA P m its->b0 P m (Item.tabs P m its)
 | [],_=>E0 hp m
 | a::r,h=>by
   simp only[Item.fA] at h
   exact r8 (by lia) (Item.BN hp a h.1).1 (Item.tabs_ok hp r h.2).1
end
theorem Item.MR{P:Int}{m:Nat}(hp:1<P):∀{a b:List Item},Item.fA P m a->Item.fA P m b->Item.tabs P m (a++b)=d8 P (Item.tabs P m a) (Item.tabs P m b)
 | [],b,_,hb=>(Mz hp (Item.tabs_ok hp b hb)).symm
 | x::a,b,ha,hb=>by
   simp only[Item.fA] at ha
   show d8 P (x.tab P m) (Item.tabs P m (a++b))=d8 P (d8 P (x.tab P m) (Item.tabs P m a)) (Item.tabs P m b)
   rw[Item.MR hp ha.2 hb,Mu (by lia) (Item.BN hp x ha.1).1 (Item.tabs_ok hp a ha.2).1 (Item.tabs_ok hp b hb).1]
theorem Item.W7{P:Int}{m:Nat}(hp:1<P){a:Item}(h:a.ok P m):Item.tabs P m [a]=a.tab P m:=MA hp (Item.BN hp a h)
theorem W8{its:List Item}{j:Nat}{d:D}(h:(its.map Item.d)[j]? = some d):∃a:Item,its[j]? = some a/\d=a.d/\a∈its:=by
 rw[cf] at h
 cases q:its[j]? with
 | none=>rw[q] at h;cases h
 | some a=>rw[q] at h;cases h;exact⟨a,rfl,rfl,kN q⟩
theorem W9{α:Type}{l:List α}{j:Nat}{a:α}(h:l[j]? = some a):l.take (j+1)=l.take j++[a]:=by
 rw[AL,h];rfl
theorem Item.MS{P many:Int}{its:List Item}(h:Item.fA P many its)(j:Nat):Item.fA P many (its.take j):=Item.tX.mpr λa ha=>Item.tX.mp h a (uW ha)
theorem W_:(10:Int)^30<2^150:=by decide
theorem Xa{n:Int}(h0:0<=n)(h:n<=10^30):∃k:Nat,n=(k:Int)/\n.toNat=k/\k<2^150:=by
 have:=W_
 exact⟨n.toNat,by lia,rfl,by lia⟩
theorem r9{P:Int}{m:Nat}(p1:3<=P)(p2:P<=9973)(hm:m<=3):∀(k:Nat) (its:List Item),2*Item.fM its+2<=k->Item.fA P m its->lx k [.int P,.int m,.tup (its.map Item.d)] = .ok (aR (Item.tabs P m its))
 | 0,_,h,_=>by lia
 | 1,_,h,_=>by lia
 | k+2,its,h,ho=>by
   have hp:1<P:=by lia
   show b6 3 5 (BK (lx (k+1)) (qh (k+1))) _=_
   refine cH rfl ?_
   delta BK
   have hn:=Item.Fb its
   have ei:=tW (n:=m) (by lia)
   refine b8 (d:=aR (Item.tabs P m (its.take 0))) ?_ ?_
   ·have:=nO (gf m)
    walk_at "evs"
    simp only[ei]
    walk_at "evs"
    rfl
   refine rX (ds:=its.map Item.d) (λj Γ=>∃x4,Γ=[.ro (.int P),.ro (.int m),.ro (.tup (its.map Item.d)),.ro (aR (Item.tabs P m (its.take j))),x4]) (by walk_at "evs") ⟨_,rfl⟩ ?_ ?_
   ·rintro j d Γ hd ⟨x4,rfl⟩
    obtain⟨a,ea,rfl,ha⟩:=W8 hd
    have qi:=Item.tX.mp ho a ha
    have MT:=Item.MS ho j
    have e:qh (k+1) [.int P,.int m,a.d] = .ok (aR (a.tab P m)):=by
     show b6 3 3 (BL (lx k) (qh k)) _=_
     refine cH rfl ?_
     delta BL
     cases a with
     | set x f =>
       simp only[Item.ok] at qi
       obtain⟨y,rfl⟩:∃y:Nat,x=(y:Int):=⟨x.toNat,by lia⟩
       have es:=yr (n:=m) (x:=y) (f:=f) (by lia) (by lia)
       refine pf (ky (by walk_at "evs") (cv ?_))
       walk_at "evs"
       simp only[es]
       rfl
     | again n i =>
       have h1:=Item.tY.mp (bA (Item.fM its)) _ ha
       simp only[Item.deep] at h1
       simp only[Item.ok] at qi
       obtain⟨y,rfl,ey,hy⟩:=Xa qi.1 qi.2.1
       have ih:=r9 p1 p2 hm k i (by lia) qi.2.2
       have er:=t5 (n:=y) p1 p2 hm (Item.tabs_ok hp i qi.2.2) hy
       refine mD (by walk_at "evs") (cv ?_)
       walk_at "evs"
       simp only[ih]
       walk_at "evs"
       simp only[er]
       rfl
    have tZ:=tU (P:=P) (n:=m) (by lia) (by lia) (Item.tabs_ok hp _ MT) (Item.BN hp a qi) (by lia)
    have et:Item.tabs P m (its.take (j+1))=d8 P (Item.tabs P m (its.take j)) (a.tab P m):=by
     rw[W9 ea,Item.MR hp MT (by simp only[Item.fA];exact⟨qi,trivial⟩),Item.W7 hp qi]
    refine .nx (gW (d:=aR (Item.tabs P m (its.take (j+1)))) ?_) ⟨_,rfl⟩
    have:=nO (d8 P (Item.tabs P m (its.take j)) (a.tab P m))
    walk_at "evs"
    simp only[e]
    walk_at "evs"
    simp only[aR,tZ,et]
    walk_at "evs"
   ·rintro Γ ⟨x4,rfl⟩
    refine cv ?_
    walk_at "evs"
    rw[AE (bA _)]
theorem Xb(ns:List Int)(lo hi:Option Int):iM (ns.map D.int) lo hi=(iM ns lo hi).map D.int:=V3 D.int ns lo hi
theorem Xc{α:Type}(xs:List α)(lo hi:Option Int):(iM xs lo hi).length<=xs.length:=by
 unfold iM;rw[lX,rf];lia
theorem BO(its:List Item):(D.tup (its.map Item.d)).cK=true:=by have:=Item.Fb its;simpa [D.cK] using this
theorem Xd(c:Int):∃m:Nat,1+c%3=(m:Int)/\1<=m/\m<=3:=⟨(1+c%3).toNat,by lia,by lia,by lia⟩
end L3
namespace L3
open PySem
local macro_rules | `(tactic| walk_at "evs") => wkL " L3.z7u L3.z4j L3.s_on L3.z4s L3.z4t L3.z4u L3.z5g L3.z4h L3.z4v L3.z0n"
theorem Xe{P d:Int}(hp:cV P=false)(h3:3<=P)(h:P<=9973)(h1:2<=d)(h2:d<P):P%d≠0:=by
 intro e
 have hn:¬∃b:Int,2<=b/\b<100/\b<P/\P%b=0:=λq=>by rw[(EW P).mpr q] at hp;cases hp
 by_cases hd:d<100
 ·exact hn ⟨d,h1,hd,h2,e⟩
 ·have e1:P=d*(P/d):=by have:=DL P d;lia
  generalize hq:P/d=q at *
  have q0:0<q:=by
   rcases DM 0 q with z | z | z
   ·exact z
   ·rw[<-z] at e1;simp at e1;lia
   ·have:d*q<0:=SA (by lia) z
    lia
  have q1:q≠1:=λz=>by rw[z] at e1;lia
  have q2:q<100:=by
   rcases DN q 100 with z | z
   ·exact z
   ·have:100*100<=d*q:=jD (by lia) z (by lia) (by lia)
    lia
  refine hn ⟨q,by lia,q2,?_,?_⟩
  ·have:2*q<=d*q:=Jz h1 (by lia)
   lia
  ·rw[e1];exact a6g d q
theorem Xf{P n0:Int}(hp:cV P=false)(h3:3<=P)(h:P<=9973)(x1:En):∀(k m:Nat) (Γ:G),m<k ->
 (∃a b:Int,Γ=[.ro (.int P),x1,.ro (.int b),.ro (.int a)]/\1<=b/\b<P/\0<=a/\a<P/\cg P (a*n0) b/\b.toNat=m) ->
 ∃a:Int,df (gT (au ij (gV 2) (gC (.int 1)))) (aG (aV 3 (aL (aI lq (ai (gV 0) (ai (au dX (tD (gV 3)) (au gu (gV 0) (gV 2))) aB))))) (aV 2 (aL (au dn (gV 0) (gV 2))))) k Γ = .ok (.nx [.ro (.int P),x1,.ro (.int 1),.ro (.int a)])/\0<=a/\a<P/\cg P (a*n0) 1:=by
 refine nK _ (λr=>∃a:Int,r = .ok (.nx [.ro (.int P),x1,.ro (.int 1),.ro (.int a)])/\0<=a/\a<P/\cg P (a*n0) 1) ?_
 rintro m Γ ⟨a,b,rfl,b1,b2,a1,a2,hc,hm⟩
 by_cases hb:b=1
 ·subst hb
  refine .inl ⟨by walk_at "evs",a,rfl,a1,a2,hc⟩
 ·have Fg:(b==1)=false:=by simpa using hb
  have MU:=Xe hp h3 h (d:=b) (by lia) b2
  have r1:0<=P%b:=k_ (by lia)
  have r2:P%b<b:=lh (by lia)
  have hq0:0<=P/b:=a6h (by lia) (by lia)
  have hq1:P/b<=P:=a6i b (by lia)
  have he:P%b=P-b*(P/b):=by have:=DL P b;lia
  refine .inr ⟨by walk_at "evs";simp only[Fg];walk_at "evs",.inl ⟨[.ro (.int P),x1,.ro (.int (P%b)),.ro (.int ((-a*(P/b))%P))],(P%b).toNat,by lia,.inl ?_,_,_,rfl,by lia,by lia,k_ (by lia),lh (by lia),?_,rfl⟩⟩
  ·refine b8 (d:=.int ((-a*(P/b))%P)) (by walk_at "evs") ?_
   refine gW ?_
   walk_at "evs"
  ·have c1:cg P ((-a*(P/b))%P*n0) (-(P/b)*(a*n0)):=by
    refine(ip.mul cg.refl).trans (cg.of_eq ?_)
    rw[m_,m_,m_,dN,Int.mul_left_comm]
   have c2:cg P (-(P/b)*(a*n0)) (-(P/b)*b):=cg.mul cg.refl hc
   refine(c1.trans c2).trans ?_
   rw[he]
   have:cg P (-(P/b)*b) (P-b*(P/b)):=by
    rw[L4]
    rw[show -(P/b)*b-(P-b*(P/b)) = -P by rw[m_,iH];lia]
    simp
   exact this
theorem r_{P n:Int}(hp:cV P=false)(h3:3<=P)(h:P<=9973):(n%P=0->pk [.int P,.int n] = .er .vq)/\(n%P≠0->∃a:Int,pk [.int P,.int n] = .ok (.int a)/\0<a/\a<P/\(a*n)%P=1):=by
 have r1:0<=n%P:=k_ (by lia)
 have r2:n%P<P:=lh (by lia)
 refine⟨λe=>?_,λe=>?_⟩
 ·refine Wr (Γ:=[.ro (.int P),.ro (.int n),.ro (.int 0),.no]) rfl ?_
  delta EU
  refine b8 (d:=.int 0) (by walk_at "evs";rw[e];walk_at "evs") ?_
  refine Wn (ky (by walk_at "evs") ?_)
  rfl
 ·have Fg:(n%P==0)=false:=by simpa using e
  obtain⟨a,ea,a1,a2,ac⟩:=Xf (n0:=n%P) hp h3 h (.ro (.int n)) 100000 (n%P).toNat [.ro (.int P),.ro (.int n),.ro (.int (n%P)),.ro (.int 1)] (by lia) ⟨1,n%P,rfl,by lia,r2,by lia,by lia,cg.of_eq (by lia),rfl⟩
  have hc:cg P (a*n) 1:=(cg.mul cg.refl ip.symm).trans ac
  have h1:(a*n)%P=1:=by
   unfold cg at hc
   rw[hc,ke (by lia) (by lia)]
  have a0:a≠0:=λz=>by rw[z] at h1;simp at h1
  refine⟨a,?_,by lia,a2,h1⟩
  refine cH rfl ?_
  delta EU
  refine b8 (d:=.int (n%P)) (by walk_at "evs") ?_
  refine mD (by walk_at "evs";simp only[Fg];walk_at "evs") ?_
  refine b8 (d:=.int 1) (by walk_at "evs") ?_
  refine eG ea ?_
  exact cv (by walk_at "evs")
def vec(r:List Int):Nat->Int:=λi=>(r[i]?).getD 0
inductive Span (P:Int) (S:List (List Int)):(Nat->Int)->Prop
 | zero {v:Nat->Int}:(∀i,cg P (v i) 0)->Span P S v
 | add {u v:Nat->Int} {c:Int} {r:List Int}:r∈S->Span P S u->(∀i,cg P (v i) (u i+c*vec r i))->Span P S v
section
variable {P:Int}{S T:List (List Int)}{u v:Nat->Int}{c:Int}{r:List Int}
theorem Span.fB(h:Span P S u)(e:∀i,cg P (v i) (u i)):Span P S v:=by
 cases h with
 | zero z=>exact .zero λi=>(e i).trans (z i)
 | add hr hu q=>exact .add hr hu λi=>(e i).trans (q i)
theorem Span.nR(h:r∈S):Span P S (vec r):=.add (c:=1) h (.zero (v:=λ_=>0) λ_=>cg.refl) λi=>cg.of_eq (by lia)
theorem Span.plus(h:Span P S u)(g:Span P S v):Span P S (λi=>u i+v i):=by
 induction h with
 | zero z =>
   refine g.fB λi=>?_
   have:=(z i).add (cg.refl (P:=P) (a:=v i))
   rw[iI] at this;exact this
 | @add u' v' c' r' hr hu q ih =>
   refine .add (c:=c') hr ih λi=>?_
   refine((q i).add cg.refl).trans (cg.of_eq ?_)
   lia
theorem Span.times(c:Int)(h:Span P S u):Span P S (λi=>c*u i):=by
 induction h with
 | zero z =>
   refine .zero λi=>?_
   have:=(cg.refl (P:=P) (a:=c)).mul (z i)
   rw[gq] at this;exact this
 | @add u' v' c' r' hr hu q ih =>
   refine .add (c:=c*c') hr ih λi=>?_
   refine(cg.refl.mul (q i)).trans (cg.of_eq ?_)
   rw[uT,dN]
theorem Span.trans(h:∀r∈S,Span P T (vec r))(g:Span P S v):Span P T v:=by
 induction g with
 | zero z=>exact .zero z
 | add hr hu q ih=>exact(ih.plus ((h _ hr).times _)).fB q
theorem Span.sub(hu:Span P S u)(hv:Span P S v):Span P S (λi=>u i-v i):=(hu.plus (hv.times (-1))).fB λi=>cg.of_eq (by lia)
theorem Span.Xg{j:Nat}(h:∀r∈S,cg P (vec r j) 0)(g:Span P S v):cg P (v j) 0:=by
 induction g with
 | zero z=>exact z j
 | @add u' v' c' r' hr hu q ih =>
   refine(q j).trans ?_
   have:=ih.add ((cg.refl (P:=P) (a:=c')).mul (h _ hr))
   rw[gq,Jv] at this
   exact this
end
def aO(r:List Int):Nat:=r.findIdx (λx=>!(x==0))
theorem mI{r:List Int}{i:Nat}(h:i<aO r):vec r i=0:=by
 unfold aO at h
 have hl:i<r.length:=b_ h List.findIdx_le_length
 have:=List.not_of_lt_findIdx h
 unfold vec
 rw[cD hl]
 simpa using this
theorem BP{r:List Int}(h:aO r<r.length):vec r (aO r)≠0:=by
 have:=List.findIdx_getElem (xs:=r) (p:=λx=>!(x==0)) (w:=h)
 unfold vec
 have e:r[aO r]? = some (r[aO r]'h):=cD h
 rw[e]
 intro z
 have z':r[r.findIdx (λx=>!(x==0))]'h=0:=z
 simp[z'] at this
theorem BQ{r:List Int}{p:Nat}(h0:∀i,i<p->vec r i=0)(h1:vec r p≠0):aO r=p:=by
 have hl:p<r.length:=by
  rcases dt p r.length with z | z
  ·exact z
  ·exact absurd (by unfold vec;rw[eY z];rfl) h1
 rcases DO (aO r) p with z | z | z
 ·have h2:=BP (r:=r) (by lia)
  exact absurd (h0 _ z) h2
 ·exact z
 ·exact absurd (mI z) h1
structure nU (P:Int) (w:Nat) (S:List (List Int)):Prop where
 row:∀r∈S,r.length=w/\bX P r/\aO r<w/\vec r (aO r)=1
 pair:S.Pairwise λr r'=>aO r<aO r'/\vec r (aO r')=0
def comb(S:List (List Int))(v:Nat->Int)(i:Nat):Int:=(S.map λr=>v (aO r)*vec r i).sum
theorem se{α:Type}{f:α->Int}:∀{l:List α},(∀a∈l,f a=0)->(l.map f).sum=0
 | [],_=>rfl
 | a::l,h=>by rw[cN,nc,h a bV,se λb hb=>h b (bY _ hb)];rfl
theorem yu{α:Type}{P:Int}{f g:α->Int}:∀{l:List α},(∀a∈l,cg P (f a) (g a))->cg P (l.map f).sum (l.map g).sum
 | [],_=>cg.refl
 | a::l,h=>by rw[cN,nc,cN,nc];exact(h a bV).add (yu λb hb=>h b (bY _ hb))
theorem MV{α:Type}(f g:α->Int):∀l:List α,(l.map λa=>f a+g a).sum=(l.map f).sum+(l.map g).sum
 | []=>rfl
 | a::l=>by simp only[cN,nc,MV f g l];lia
theorem MW{α:Type}(c:Int)(f:α->Int):∀l:List α,(l.map λa=>c*f a).sum=c*(l.map f).sum
 | []=>by simp
 | a::l=>by simp only[cN,nc,MW c f l,uT]
theorem Xh{S:List (List Int)}(hp:S.Pairwise λr r'=>aO r<aO r'/\vec r (aO r')=0)(h1:∀r∈S,vec r (aO r)=1){r0:List Int}(h:r0∈S)(i:Nat):comb S (vec r0) i=vec r0 i:=by
 induction S with
 | nil=>cases h
 | cons a S ih =>
   obtain⟨ha,hS⟩:=List.pairwise_cons.mp hp
   unfold comb
   rw[cN,nc]
   rcases List.mem_cons.mp h with rfl | h
   ·rw[h1 _ bV,se λr hr=>by rw[(ha r hr).2,gP]];lia
   ·have hz:vec r0 (aO a)=0:=mI (ha r0 h).1
    have:=ih hS (λr hr=>h1 r (bY _ hr)) h
    unfold comb at this
    rw[this,hz];lia
section
variable {P:Int}{w:Nat}{S T:List (List Int)}{v:Nat->Int}
theorem yv(hS:nU P w S)(h:Span P S v)(i:Nat):cg P (v i) (comb S v i):=by
 induction h with
 | zero z =>
   refine(z i).trans (cg.symm ?_)
   unfold comb
   have:cg P (S.map λr=>_).sum (S.map λ_=>(0:Int)).sum:=yu (f:=λr=>_*vec r i) λr hr=>by
    have:=(z (aO r)).mul (cg.refl (P:=P) (a:=vec r i))
    rw[gP] at this;exact this
   rw[se (f:=λ_:List Int=>(0:Int)) λ_ _=>rfl] at this
   exact this
 | @add u v' c r hr hu q ih =>
   have e1:=Xh hS.pair (λr hr=>(hS.row r hr).2.2.2) hr i
   have e2:cg P (comb S v' i) (comb S (λk=>u k+c*vec r k) i):=yu λr' _=>(q (aO r')).mul cg.refl
   have e3:comb S (λk=>u k+c*vec r k) i=comb S u i+c*comb S (vec r) i:=by
    unfold comb
    rw[<-MW,<-MV]
    congr 1
    refine AH λa _=>?_
    rw[DP,dN]
   refine(q i).trans (((ih.add (cg.refl (a:=c*vec r i))).trans ?_).trans e2.symm)
   rw[e3,e1]
   exact cg.refl
theorem MX(hS:nU P w S)(h:Span P S v){p:Nat}(h0:∀i,i<p->cg P (v i) 0)(h1:¬cg P (v p) 0):∃r∈S,aO r=p:=by
 refine xh λhn=>h1 ?_
 refine(yv hS h p).trans ?_
 unfold comb
 have:cg P (S.map λr=>v (aO r)*vec r p).sum (S.map λ_=>(0:Int)).sum:=yu (f:=λr=>v (aO r)*vec r p) λr hr=>by
  rcases DO (aO r) p with z | z | z
  ·have:=(h0 _ z).mul (cg.refl (P:=P) (a:=vec r p))
   rw[gP] at this;exact this
  ·exact absurd ⟨r,hr,z⟩ hn
  ·rw[mI z,gq];exact cg.refl
 rw[se (f:=λ_:List Int=>(0:Int)) λ_ _=>rfl] at this
 exact this
theorem vS(hp:1<P):¬cg P 1 0:=λh=>by
 unfold cg at h
 rw[ke (by lia) hp,pR] at h
 lia
theorem Fh(hp:1<P)(hS:nU P w S)(hT:nU P w T)(h:∀t∈T,Span P S (vec t)){t:List Int}(ht:t∈T):∃r∈S,aO r=aO t:=by
 refine MX hS (h t ht) (λi hi=>by rw[mI hi];exact cg.refl) ?_
 rw[(hT.row t ht).2.2.2]
 exact vS hp
theorem MY:∀{a b:List Nat},a.Pairwise (·<·)->b.Pairwise (·<·)->(∀x,x∈a↔x∈b)->a=b
 | [],[],_,_,_=>rfl
 | [],y::b,_,_,h=>by have:=(h y).mpr bV;cases this
 | x::a,[],_,_,h=>by have:=(h x).mp bV;cases this
 | x::a,y::b,ha,hb,h=>by
   obtain⟨MZ,Xi⟩:=List.pairwise_cons.mp ha
   obtain⟨M0,Xj⟩:=List.pairwise_cons.mp hb
   have Xk:x=y:=by
    rcases List.mem_cons.mp ((h x).mp bV) with e | e
    ·exact e
    ·rcases List.mem_cons.mp ((h y).mpr bV) with e' | e'
     ·exact e'.symm
     ·have:=MZ y e'
      have:=M0 x e
      lia
   subst Xk
   rw[MY Xi Xj λz=>?_]
   constructor
   ·intro hz
    rcases List.mem_cons.mp ((h z).mp (bY _ hz)) with e | e
    ·have:=MZ z hz;lia
    ·exact e
   ·intro hz
    rcases List.mem_cons.mp ((h z).mpr (bY _ hz)) with e | e
    ·have:=M0 z hz;lia
    ·exact e
theorem Fi{a b:List Int}(hp:0<P)(la:a.length=w)(lb:b.length=w)(oa:bX P a)(ob:bX P b)(h:∀i,cg P (vec a i) (vec b i)):a=b:=by
 refine EY (la.trans lb.symm) λk hk=>?_
 have h1:=mH hp oa k
 have h2:=mH hp ob k
 exact(h k).ER h1.1 h1.2 h2.1 h2.2
theorem Fj(hS:nU P w S){r r':List Int}(h:r∈S)(h':r'∈S)(e:aO r≠aO r'):vec r (aO r')=0:=by
 have key:∀{S:List (List Int)},S.Pairwise (λr r'=>aO r<aO r'/\vec r (aO r')=0)->r∈S->r'∈S->vec r (aO r')=0:=by
  intro S
  induction S with
  | nil=>intro _ h _;cases h
  | cons a S ih =>
    intro hp h h'
    obtain⟨h1,h2⟩:=List.pairwise_cons.mp hp
    rcases List.mem_cons.mp h with rfl | g
    ·rcases List.mem_cons.mp h' with rfl | g'
     ·exact absurd rfl e
     ·exact(h1 _ g').2
    ·rcases List.mem_cons.mp h' with rfl | g'
     ·exact mI (h1 _ g).1
     ·exact ih h2 g g'
 exact key hS.pair h h'
theorem Xl(hp:1<P)(hS:nU P w S)(hT:nU P w T)(h1:∀t∈T,Span P S (vec t))(h2:∀r∈S,Span P T (vec r)):S=T:=by
 have Xm:(S.map aO).Pairwise (·<·):=List.pairwise_map.mpr (hS.pair.imp λq=>q.1)
 have Xn:(T.map aO).Pairwise (·<·):=List.pairwise_map.mpr (hT.pair.imp λq=>q.1)
 have el:S.map aO=T.map aO:=MY Xm Xn λx=>by
  constructor
  ·intro hx
   obtain⟨r,hr,rfl⟩:=List.mem_map.mp hx
   obtain⟨t,ht,e⟩:=Fh hp hT hS h2 hr
   exact List.mem_map.mpr ⟨t,ht,e⟩
  ·intro hx
   obtain⟨t,ht,rfl⟩:=List.mem_map.mp hx
   obtain⟨r,hr,e⟩:=Fh hp hS hT h1 ht
   exact List.mem_map.mpr ⟨r,hr,e⟩
 have er:∀r∈S,∀t∈T,aO r=aO t->r=t:=λr hr t ht e=>by
  obtain⟨a1,a2,a3,a4⟩:=hS.row r hr
  obtain⟨b1,b2,b3,b4⟩:=hT.row t ht
  refine Fi (by lia) a1 b1 a2 b2 λi=>?_
  have sp:=(Span.nR (P:=P) hr).sub (h1 t ht)
  have q:=yv hS sp i
  have z:comb S (λk=>vec r k-vec t k) i=0:=by
   refine se λa ha=>?_
   have e0:vec r (aO a)-vec t (aO a)=0:=by
    by_cases ea:aO r=aO a
    ·rw[<-ea,a4,e,b4];rfl
    ·rw[Fj hS hr ha ea]
     obtain⟨t',Xo,Xp⟩:=Fh hp hT hS h2 ha
     rw[<-Xp,Fj hT ht Xo (by lia)];rfl
   show(vec r (aO a)-vec t (aO a))*vec a i=0
   rw[e0,gP]
  rw[z] at q
  have:=q.add (cg.refl (P:=P) (a:=vec t i))
  rw[iI] at this
  exact cg.trans (cg.of_eq (by lia)) this
 have hl:S.length=T.length:=by have:=congrArg uR el;simpa using this
 refine DH hl λi hi hj=>?_
 refine er _ (pS hi) _ (pS hj) ?_
 have:=congrArg (λl=>l[i]?) el
 simp only[cf,cD hi,cD hj,AI,xj] at this
 exact this
end
def eI(P:Int)(r:List Int)(c:Int):List Int:=r.map λn=>(c*n)%P
def d_(P:Int)(r l:List Int)(p:Nat):List Int:=(r.zip l).map λx=>(x.1-vec r p*x.2)%P
section
variable {P:Int}{w p:Nat}{r l:List Int}{c:Int}
theorem yw(i:Nat):vec (eI P r c) i=(c*vec r i)%P:=by
 unfold vec eI
 rw[cf]
 cases r[i]? with
 | none=>simp
 | some x=>rfl
theorem yx:(eI P r c).length=r.length:=by unfold eI;simp
theorem BR(hp:0<P):bX P (eI P r c):=λn hn=>by
 obtain⟨x,_,rfl⟩:=List.mem_map.mp hn
 exact⟨k_ hp,lh hp⟩
theorem yy(hl:r.length=l.length)(i:Nat):vec (d_ P r l p) i=(vec r i-vec r p*vec l i)%P:=by
 show((d_ P r l p)[i]?).getD 0=_
 unfold d_
 rw[cf]
 by_cases h:i<r.length
 ·rw[cD (by rw[AM];lia),a6j]
  show(r[i]-vec r p*l[i])%P=_
  rw[show vec r i=r[i] by unfold vec;rw[cD h];rfl,show vec l i=l[i]'(by lia) by unfold vec;rw[cD (by lia)];rfl]
 ·rw[eY (by rw[AM];lia),show vec r i=0 by unfold vec;rw[eY (by lia)];rfl,show vec l i=0 by unfold vec;rw[eY (by lia)];rfl]
  simp
theorem M5(hl:r.length=l.length):(d_ P r l p).length=r.length:=by unfold d_;simp;lia
theorem M6(hp:0<P):bX P (d_ P r l p):=λn hn=>by
 obtain⟨x,_,rfl⟩:=List.mem_map.mp hn
 exact⟨k_ hp,lh hp⟩
theorem Xq(hp:0<P)(h:bX P r)(i:Nat):vec r i%P=vec r i:=by
 have:=mH hp h i
 exact ke this.1 this.2
end
structure pB (P:Int) (w p:Nat) (rows left steps:List (List Int)):Prop where
 lA:∀r∈left,r.length=w/\bX P r/\∀i,i<p->vec r i=0
 step:∀r∈steps,r.length=w/\bX P r/\aO r<p/\vec r (aO r)=1
 pair:steps.Pairwise λr r'=>aO r<aO r'/\vec r (aO r')=0
 yz:∀r∈left,Span P rows (vec r)
 lB:∀r∈steps,Span P rows (vec r)
 all:∀r∈rows,Span P (left++steps) (vec r)
section
variable {P:Int}{w p:Nat}{rows left steps:List (List Int)}
theorem pB.skip(g:pB P w p rows left steps)(h:∀r∈left,vec r p=0):pB P w (p+1) rows left steps where
 lA:=λr hr=>by
  obtain⟨h1,h2,h3⟩:=g.lA r hr
  refine⟨h1,h2,λi hi=>?_⟩
  rcases dt i p with z | z
  ·exact h3 i z
  ·rw[show i=p by lia];exact h r hr
 step:=λr hr=>by obtain⟨h1,h2,h3,h4⟩:=g.step r hr;exact⟨h1,h2,by lia,h4⟩
 pair:=g.pair
 yz:=g.yz
 lB:=g.lB
 all:=g.all
theorem M7{S:List (List Int)}{r l:List Int}(hl:r.length=l.length)(h1:Span P S (vec r))(h2:Span P S (vec l)):Span P S (vec (d_ P r l p)):=by
 refine(h1.sub (h2.times (vec r p))).fB λi=>?_
 rw[yy hl]
 exact ip
theorem pB.turn(g:pB P w p rows left steps)(hp:1<P)(hw:p<w){r0:List Int}(h0:r0∈left){a:Int}(ha:(a*vec r0 p)%P=1){l:List Int}(el:l=eI P r0 a):pB P w (p+1) rows (left.map λr=>d_ P r l p) ((steps.map λr=>d_ P r l p)++[l]):=by
 obtain⟨l1,l2,l3⟩:=g.lA r0 h0
 have p0:0<P:=by lia
 have ll:l.length=w:=by rw[el,yx];exact l1
 have lo:bX P l:=by rw[el];exact BR p0
 have lv:∀i,vec l i=(a*vec r0 i)%P:=λi=>by rw[el,yw]
 have lz:∀i,i<p->vec l i=0:=λi hi=>by rw[lv,l3 i hi];simp
 have lp:vec l p=1:=by rw[lv];exact ha
 have M8:aO l=p:=BQ lz (by rw[lp];lia)
 have Fm:Span P rows (vec l):=((g.yz r0 h0).times a).fB λi=>by rw[lv];exact ip
 have sv:∀r∈steps,∀i,i<p->vec (d_ P r l p) i=vec r i:=λr hr i hi=>by
  obtain⟨h1,h2,_⟩:=g.step r hr
  rw[yy (by lia),lz i hi,gq,DQ]
  exact Xq p0 h2 i
 have yA:∀r∈steps,aO (d_ P r l p)=aO r:=λr hr=>by
  obtain⟨h1,h2,h3,h4⟩:=g.step r hr
  refine BQ (λi hi=>?_) ?_
  ·rw[sv r hr i (by lia)];exact mI hi
  ·rw[sv r hr _ h3,h4];lia
 have cp:∀r:List Int,r.length=w->vec (d_ P r l p) p=0:=λr hr=>by
  rw[yy (by lia),lp]
  simp
 refine⟨λr' bF=>?_,λr' bF=>?_,?_,λr' bF=>?_,λr' bF=>?_,λr hr=>?_⟩
 ·obtain⟨r,hr,rfl⟩:=List.mem_map.mp bF
  obtain⟨h1,h2,h3⟩:=g.lA r hr
  refine⟨by rw[M5 (by lia)];exact h1,M6 p0,λi hi=>?_⟩
  rcases dt i p with z | z
  ·rw[yy (by lia),h3 i z,lz i z];simp
  ·rw[show i=p by lia];exact cp r h1
 ·rcases List.mem_append.mp bF with bF | bF
  ·obtain⟨r,hr,rfl⟩:=List.mem_map.mp bF
   obtain⟨h1,h2,h3,h4⟩:=g.step r hr
   refine⟨by rw[M5 (by lia)];exact h1,M6 p0,by rw[yA r hr];lia,?_⟩
   rw[yA r hr,sv r hr _ h3];exact h4
  ·rw[xg] at bF
   subst bF
   exact⟨ll,lo,by lia,by rw[M8];exact lp⟩
 ·refine List.pairwise_append.mpr ⟨?_,a6k _ _,λa' BB b hb=>?_⟩
  ·refine List.pairwise_map.mpr (g.pair.imp_of_mem λ{r r'} hr bF q=>?_)
   obtain⟨_,_,h3,_⟩:=g.step r' bF
   rw[yA r hr,yA r' bF,sv r hr _ h3]
   exact q
  ·obtain⟨r,hr,rfl⟩:=List.mem_map.mp BB
   rw[xg] at hb
   subst hb
   obtain⟨h1,h2,h3,h4⟩:=g.step r hr
   rw[yA r hr,M8]
   exact⟨h3,cp r h1⟩
 ·obtain⟨r,hr,rfl⟩:=List.mem_map.mp bF
  exact M7 (by have:=(g.lA r hr).1;lia) (g.yz r hr) Fm
 ·rcases List.mem_append.mp bF with bF | bF
  ·obtain⟨r,hr,rfl⟩:=List.mem_map.mp bF
   exact M7 (by have:=(g.step r hr).1;lia) (g.lB r hr) Fm
  ·rw[xg] at bF
   subst bF
   exact Fm
 ·refine Span.trans (λr' bF=>?_) (g.all r hr)
  have Xr:l∈(left.map λr=>d_ P r l p)++((steps.map λr=>d_ P r l p)++[l]):=by simp
  have M9:∀r:List Int,r.length=w->bX P r->d_ P r l p∈(left.map λr=>d_ P r l p)++((steps.map λr=>d_ P r l p)++[l])->Span P ((left.map λr=>d_ P r l p)++((steps.map λr=>d_ P r l p)++[l])) (vec r):=λr h1 h2 h3=>by
   refine((Span.nR h3).plus ((Span.nR Xr).times (vec r p))).fB λi=>?_
   rw[yy (by lia)]
   have:=(ip (P:=P) (a:=vec r i-vec r p*vec l i)).add (cg.refl (a:=vec r p*vec l i))
   rw[show vec r i-vec r p*vec l i+vec r p*vec l i=vec r i by lia] at this
   exact this.symm
  rcases List.mem_append.mp bF with q | q
  ·obtain⟨h1,h2,_⟩:=g.lA r' q
   exact M9 r' h1 h2 (m7 _ (List.mem_map.mpr ⟨r',q,rfl⟩))
  ·obtain⟨h1,h2,_⟩:=g.step r' q
   exact M9 r' h1 h2 (dh _ (m7 _ (List.mem_map.mpr ⟨r',q,rfl⟩)))
structure iq (P:Int) (w:Nat) (rows S:List (List Int)):Prop where
 steps:nU P w S
 lB:∀r∈S,Span P rows (vec r)
 all:∀r∈rows,Span P S (vec r)
theorem pB.end(g:pB P w w rows left steps):iq P w rows steps where
 steps:=⟨g.step,g.pair⟩
 lB:=g.lB
 all:=λr hr=>by
  refine Span.trans (λr' bF=>?_) (g.all r hr)
  rcases List.mem_append.mp bF with q | q
  ·obtain⟨h1,_,h3⟩:=g.lA r' q
   refine .zero λi=>?_
   rcases dt i w with z | z
   ·rw[h3 i z];exact cg.refl
   ·unfold vec;rw[eY (by lia)];exact cg.refl
  ·exact .nR q
theorem iq.unique{S T:List (List Int)}(hp:1<P)(hS:iq P w rows S)(hT:iq P w rows T):S=T :=
 Xl hp hS.steps hT.steps (λt ht=>Span.trans hS.all (hT.lB t ht)) λr hr=>Span.trans hT.all (hS.lB r hr)
theorem iq.span{S:List (List Int)}{v:Nat->Int}(h:iq P w rows S)(g:Span P rows v):Span P S v:=Span.trans h.all g
theorem Xs(hp:0<P)(h:∀r∈rows,r.length=w):pB P w 0 rows (rows.map λr=>eI P r 1) [] where
 lA:=λr' bF=>by
  obtain⟨r,hr,rfl⟩:=List.mem_map.mp bF
  exact⟨by rw[yx];exact h r hr,BR hp,λi hi=>by lia⟩
 step:=λr hr=>by cases hr
 pair:=a5x
 yz:=λr' bF=>by
  obtain⟨r,hr,rfl⟩:=List.mem_map.mp bF
  refine(Span.nR hr).fB λi=>?_
  rw[yw,jj]
  exact ip
 lB:=λr hr=>by cases hr
 all:=λr hr=>by
  rw[oJ]
  refine(Span.nR (List.mem_map.mpr ⟨r,hr,rfl⟩)).fB λi=>?_
  rw[yw,jj]
  exact ip.symm
end
noncomputable section
def M_:G->R Fl :=
 (bu (aI ik (ai (gL (z6d (gZip (gV 1) (gV 2)) (y0w (aL (aI (fT lq) (ai (gV 2) (ai (au ig (gV 0) (au dX (au aX (gV 3) (gV 5)) (gV 1))) aB))))))) aB)))
def yB:List D->R D:=b6 4 4 M_
def Na:G->R Fl :=
 (bu (aI ik (ai (gL (dM (kY (gV 1)) (fK (aL (aI (fT lq) (ai (gV 1) (ai (au dX (gV 3) (gV 0)) aB))))))) aB)))
def nV:List D->R D:=b6 3 3 Na
def BS:G->R Fl :=
 (aG (fL 3 (my (dF 1))
 (cF (gT (au ij (au aX (gV 3) (gV 2)) (gC (.int 0)))) (bu (aI nV (ai (gV 0) (ai (gV 3) (ai (aI pk (ai (gV 0) (ai (au aX (gV 3) (gV 2)) aB))) aB))))) c5))
 (bu (gC .bS)))
def BU:List D->R D:=b6 3 4 BS
def Fo:G->R Fl :=
 (aG (c6 2 (dM (kY (gV 1)) (fK (aL (aI (fT nV) (ai (gV 1) (ai (gV 0) (ai (gC (.int 1)) aB))))))))
 (aG (c6 3 (gS aB))
 (aG (fL 4 (jN (aI i7 (ai (au aX (gV 1) (gC (.int 0))) aB)))
 (aG (aV 5 (aL (aI BU (ai (gV 0) (ai (gV 2) (ai (gV 4) aB))))))
 (cF (gT (au y7d (gV 5) (gC .bS))) (aG (c6 2 (dM (kY (gV 2)) (fK (aL (aI (fT yB) (ai (gV 1) (ai (gV 0) (ai (gV 6) (ai (gV 5) aB)))))))))
 (aG (c6 3 (dM (kY (gV 3)) (fK (aL (aI (fT yB) (ai (gV 1) (ai (gV 0) (ai (gV 6) (ai (gV 5) aB)))))))))
 (gd 3 (aL (gV 5))))) c5)))
 (pb 3))))
def Fp:List D->R (List D):=jq 2 6 Fo
def Nb:G->R Fl :=
 (aG (aV 2 (aL (aI i7 (ai (au aX (gV 1) (gC (.int 0))) aB))))
 (aG (c6 3 (z6d (y4d (gV 1)) (y0w (aL (au cz (aI ik (ai (gV 1) aB)) (aI (fT ym) (ai (aI i7 (ai (gV 3) aB)) (ai (gV 0) aB))))))))
 (qc (dM (kY (gL (gU Fp (ai (gV 0) (ai (gV 3) aB))))) (pa (Br (gT (aI tH (ai (kq (gV 0) kX (jL (gV 3))) aB)))) (aL (kq (gV 0) (jL (gV 3)) kX)))))))
def vT:List D->R (List D):=jq 2 4 Nb
def Fq:G->R Fl :=
 (aG (c6 3 (gU vT (ai (gV 0) (ai (gL (Bu (gS (ai (gV 2) aB)) (nJ (gV 1)))) aB))))
 (aG (cF (Ew (Br (y8x (gV 3))) (gT (au dJ (au aX (au aX (gV 3) (gC (.int 0))) (gC (.int 0))) (gC (.int 0))))) (bu (gC .bS)) c5)
 (bu (aI nV (ai (gV 0) (ai (kq (au aX (gV 3) (gC (.int 0))) (jL (gC (.int 1))) kX) (ai (tD (gC (.int 1))) aB)))))))
def BV:List D->R D:=b6 3 4 Fq
end
noncomputable section
end
end L3
namespace L3
open PySem
local macro_rules | `(tactic| walk_at "evs") => wkL " L3.z7u L3.z4j L3.s_on L3.z4s L3.z4t L3.z4u L3.z5g L3.z4h L3.z4v L3.z0n L3.z6e L3.y4v L3.y4u L3.y7e L3.z6d L3.gZip L3.y4d L3.y0w L3.z8z L3.y8x L3.z8d L3.y7d L3.D.isNon"
theorem Fs:∀xs ys:List Int,iN (xs.map D.int) (ys.map D.int)=(xs.zip ys).map λp=>.tup [.int p.1,.int p.2]
 | [],_=>rfl
 | _::_,[]=>rfl
 | x::xs,y::ys=>by simp only[cN,iN,a6l,Fs xs ys]
theorem Ft{f:D->R (Option D)}{h:Int->Int->Int}{xs ys:List Int}(q:∀x∈xs,∀y∈ys,f (.tup [.int x,.int y]) = .ok (some (.int (h x y)))):cj f (iN (xs.map D.int) (ys.map D.int)) [] = .ok (((xs.zip ys).map λp=>h p.1 p.2).map D.int):=by
 rw[Fs,mz (h:=λp=>D.int (h p.1 p.2)),tR]
 intro p hp
 exact q p.1 (DB hp).1 p.2 (DB hp).2
theorem Fv(xs ys:List Int):(iN (xs.map D.int) (ys.map D.int)).length=min xs.length ys.length:=by
 rw[Fs,bD,AM]
theorem sf{P c:Int}{r:List Int}(hp:0<P)(hc:mj c)(hr:r.length<=1000):nV [.int P,ao r,.int c] = .ok (ao (eI P r c)):=by
 refine cH rfl ?_
 delta Na
 refine cv ?_
 simp only[dZ]
 walk_at "evs"
 rw[mz (h:=λn=>D.int ((c*n)%P)),tR]
 ·walk_at "evs"
  rfl
 ·intro n hn
  walk_at "evs"
theorem yC{r:List Int}{p:Nat}(h:p<r.length):cu (r.map D.int) (p:Int)=some (.int (vec r p)):=pq h
theorem yD{P:Int}{r l:List Int}{p:Nat}(hp:0<P)(hP:P<1000000)(hr:bX P r)(hl:r.length=l.length)(hw:r.length<=1000)(Fw:p<r.length):yB [.int P,ao r,ao l,.int p] = .ok (ao (d_ P r l p)):=by
 refine cH rfl ?_
 delta M_
 refine cv ?_
 simp only[dZ]
 have hz:(iN (r.map D.int) (l.map D.int)).length<=100000:=by rw[Fv];lia
 have Nc:=ni (ko r) (ko l)
 have va:=yC Fw
 have fv:mj (vec r p):=BF (hr.fits (by lia)) p
 walk_at "evs"
 rw[Ft (h:=λx y=>(x-vec r p*y)%P)]
 ·walk_at "evs"
  rfl
 ·intro x hx y hy
  walk_at "evs"
  simp only[va]
  walk_at "evs"
theorem yE{P:Int}{left:List (List Int)}{p w:Nat}(hp:cV P=false)(p1:3<=P)(p2:P<=9973)(hl:∀r∈left,r.length=w/\bX P r)(BW:p<w)(hw:w<=1000) :
 (BU [.int P,.lst (left.map ao),.int p] = .ok .bS/\∀r∈left,vec r p=0)∨∃r0 a,r0∈left/\(a*vec r0 p)%P=1/\BU [.int P,.lst (left.map ao),.int p] = .ok (ao (eI P r0 a)):=by
 have key:(BS [.ro (.int P),.ro (.lst (left.map ao)),.ro (.int p),.no] = .ok (.rt .bS)/\∀r∈left,vec r p=0)∨∃r0 a,r0∈left/\(a*vec r0 p)%P=1/\BS [.ro (.int P),.ro (.lst (left.map ao)),.ro (.int p),.no] = .ok (.rt (ao (eI P r0 a))):=by
  delta BS
  have loop:∀(l:List (List Int)) (x3:En),(∀r∈l,r∈left) ->
   (∃Xu,dA (cF (gT (au ij (au aX (gV 3) (gV 2)) (gC (.int 0)))) (bu (aI nV (ai (gV 0) (ai (gV 3) (ai (aI pk (ai (gV 0) (ai (au aX (gV 3) (gV 2)) aB))) aB))))) c5) 3 (l.map ao) [.ro (.int P),.ro (.lst (left.map ao)),.ro (.int p),x3] = .ok (.nx [.ro (.int P),.ro (.lst (left.map ao)),.ro (.int p),Xu])/\∀r∈l,vec r p=0) ∨
   ∃r0 a,r0∈left/\(a*vec r0 p)%P=1/\dA (cF (gT (au ij (au aX (gV 3) (gV 2)) (gC (.int 0)))) (bu (aI nV (ai (gV 0) (ai (gV 3) (ai (aI pk (ai (gV 0) (ai (au aX (gV 3) (gV 2)) aB))) aB))))) c5) 3 (l.map ao) [.ro (.int P),.ro (.lst (left.map ao)),.ro (.int p),x3] = .ok (.rt (ao (eI P r0 a))):=by
   intro l
   induction l with
   | nil=>intro x3 _;exact .inl ⟨x3,rfl,λr hr=>by cases hr⟩
   | cons r l ih =>
     intro x3 hs
     obtain⟨h1,h2⟩:=hl r (hs r bV)
     have va:=yC (r:=r) (p:=p) (by lia)
     have hv:0<=vec r p/\vec r p<P:=mH (show 0<P by lia) h2 p
     rw[cN]
     by_cases hz:vec r p=0
     ·have e:cF (gT (au ij (au aX (gV 3) (gV 2)) (gC (.int 0)))) (bu (aI nV (ai (gV 0) (ai (gV 3) (ai (aI pk (ai (gV 0) (ai (au aX (gV 3) (gV 2)) aB))) aB))))) c5 [.ro (.int P),.ro (.lst (left.map ao)),.ro (.int p),.ro (ao r)] = .ok (.nx [.ro (.int P),.ro (.lst (left.map ao)),.ro (.int p),.ro (ao r)]):=by
       refine rV ?_
       simp only[dZ]
       walk_at "evs"
       simp only[va]
       walk_at "evs"
       rw[hz];rfl
      rw[Bx]
      simp only[List.set]
      rw[e]
      rcases ih (.ro (ao r)) (λr' h'=>hs r' (bY _ h')) with ⟨x',q1,q2⟩ | q
      ·refine .inl ⟨x',q1,λr' bF=>?_⟩
       rcases List.mem_cons.mp bF with rfl | bF
       ·exact hz
       ·exact q2 r' bF
      ·exact .inr q
     ·have hm:vec r p%P≠0:=by rw[ke hv.1 hv.2];exact hz
      obtain⟨a,ea,a0,a1,a2⟩:=(r_ (n:=vec r p) hp p1 p2).2 hm
      have et:=sf (P:=P) (c:=a) (r:=r) (by lia) (vz (by lia)) (by lia)
      refine .inr ⟨r,a,hs r bV,a2,?_⟩
      rw[Bx]
      simp only[List.set]
      have e:cF (gT (au ij (au aX (gV 3) (gV 2)) (gC (.int 0)))) (bu (aI nV (ai (gV 0) (ai (gV 3) (ai (aI pk (ai (gV 0) (ai (au aX (gV 3) (gV 2)) aB))) aB))))) c5 [.ro (.int P),.ro (.lst (left.map ao)),.ro (.int p),.ro (ao r)] = .ok (.rt (ao (eI P r a))):=by
       have bz:(!(vec r p==0))=true:=by simp[hz]
       refine ky ?_ (cv ?_)
       ·simp only[dZ]
        walk_at "evs"
        simp only[va]
        walk_at "evs"
        rw[bz]
       ·simp only[dZ] at et ⊢
        walk_at "evs"
        simp only[va]
        walk_at "evs"
        simp only[ea]
        walk_at "evs"
        simp only[et]
      rw[e]
  rcases loop left .no (λr h=>h) with ⟨x',q1,q2⟩ | ⟨r0,a,q1,q2,q3⟩
  ·refine .inl ⟨?_,q2⟩
   exact yh (ds:=left.map ao) (by walk_at "evs") q1 (cv (by walk_at "evs"))
  ·refine .inr ⟨r0,a,q1,q2,pf (EO (ds:=left.map ao) (by walk_at "evs") q3)⟩
 rcases key with ⟨q1,q2⟩ | ⟨r0,a,q1,q2,q3⟩
 ·exact .inl ⟨cH rfl q1,q2⟩
 ·exact .inr ⟨r0,a,q1,q2,cH rfl q3⟩
theorem iP(l:List (List Int)):D.bQ (l.map ao)=true:=tN l
theorem t6{P:Int}{w:Nat}{rows:List (List Int)}(hp:cV P=false)(p1:3<=P)(p2:P<=9973)(aU:rows≠[])(hr:∀r∈rows,r.length=w)(hw:w<=100)(hn:rows.length<=100) :
 ∃S,Fp [.int P,.lst (rows.map ao)] = .ok (S.map ao)/\iq P w rows S:=by
 obtain⟨r0,rest,rfl⟩:∃r0 rest,rows=r0::rest:=by
  cases rows with
  | nil=>exact absurd rfl aU
  | cons a b=>exact⟨a,b,rfl⟩
 generalize hR:r0::rest=rows at *
 have nP:cu (rows.map ao) 0=some (ao r0):=by rw[<-hR];exact jK 0
 have l0:r0.length=w:=hr r0 (by rw[<-hR];exact bV)
 suffices h:∃S,Fo [.ro (.int P),.ro (.lst (rows.map ao)),.no,.no,.no,.no] = .ok (.fu (S.map ao))/\iq P w rows S by
  obtain⟨S,e,q⟩:=h
  exact⟨S,ph rfl e,q⟩
 delta Fo
 have nr:=iP rows
 have lr:(rows.map ao).length<=100000:=by rw[bD];lia
 rw[fy (ds:=(rows.map λr=>eI P r 1).map ao) (by
  walk_at "evs"
  rw[mz (h:=λr=>ao (eI P r 1)),tS]
  intro r mJ
  have et:=sf (P:=P) (c:=1) (r:=r) (by lia) (vz (by lia)) (by have:=hr r mJ;lia)
  have:=z0n (eI P r 1)
  walk_at "evs"
  simp only[et]
  walk_at "evs") rfl]
 rw[fy (ds:=[]) (by walk_at "evs") rfl]
 refine MI (ds:=gx 0 w) (λr=>∃S:List (List Int),r = .ok (.fu (S.map ao))/\iq P w rows S) (λj Γ=>∃(left steps:List (List Int)) (x4 x5:En),Γ=[.ro (.int P),.ro (.lst (rows.map ao)),.own (left.map ao),.own (steps.map ao),x4,x5]/\pB P w j rows left steps/\left.length<=100/\steps.length<=j) ?_ ⟨_,[],_,_,rfl,Xs (by lia) hr,by rw[bD];exact hn,bA _⟩ ?_ ?_
 ·walk_at "evs"
  simp only[nP]
  simp only[dZ]
  walk_at "evs"
  rw[l0]
  walk_at "evs"
 ·rintro j d Γ hd ⟨left,steps,x4,x5,rfl,gn,ll,ls⟩
  obtain⟨hj,rfl⟩:=E4 hd
  have nl:=iP left
  have ns:=iP steps
  have hll:(left.map ao).length<=100000:=by rw[bD];lia
  have hls:(steps.map ao).length<=100000:=by rw[bD];lia
  have z0:(0:Int)+(j:Int)=(j:Int):=by lia
  rw[z0]
  rcases yE (P:=P) (left:=left) (p:=j) (w:=w) hp p1 p2 (λr mJ=>⟨(gn.lA r mJ).1,(gn.lA r mJ).2.1⟩) hj (by lia) with ⟨e,hz⟩ | ⟨r1,a,h0,ha,e⟩
  ·refine .nx (b8 (d:=.bS) (by walk_at "evs";simp only[e];walk_at "evs") (rV (by walk_at "evs"))) ⟨left,steps,_,_,rfl,gn.skip hz,ll,by lia⟩
  ·have g2:=gn.turn (by lia) hj h0 ha rfl
   have tl:(eI P r1 a).length=w:=by rw[yx];exact(gn.lA r1 h0).1
   have nt:=z0n (eI P r1 a)
   have cl:∀r:List Int,r.length=w->bX P r->yB [.int P,ao r,ao (eI P r1 a),.int j] = .ok (ao (d_ P r (eI P r1 a) j)):=λr h1 h2=>yD (by lia) (by lia) h2 (by lia) (by lia) (by lia)
   generalize eI P r1 a=l at e g2 tl nt cl
   refine .nx (b8 (d:=ao l) (by walk_at "evs";simp only[e];walk_at "evs") (ky (by simp only[dZ];walk_at "evs") (fy (ds:=(left.map λr=>d_ P r l j).map ao) ?_ (fy (ds:=(steps.map λr=>d_ P r l j).map ao) ?_ ((tL (d:=ao l) rfl (by walk_at "evs") (by rw[bD,bD];lia)).trans rfl))))) ⟨_,(steps.map λr=>d_ P r l j)++[l],_,_,by rw[hV];rfl,g2,by rw[bD];exact ll,by rw[hU,bD,w7];lia⟩
   ·walk_at "evs"
    rw[mz (h:=λr=>ao (d_ P r l j)),tS]
    intro r mJ
    have ec:=cl r (gn.lA r mJ).1 (gn.lA r mJ).2.1
    have:=z0n (d_ P r l j)
    walk_at "evs"
    simp only[ec]
    walk_at "evs"
   ·walk_at "evs"
    rw[mz (h:=λr=>ao (d_ P r l j)),tS]
    intro r mJ
    have ec:=cl r (gn.step r mJ).1 (gn.step r mJ).2.1
    have:=z0n (d_ P r l j)
    walk_at "evs"
    simp only[ec]
    walk_at "evs"
 ·rintro Γ ⟨left,steps,x4,x5,rfl,gn,ll,ls⟩
  rw[o_] at gn
  exact⟨steps,LX rfl,gn.end⟩
def a_(rows:List (List Int))(k:Nat):List Int:=(rows[k]?).getD []
def bG(rows:List (List Int))(c:Nat->Int)(i:Nat):Int:=aF (λk=>c k*vec (a_ rows k) i) rows.length
def dO(rows:List (List Int)):List (List Int):=(bL rows.length).map λk=>a_ rows k++cP rows.length k
section
variable {P:Int}{w:Nat}{rows:List (List Int)}
theorem jQ{k:Nat}(h:k<rows.length):a_ rows k∈rows:=by
 unfold a_;rw[cD h];exact pS h
theorem Fx{k i:Nat}(hr:∀r∈rows,r.length=w)(hk:k<rows.length)(hi:i<w):vec (a_ rows k++cP rows.length k) i=vec (a_ rows k) i:=by
 unfold vec
 rw[Ay (by rw[hr _ (jQ hk)];exact hi)]
theorem Fy{k j:Nat}(hr:∀r∈rows,r.length=w)(hk:k<rows.length)(hj:j<rows.length):vec (a_ rows k++cP rows.length k) (w+j)=if j=k then 1 else 0:=by
 have hl:=hr _ (jQ hk)
 unfold vec
 rw[Ax (by lia),hl,show w+j-w=j by lia]
 exact tP hj
theorem Fz(c d:Nat->Int)(i:Nat):bG rows (λk=>c k+d k) i=bG rows c i+bG rows d i:=by
 unfold bG
 rw[<-pj]
 exact dc λk _=>DP _ _ _
theorem BX(a:Int)(c:Nat->Int)(i:Nat):bG rows (λk=>a*c k) i=a*bG rows c i:=by
 unfold bG
 rw[<-mE]
 exact dc λk _=>dN _ _ _
theorem vU{c d:Nat->Int}(h:∀k,k<rows.length->cg P (c k) (d k))(i:Nat):cg P (bG rows c i) (bG rows d i):=cg.aF λk hk=>(h k hk).mul cg.refl
theorem Nd{j:Nat}(hj:j<rows.length)(i:Nat):bG rows (λk=>if k=j then 1 else 0) i=vec (a_ rows j) i:=by
 unfold bG
 rw[nN hj λk _ hk=>by show(if k=j then (1:Int) else 0)*_=0;rw[if_neg hk,gP]]
 show(if j=j then (1:Int) else 0)*_=_
 rw[if_pos rfl,jj]
theorem Nf{v:Nat->Int}(hr:∀r∈rows,r.length=w)(h:Span P (dO rows) v):∀i,i<w->cg P (v i) (bG rows (λk=>v (w+k)) i):=by
 induction h with
 | zero z =>
   intro i hi
   refine(z i).trans (cg.symm ?_)
   have:cg P (bG rows (λk=>_) i) (bG rows (λ_=>0) i):=vU (d:=λ_=>0) (λk _=>z (w+k)) i
   refine this.trans (cg.of_eq ?_)
   unfold bG
   exact mF λk _=>gP _
 | @add u v' c r hm hu q ih =>
   intro i hi
   obtain⟨j,hj,rfl⟩:=List.mem_map.mp hm
   have pC:=List.mem_range.mp hj
   have e1:cg P (bG rows (λk=>v' (w+k)) i) (bG rows (λk=>u (w+k)+c*(if k=j then 1 else 0)) i):=vU (λk hk=>by
    have:=q (w+k)
    rw[Fy hr pC hk] at this
    exact this) i
   rw[Fz,BX,Nd pC] at e1
   refine(q i).trans (((ih i hi).add ?_).trans e1.symm)
   rw[Fx hr pC hi]
   exact cg.refl
theorem BY{S:List (List Int)}(c:Nat->Int):∀n,n<=S.length->Span P S (λi=>aF (λk=>c k*vec (a_ S k) i) n)
 | 0,_=>.zero λ_=>cg.refl
 | n+1,h=>.add (c:=c n) (jQ (by lia)) (BY c n (by lia)) λi=>cg.refl
theorem FA{S:List (List Int)}(a:List Int->Int):∀l:List (List Int),(∀r∈l,r∈S)->Span P S (λi=>(l.map λr=>a r*vec r i).sum)
 | [],_=>.zero λ_=>cg.refl
 | r::l,h=>.add (c:=a r) (h r bV) (FA a l λb hb=>h b (bY _ hb)) λi=>cg.of_eq (by simp only[cN,nc];lia)
theorem Ng{f:List Int->Int}{q:List Int->Bool}:∀{l:List (List Int)},(∀r∈l,q r=false->cg P (f r) 0)->cg P (l.map f).sum ((l.filter q).map f).sum
 | [],_=>cg.refl
 | r::l,h=>by
   have ih:=Ng (l:=l) λb hb=>h b (bY _ hb)
   rw[cN,nc]
   cases e:q r with
   | true=>rw[JA e,cN,nc];exact cg.refl.add ih
   | false =>
     rw[JB (by rw[e];exact oN)]
     have:=(h r bV e).add ih
     rw[iI] at this
     exact this
theorem t7(r:List Int)(w k:Nat):vec (r.drop w) k=vec r (w+k):=by unfold vec;rw[List.getElem?_drop]
theorem Xv{S:List (List Int)}{v:Nat->Int}(h:Span P S v):Span P (S.map λr=>r.drop w) (λk=>v (w+k)):=by
 induction h with
 | zero z=>exact .zero λk=>z (w+k)
 | @add u v' c r hm hu q ih=>exact .add (c:=c) (List.mem_map.mpr ⟨r,hm,rfl⟩) ih λk=>by rw[t7];exact q (w+k)
theorem FC{r:List Int}(h:w<=aO r)(hl:aO r<r.length):aO (r.drop w)=aO r-w:=by
 refine BQ (λi hi=>?_) ?_
 ·rw[t7];exact mI (by lia)
 ·rw[t7,show w+(aO r-w)=aO r by lia];exact BP hl
structure yF (P:Int) (rows T:List (List Int)):Prop where
 steps:nU P rows.length T
 idle:∀t∈T,∀i,cg P (bG rows (vec t) i) 0
 all:∀c:Nat->Int,(∀i,cg P (bG rows c i) 0)->Span P T (λk=>if k<rows.length then c k else 0)
def pD(w:Nat)(S:List (List Int)):List (List Int):=(S.filter λr=>decide (w<=aO r)).map λr=>r.drop w
theorem BZ{S:List (List Int)}(hr:∀r∈rows,r.length=w)(hS:iq P (w+rows.length) (dO rows) S):yF P rows (pD w S):=by
 have qj:=hS.steps.row
 refine⟨⟨λt ht=>?_,?_⟩,λt ht i=>?_,λc hc=>?_⟩
 ·obtain⟨r,bF,rfl⟩:=List.mem_map.mp ht
  obtain⟨hm,hd⟩:=List.mem_filter.mp bF
  have hd:=of_decide_eq_true hd
  obtain⟨h1,h2,h3,h4⟩:=qj r hm
  have el:=FC hd (by lia)
  refine⟨by rw[rf];lia,λn hn=>h2 n (Ss hn),by rw[el];lia,?_⟩
  rw[el,t7,show w+(aO r-w)=aO r by lia];exact h4
 ·refine List.pairwise_map.mpr ((hS.steps.pair.sublist a6m).imp_of_mem λ{r r'} hm sg q=>?_)
  obtain⟨m1,d1⟩:=List.mem_filter.mp hm
  obtain⟨m2,d2⟩:=List.mem_filter.mp sg
  have d1:=of_decide_eq_true d1
  have d2:=of_decide_eq_true d2
  have e1:=FC d1 (by have:=qj r m1;lia)
  have e2:=FC d2 (by have:=qj r' m2;lia)
  rw[e1,e2,t7,show w+(aO r'-w)=aO r' by lia]
  exact⟨by lia,q.2⟩
 ·obtain⟨r,bF,rfl⟩:=List.mem_map.mp ht
  obtain⟨hm,hd⟩:=List.mem_filter.mp bF
  have hd:=of_decide_eq_true hd
  have sp:=hS.lB r hm
  rcases dt i w with z | z
  ·have:=Nf hr sp i z
   rw[mI (by lia)] at this
   have e:bG rows (vec (r.drop w)) i=bG rows (λk=>vec r (w+k)) i:=by unfold bG;exact dc λk _=>by rw[t7]
   rw[e]
   exact this.symm
  ·refine cg.of_eq ?_
   unfold bG
   refine mF λk hk=>?_
   rw[show vec (a_ rows k) i=0 by unfold vec;rw[eY (by rw[hr _ (jQ hk)];exact z)];rfl,gq]
 ·have lm:(dO rows).length=rows.length:=by unfold dO;simp
  have sp:Span P (dO rows) (λi=>if i<w then 0 else if i-w<rows.length then c (i-w) else 0):=by
   refine(BY (S:=dO rows) c rows.length (by lia)).fB λi=>?_
   have ra:∀k,k<rows.length->a_ (dO rows) k=a_ rows k++cP rows.length k:=λk hk=>by
    unfold dO a_
    rw[cf,l8 hk]
    rfl
   rcases dt i w with z | z
   ·rw[if_pos z]
    refine cg.symm ?_
    rw[dc (g:=λk=>c k*vec (a_ rows k) i) λk hk=>by rw[ra k hk,Fx hr hk z]]
    exact hc i
   ·rw[if_neg (by lia)]
    by_cases hk:i-w<rows.length
    ·rw[if_pos hk,dc (g:=λk=>c k*(if i-w=k then 1 else 0)) λk cQ=>by
      rw[ra k cQ,show i=w+(i-w) by lia,Fy hr cQ hk,show w+(i-w)-w=i-w by lia]]
     rw[nN hk λk _ aU=>by rw[if_neg (eC aU),gq],if_pos rfl,j8]
     exact cg.refl
    ·rw[if_neg hk]
     refine cg.of_eq (Sf (mF λk cQ=>?_))
     rw[ra k cQ]
     have:vec (a_ rows k++cP rows.length k) i=0:=by
      unfold vec
      rw[eY (by rw[hU,qf,hr _ (jQ cQ)];lia)];rfl
     rw[this,gq]
  have s1:=hS.span sp
  have s2:Span P (S.filter λr=>decide (w<=aO r)) (λi=>if i<w then 0 else if i-w<rows.length then c (i-w) else 0):=by
   refine(FA (S:=S.filter λr=>decide (w<=aO r)) (λr=>(λi=>if i<w then 0 else if i-w<rows.length then c (i-w) else 0) (aO r)) (S.filter λr=>decide (w<=aO r)) λr h=>h).fB λi=>?_
   refine(yv hS.steps s1 i).trans (Ng λr _ hq=>?_)
   have hq:=of_decide_eq_false hq
   show cg P ((if aO r<w then 0 else _)*_) 0
   rw[if_pos (by lia),gP]
   exact cg.refl
  refine(Xv (w:=w) s2).fB λk=>cg.of_eq ?_
  have e:(if w+k<w then (0:Int) else if w+k-w<rows.length then c (w+k-w) else 0)=if k<rows.length then c k else 0:=by
   rw[if_neg (show ¬w+k<w by lia),show w+k-w=k by lia]
  exact e.symm
end
theorem FD:∀(rows:List (List Int)) (k:Nat),dY k (rows.map ao)=(bL rows.length).map λi=>.tup [.int ((k+i:Nat):Int),ao (a_ rows i)]
 | [],_=>rfl
 | r::rows,k=>by
   rw[cN,dY,FD rows (k+1),dE,Sk,cN,lZ]
   congr 1
   refine AH λi _=>?_
   show D.tup [.int ((k+1+i:Nat):Int),ao (a_ rows i)] = .tup [.int ((k+(i+1):Nat):Int),ao (a_ (r::rows) (i+1))]
   rw[show k+1+i=k+(i+1) by lia]
   rfl
theorem Xw{r:List Int}{w:Nat}(hw:w<=r.length):((r.take w).any λn=>n != 0)=!decide (w<=aO r):=by
 by_cases h:w<=aO r
 ·rw[decide_eq_true h]
  refine List.any_eq_false.mpr λx hx=>?_
  obtain⟨i,hi⟩:=AN hx
  have bO:=(List.getElem?_eq_some_iff.mp hi).1
  rw[lX] at bO
  rw[Jm (by lia)] at hi
  have:=mI (r:=r) (i:=i) (by lia)
  unfold vec at this
  rw[hi] at this
  have:x=0:=this
  simp[this]
 ·rw[decide_eq_false h]
  have hl:aO r<r.length:=by lia
  refine List.any_eq_true.mpr ⟨r[aO r],?_,?_⟩
  ·refine kN (i:=aO r) ?_
   rw[Jm (by lia)];exact cD hl
  ·have:=BP hl
   unfold vec at this
   rw[cD hl] at this
   have:r[aO r]≠0:=this
   simpa using this
theorem Xx{α:Type}{f:D->R (Option D)}{k h:α->D}{q:α->Bool}{l:List α}(hq:∀x∈l,f (k x) = .ok (if q x=true then some (h x) else none)):cj f (l.map k) [] = .ok ((l.filter q).map h):=by
 suffices H:∀(l:List α) (acc:List D),(∀x∈l,f (k x) = .ok (if q x=true then some (h x) else none))->cj f (l.map k) acc = .ok (acc++(l.filter q).map h) by
  have:=H l [] hq;simpa using this
 intro l
 induction l with
 | nil=>intro acc _;simp[cj]
 | cons x l ih =>
   intro acc hx
   rw[cN]
   unfold cj
   rw[hx x bV]
   cases e:q x with
   | true =>
     simp only[if_true]
     rw[ih _ λy hy=>hx y (bY _ hy),JA e]
     simp
   | false =>
     simp only[kf,if_false]
     rw[ih _ λy hy=>hx y (bY _ hy),JB (by rw[e];exact oN)]
theorem si{P:Int}{w:Nat}{rows:List (List Int)}(hp:cV P=false)(p1:3<=P)(p2:P<=9973)(aU:rows≠[])(hr:∀r∈rows,r.length=w)(hw:w<=50)(hn:rows.length<=50) :
 ∃S,iq P (w+rows.length) (dO rows) S/\vT [.int P,.lst (rows.map ao)] = .ok ((pD w S).map ao):=by
 obtain⟨r0,rest,e0⟩:∃r0 rest,rows=r0::rest:=by
  cases rows with
  | nil=>exact absurd rfl aU
  | cons a b=>exact⟨a,b,rfl⟩
 have nP:cu (rows.map ao) 0=some (ao r0):=by rw[e0];exact jK 0
 have l0:r0.length=w:=hr r0 (by rw[e0];exact bV)
 have lm:(dO rows).length=rows.length:=by unfold dO;simp
 have hm:∀r∈dO rows,r.length=w+rows.length:=λr bF=>by
  obtain⟨k,hk,rfl⟩:=List.mem_map.mp bF
  rw[hU,qf,hr _ (jQ (List.mem_range.mp hk))]
 obtain⟨S,eS,hS⟩:=t6 (P:=P) (rows:=dO rows) hp p1 p2 (by intro z;rw[z] at lm;have:=congrArg uR e0;simp at this lm;lia) hm (by lia) (by lia)
 refine⟨S,hS,ph rfl ?_⟩
 delta Nb
 have nr:=iP rows
 have nS:=iP S
 refine b8 (d:=.int w) (by
  walk_at "evs"
  simp only[nP]
  simp only[dZ]
  walk_at "evs"
  rw[l0]) ?_
 refine fy (ds:=(dO rows).map ao) ?_ ?_
 ·walk_at "evs"
  have le:(dY 0 (rows.map ao)).length<=100000:=by rw[FD,bD,Jw];lia
  walk_at "evs"
  rw[FD,mz (h:=λk=>ao (a_ rows k++cP rows.length k)),tS]
  ·rfl
  ·intro k hk
   have hk:=List.mem_range.mp hk
   have eo:=tV (n:=rows.length) (x:=k) (by lia)
   have lk:=hr _ (jQ hk)
   have nn:=z0n (a_ rows k++cP rows.length k)
   have ul:=qf rows.length k
   have em:(a_ rows k).map D.int++(cP rows.length k).map D.int=(a_ rows k++cP rows.length k).map D.int:=by rw[hV]
   simp only[dZ] at eo nn ⊢
   rw[show 0+k=k by lia]
   walk_at "evs"
   simp only[eo]
   walk_at "evs"
   rw[em]
   walk_at "evs"
 ·have lS:S.length<=100000:=by
   have FE:(S.map aO).Pairwise (·<·):=List.pairwise_map.mpr (hS.steps.pair.imp λq=>q.1)
   have:∀(l:List Nat) (b:Nat),l.Pairwise (·<·)->(∀x∈l,b<=x/\x<w+rows.length)->b<=w+rows.length->l.length+b<=w+rows.length:=by
    intro l
    induction l with
    | nil=>intro b _ _ hb;simpa using hb
    | cons x l ih =>
      intro b BW hx hb
      obtain⟨h1,h2⟩:=List.pairwise_cons.mp BW
      have MH:=hx x bV
      have:=ih (x+1) h2 (λy hy=>⟨h1 y hy,(hx y (bY _ hy)).2⟩) (by lia)
      rw[dE];lia
   have:=this (S.map aO) 0 FE (λx hx=>by
    obtain⟨r,bF,rfl⟩:=List.mem_map.mp hx
    exact⟨ji _,(hS.steps.row r bF).2.2.1⟩) (ji _)
   rw[bD] at this
   lia
  refine yg ?_
  have hSl:(S.map ao).length<=100000:=by rw[bD];exact lS
  walk_at "evs"
  simp only[eS]
  walk_at "evs"
  rw[Xx (q:=λr=>decide (w<=aO r)) (h:=λr=>ao (r.drop w))]
  ·unfold pD
   rw[tS]
  ·intro r bF
   have lr:=(hS.steps.row r bF).1
   have ah:=Xw (r:=r) (w:=w) (by lia)
   have nd:=z0n (r.drop w)
   simp only[dZ] at nd ⊢
   rw[w9] at nd ⊢
   walk_at "evs"
   rw[xZ,xY,<-w8]
   walk_at "evs"
   rw[ah]
   cases hd:decide (w<=aO r) with
   | true=>walk_at "evs"
   | false=>walk_at "evs"
section
variable {P c:Int}{r l:List Int}{w:Nat}
end
theorem B0(f:Nat->Int):∀n,aF f (n+1)=f 0+aF (λk=>f (k+1)) n
 | 0=>by simp[aF]
 | n+1=>by rw[dB,B0 f n,dB];lia
theorem Nh(g:List Int)(rows:List (List Int))(c:Nat->Int)(i:Nat):bG (g::rows) c i=c 0*vec g i+bG rows (λk=>c (k+1)) i:=by
 unfold bG
 rw[dE,B0]
 rfl
section
variable {P:Int}{w:Nat}{rows:List (List Int)}
theorem Xy{v:Nat->Int}(h:Span P rows v):∃c:Nat->Int,∀i,cg P (v i) (bG rows c i):=by
 induction h with
 | zero z=>exact⟨λ_=>0,λi=>(z i).trans (cg.of_eq (by unfold bG;rw[mF λk _=>gP _]))⟩
 | @add u v' c0 r hm hu q ih =>
   obtain⟨c,hc⟩:=ih
   obtain⟨j,hj⟩:=AN hm
   have pC:=(List.getElem?_eq_some_iff.mp hj).1
   have er:a_ rows j=r:=by unfold a_;rw[hj];rfl
   refine⟨λk=>c k+c0*(if k=j then 1 else 0),λi=>?_⟩
   rw[Fz,BX,Nd pC,er]
   exact(q i).trans ((hc i).add cg.refl)
theorem Ni{T:List (List Int)}(hT:nU P w T):T.length<=w:=by
 have FE:(T.map aO).Pairwise (·<·):=List.pairwise_map.mpr (hT.pair.imp λq=>q.1)
 have:∀(l:List Nat) (b:Nat),l.Pairwise (·<·)->(∀x∈l,b<=x/\x<w)->b<=w->l.length+b<=w:=by
  intro l
  induction l with
  | nil=>intro b _ _ hb;simpa using hb
  | cons x l ih =>
    intro b BW hx hb
    obtain⟨h1,h2⟩:=List.pairwise_cons.mp BW
    have MH:=hx x bV
    have:=ih (x+1) h2 (λy hy=>⟨h1 y hy,(hx y (bY _ hy)).2⟩) (by lia)
    rw[dE];lia
 have:=this (T.map aO) 0 FE (λx hx=>by
  obtain⟨r,bF,rfl⟩:=List.mem_map.mp hx
  exact⟨ji _,(hT.row r bF).2.2.1⟩) (ji _)
 rw[bD] at this
 lia
theorem Xz{g:List Int}{T:List (List Int)}(hp:1<P)(hT:yF P (g::rows) T)(sp:Span P rows (vec g)):∃t0 T',T=t0::T'/\vec t0 0=1:=by
 obtain⟨c,hc⟩:=Xy sp
 have hd:∀i,cg P (bG (g::rows) (λk=>if k=0 then -1 else c (k-1)) i) 0:=λi=>by
  rw[Nh]
  have e:bG rows (λk=>(λk=>if k=0 then -1 else c (k-1)) (k+1)) i=bG rows c i:=by
   unfold bG
   exact dc λk _=>by show(if k+1=0 then (-1:Int) else c (k+1-1))*_=_;rw[if_neg (by lia)];rfl
  rw[e,if_pos rfl]
  have:=(cg.refl (P:=P) (a:=-1*vec g i)).add (hc i).symm
  refine this.trans (cg.of_eq ?_)
  lia
 have s1:=hT.all _ hd
 obtain⟨r,hr,hz⟩:=MX hT.steps s1 (p:=0) (λi hi=>by lia) (by
  intro z
  rw[if_pos (by simp),if_pos rfl] at z
  have:=z.neg
  exact vS hp (by simpa using this))
 cases T with
 | nil=>cases hr
 | cons t0 T' =>
   refine⟨t0,T',rfl,?_⟩
   obtain⟨h1,h2⟩:=List.pairwise_cons.mp hT.steps.pair
   rcases List.mem_cons.mp hr with rfl | bF
   ·rw[<-hz];exact(hT.steps.row _ bV).2.2.2
   ·have:=(h1 r bF).1;lia
theorem XA{g t:List Int}(h:∀i,cg P (bG (g::rows) (vec t) i) 0)(h0:vec t 0=1):∀i,cg P (vec g i) (bG rows (vec (eI P (t.drop 1) (-1))) i):=λi=>by
 have e:=h i
 rw[Nh,h0,jj] at e
 have e2:cg P (bG rows (vec (eI P (t.drop 1) (-1))) i) (bG rows (λk=>-1*vec t (k+1)) i):=vU (λk _=>by rw[yw,t7,AB 1 k];exact ip) i
 rw[BX] at e2
 have:=(e.add (cg.refl (a:=-1*bG rows (λk=>vec t (k+1)) i)))
 refine(cg.of_eq ?_).trans (this.trans ((cg.of_eq ?_).trans e2.symm))
 ·lia
 ·lia
end
theorem yG{P:Int}{w:Nat}{rows:List (List Int)}{g:List Int}(hp:cV P=false)(p1:3<=P)(p2:P<=9973)(hr:∀r∈rows,r.length=w)(hg:g.length=w)(hw:w<=40)(hn:rows.length<=40) :
 (∃ws:List Int,BV [.int P,.lst (rows.map ao),ao g] = .ok (ao ws)/\ws.length=rows.length/\bX P ws/\∀i,cg P (vec g i) (bG rows (vec ws) i))∨(BV [.int P,.lst (rows.map ao),ao g] = .ok .bS/\¬Span P rows (vec g)):=by
 have p0:1<P:=by lia
 have bF:∀r∈g::rows,r.length=w:=λr h=>(List.mem_cons.mp h).elim (λz=>by rw[z];exact hg) (hr r)
 obtain⟨S,hS,eS⟩:=si (P:=P) (rows:=g::rows) hp p1 p2 (by simp) bF (by lia) (by simp;lia)
 have hT:=BZ bF hS
 generalize pD w S=T at eS hT
 have nr:=iP rows
 have nT:=iP T
 have n1:D.bQ [ao g]=true:=tN [g]
 have start:∀u r,u [.ro (.int P),.ro (.lst (rows.map ao)),.ro (ao g),.own (T.map ao)]=r->aG (c6 3 (gU vT (ai (gV 0) (ai (gL (Bu (gS (ai (gV 2) aB)) (nJ (gV 1)))) aB)))) u [.ro (.int P),.ro (.lst (rows.map ao)),.ro (ao g),.no]=r:=λu r h=>by
  refine fy (ds:=T.map ao) ?_ h
  have ll:1+rows.length<=1000:=by lia
  simp only[cN] at eS
  walk_at "evs"
  try simp only[Sv,Jy,eS]
  walk_at "evs"
 by_cases hc:∃t0 T',T=t0::T'/\vec t0 0=1
 ·obtain⟨t0,T',rfl,h0⟩:=hc
  obtain⟨h1,h2,h3,h4⟩:=hT.steps.row t0 bV
  rw[dE] at h1
  have nP:cu (ao t0::T'.map ao) 0=some (ao t0):=jK 0
  have va:=yC (r:=t0) (p:=0) (by lia)
  rw[h0] at va
  have FF:cu (t0.map D.int) (0:Int)=some (.int 1):=va
  have et:=sf (P:=P) (c:=-1) (r:=t0.drop 1) (by lia) (vz (by lia)) (by rw[rf];lia)
  refine .inl ⟨eI P (t0.drop 1) (-1),cH rfl ?_,by rw[yx,rf];lia,BR (by lia),XA (hT.idle t0 bV) h0⟩
  delta Fq
  refine start _ _ (mD ?_ (cv ?_))
  ·walk_at "evs"
   try simp only[nP]
   simp only[dZ,a6n]
   walk_at "evs"
   simp only[FF]
   walk_at "evs"
   try rfl
  ·have e1:iM (t0.map D.int) (some 1) none=(t0.drop 1).map D.int:=by
    have:=xY (t0.map D.int) 1
    rw[<-w9] at this
    exact this
   simp only[dZ] at et ⊢
   walk_at "evs"
   try simp only[nP]
   try simp only[dZ]
   walk_at "evs"
   rw[e1]
   walk_at "evs"
   try simp only[et]
 ·refine .inr ⟨cH rfl ?_,λsp=>hc (Xz p0 hT sp)⟩
  delta Fq
  refine start _ _ (pf (ky ?_ (cv (by walk_at "evs"))))
  cases T with
  | nil=>walk_at "evs";rfl
  | cons t0 T' =>
    obtain⟨h1,h2,h3,h4⟩:=hT.steps.row t0 bV
    rw[dE] at h1
    have nP:cu (ao t0::T'.map ao) 0=some (ao t0):=jK 0
    have va:=yC (r:=t0) (p:=0) (by lia)
    have h0:vec t0 0=0:=by
     rcases sU (aO t0) with z | z
     ·exact absurd ⟨t0,T',rfl,by rw[<-z];exact h4⟩ hc
     ·exact mI z
    rw[h0] at va
    have FF:cu (t0.map D.int) (0:Int)=some (.int 0):=va
    walk_at "evs"
    try simp only[nP]
    simp only[dZ,a6n]
    walk_at "evs"
    simp only[FF]
    walk_at "evs"
    try rfl
noncomputable section
def Nj:G->R Fl :=
 (bu (aI lq (ai (gV 0) (ai (aI nH (ai (gL (z6d (gZip (gV 1) (gV 2)) (y0w (aL (au dX (gV 0) (gV 1)))))) aB)) aB))))
def B1:List D->R D:=b6 3 3 Nj
def FG:G->R Fl :=
 (aG (c6 3 (dM (jN (aI i7 (ai (gV 2) aB))) (fK (aL (aI ik (ai (gL (dM (kY (gV 2)) (fK (aL (au aX (gV 0) (gV 1)))))) aB))))))
 (aG (fL 4 (my (gL (gU vT (ai (gV 0) (ai (gV 3) aB)))))
 (aG (aV 5 (aL (aI B1 (ai (gV 0) (ai (gV 4) (ai (gV 2) aB))))))
 (cF (gT (au ij (gV 5) (gC (.int 0)))) (bu (aI nV (ai (gV 0) (ai (gV 4) (ai (aI pk (ai (gV 0) (ai (gV 5) aB))) aB))))) c5)))
 (bu (gC .bS))))
def FH:List D->R D:=b6 3 6 FG
def FI:G->R Fl :=
 (aG (aV 3 (aL (aI BV (ai (gV 0) (ai (gV 1) (ai (gV 2) aB))))))
 (aG (cF (gT (au y7d (gV 3) (gC .bS))) (bu (dW (ai (gC (.str "sum")) (ai (gV 3) aB)))) c5)
 (bu (dW (ai (gC (.str "shut")) (ai (aI FH (ai (gV 0) (ai (gV 1) (ai (gV 2) aB)))) aB))))))
def vV:List D->R D:=b6 3 4 FI
end
def gm(i0 i:Nat):Nat:=if i<i0 then i else i+1
theorem Nk(f:Nat->Int):∀{n i0:Nat},i0<=n->aF f (n+1)=f i0+aF (λi=>f (gm i0 i)) n
 | 0,i0,h=>by
   have:i0=0:=by lia
   subst this
   simp[aF]
 | n+1,i0,h=>by
   by_cases e:i0=n+1
   ·subst e
    rw[dB,dc (f:=λi=>f (gm (n+1) i)) (g:=f) λi hi=>by unfold gm;rw[if_pos hi]]
    lia
   ·rw[dB,Nk f (n:=n) (i0:=i0) (by lia),dB (λi=>f (gm i0 i))]
    have:gm i0 n=n+1:=by unfold gm;rw[if_neg (by lia)]
    rw[this]
    lia
theorem Nl{P a:Int}(hp:cV P=false)(p1:3<=P)(p2:P<=9973)(h:¬cg P a 0):∃b:Int,cg P (b*a) 1:=by
 have hm:a%P≠0:=λz=>h (by unfold cg;rw[z,pR])
 obtain⟨b,_,_,_,e⟩:=(r_ (n:=a) hp p1 p2).2 hm
 exact⟨b,by unfold cg;rw[e,ke (by lia) (by lia)]⟩
theorem B2{P:Int}(hp:cV P=false)(p1:3<=P)(p2:P<=9973):∀(m n:Nat) (A:Nat->Nat->Int),m<n->∃c:Nat->Int,(∃i,i<n/\¬cg P (c i) 0)/\∀j,j<m->cg P (aF (λi=>c i*A i j) n) 0
 | 0,n,A,h=>⟨λ_=>1,⟨0,h,vS (by lia)⟩,λj hj=>by lia⟩
 | m+1,n,A,h=>by
   by_cases hz:∀i,i<n->cg P (A i m) 0
   ·obtain⟨c,h1,h2⟩:=B2 hp p1 p2 m n A (by lia)
    refine⟨c,h1,λj hj=>?_⟩
    by_cases e:j=m
    ·subst e
     have:cg P (aF (λi=>c i*A i j) n) (aF (λ_=>0) n):=cg.aF λi hi=>by
      have:=(cg.refl (P:=P) (a:=c i)).mul (hz i hi)
      rw[gq] at this;exact this
     rw[vJ] at this
     exact this
    ·exact h2 j (by lia)
   ·obtain⟨i0,hi0,aU⟩:∃i0,i0<n/\¬cg P (A i0 m) 0:=xh λq=>hz λi hi=>xh λz=>q ⟨i,hi,z⟩
    obtain⟨b,hb⟩:=Nl hp p1 p2 aU
    obtain⟨n',rfl⟩:∃n',n=n'+1:=⟨n-1,by lia⟩
    obtain⟨c,⟨i1,Nm,pA⟩,h2⟩:=B2 hp p1 p2 m n' (λi j=>A (gm i0 i) j-A (gm i0 i) m*(b*A i0 j)) (by lia)
    let S:Int:=aF (λi=>c i*A (gm i0 i) m) n'
    let d:Nat->Int:=λi=>if i=i0 then -(b*S) else if i<i0 then c i else c (i-1)
    have Nn:∀i,d (gm i0 i)=c i:=λi=>by
     show(if gm i0 i=i0 then _ else if gm i0 i<i0 then _ else _)=_
     unfold gm
     by_cases q:i<i0
     ·rw[if_pos q,if_neg (by lia),if_pos q]
     ·rw[if_neg q,if_neg (by lia),if_neg (by lia),show i+1-1=i by lia]
    have d0:d i0 = -(b*S):=if_pos rfl
    refine⟨d,⟨gm i0 i1,by unfold gm;split<;>lia,by rw[Nn];exact pA⟩,λj hj=>?_⟩
    rw[Nk _ (i0:=i0) (by lia),d0,dc (f:=λi=>d (gm i0 i)*A (gm i0 i) j) (g:=λi=>c i*A (gm i0 i) j) λi _=>by rw[Nn]]
    by_cases e:j=m
    ·subst e
     show cg P (-(b*S)*A i0 j+S) 0
     have e1:-(b*S)*A i0 j+S=S-S*(b*A i0 j):=by
      rw[m_,iH b S,dN];lia
     rw[e1]
     have:=(cg.refl (P:=P) (a:=S)).sub ((cg.refl (a:=S)).mul hb)
     rw[j8,Ju] at this
     exact this
    ·have q:=h2 j (by lia)
     have e1:aF (λi=>c i*(A (gm i0 i) j-A (gm i0 i) m*(b*A i0 j))) n'=aF (λi=>c i*A (gm i0 i) j) n'+(-(b*A i0 j))*S:=by
      show _=_+_*aF (λi=>c i*A (gm i0 i) m) n'
      rw[<-mE,<-pj]
      refine dc λi _=>?_
      rw[Int.mul_sub,<-dN,m_,iH (b*A i0 j)]
      lia
     rw[e1] at q
     refine(cg.of_eq ?_).trans q
     have:-(b*S)*A i0 j = -(b*A i0 j)*S:=by
      rw[m_,m_,dN,dN,iH S]
     rw[this]
     lia
section
variable {P:Int}{w:Nat}{rows S:List (List Int)}
theorem Span.Np{S:List (List Int)}(d:Nat->Int):Span P S (λi=>aF (λk=>d k*vec (a_ S k) i) S.length):=BY d S.length (bA _)
theorem XB(hS:nU P w S){j k:Nat}(hj:j<S.length)(hk:k<S.length):vec (a_ S k) (aO (a_ S j))=if k=j then 1 else 0:=by
 by_cases e:k=j
 ·subst e;rw[if_pos rfl];exact(hS.row _ (jQ hk)).2.2.2
 ·rw[if_neg e]
  refine Fj hS (jQ hk) (jQ hj) λz=>e ?_
  have ak:a_ S k=S[k]:=by unfold a_;rw[cD hk];rfl
  have aj:a_ S j=S[j]:=by unfold a_;rw[cD hj];rfl
  rw[ak,aj] at z
  have pw:=List.pairwise_iff_getElem.mp hS.pair
  rcases DO k j with q | q | q
  ·have:=(pw k j hk hj q).1;lia
  ·exact q
  ·have:=(pw j k hj hk q).1;lia
theorem XC(hp:cV P=false)(p1:3<=P)(p2:P<=9973)(hr:∀r∈rows,r.length=w)(hS:iq P (w+rows.length) (dO rows) S):S.length=rows.length:=by
 have lm:(dO rows).length=rows.length:=by unfold dO;simp
 have ra:∀k,k<rows.length->a_ (dO rows) k=a_ rows k++cP rows.length k:=λk hk=>by
  unfold dO a_
  rw[cf,l8 hk]
  rfl
 have hi:∀(c:Nat->Int) (k:Nat),k<rows.length->aF (λi=>c i*vec (a_ (dO rows) i) (w+k)) rows.length=c k:=λc k hk=>by
  rw[dc (g:=λi=>c i*(if k=i then 1 else 0)) λi hi=>by rw[ra i hi,Fy hr hi hk]]
  rw[nN hk λi _ aU=>by rw[if_neg (eC aU),gq],if_pos rfl,j8]
 rcases DO S.length rows.length with z | z | z
 ·exfalso
  obtain⟨c,⟨i,Nm,aU⟩,hc⟩:=B2 hp p1 p2 S.length rows.length (λi j=>vec (a_ (dO rows) i) (aO (a_ S j))) z
  have sp:=hS.span (Span.Np (P:=P) (S:=dO rows) c)
  rw[lm] at sp
  have zero:∀p,cg P (aF (λk=>c k*vec (a_ (dO rows) k) p) rows.length) 0:=λp=>by
   refine(yv hS.steps sp p).trans ?_
   have:cg P (comb S (λi=>aF (λk=>c k*vec (a_ (dO rows) k) i) rows.length) p) (S.map λ_=>(0:Int)).sum:=yu λr bF=>by
    obtain⟨j,hj⟩:=AN bF
    have pC:=(List.getElem?_eq_some_iff.mp hj).1
    have er:a_ S j=r:=by unfold a_;rw[hj];rfl
    have:=hc j pC
    rw[er] at this
    have:=this.mul (cg.refl (a:=vec r p))
    rw[gP] at this
    exact this
   rw[se (f:=λ_:List Int=>(0:Int)) λ_ _=>rfl] at this
   exact this
  have:=zero (w+i)
  rw[hi c i Nm] at this
  exact aU this
 ·exact z
 ·exfalso
  obtain⟨d,⟨j,hj,aU⟩,hd⟩:=B2 hp p1 p2 rows.length S.length (λj k=>vec (a_ S j) (w+k)) z
  have XD:=Span.Np (P:=P) (S:=S) d
  have XE:Span P (dO rows) (λi=>aF (λk=>d k*vec (a_ S k) i) S.length):=Span.trans hS.lB XD
  have XF:∀i,i<w->cg P (aF (λk=>d k*vec (a_ S k) i) S.length) 0:=λi kB=>by
   refine(Nf hr XE i kB).trans ?_
   have:cg P (bG rows (λk=>aF (λm=>d m*vec (a_ S m) (w+k)) S.length) i) (bG rows (λ_=>0) i):=vU (λk hk=>hd k hk) i
   refine this.trans (cg.of_eq ?_)
   unfold bG
   exact mF λk _=>gP _
  have lj:=(hS.steps.row _ (jQ hj)).2.2.1
  have ev:aF (λk=>d k*vec (a_ S k) (aO (a_ S j))) S.length=d j:=by
   rw[dc (g:=λk=>d k*(if k=j then 1 else 0)) λk hk=>by rw[XB hS.steps hj hk]]
   rw[nN hj λk _ XG=>by rw[if_neg XG,gq],if_pos rfl,j8]
  refine aU ?_
  rw[<-ev]
  rcases dt (aO (a_ S j)) w with q | q
  ·exact XF _ q
  ·have:=hd (aO (a_ S j)-w) (by lia)
   rw[show w+(aO (a_ S j)-w)=aO (a_ S j) by lia] at this
   exact this
def FJ(w:Nat)(S:List (List Int)):List (List Int):=(S.filter λr=>!decide (w<=aO r)).map λr=>r.take w
theorem t9(r:List Int)(w i:Nat):vec (r.take w) i=if i<w then vec r i else 0:=by
 unfold vec
 by_cases h:i<w
 ·rw[Jm h,if_pos h]
 ·rw[List.getElem?_take_eq_none (by lia),if_neg h];rfl
theorem Nq{v:Nat->Int}(h:Span P S v):Span P (S.map λr=>r.take w) (λi=>if i<w then v i else 0):=by
 induction h with
 | zero z =>
   refine .zero λi=>?_
   split
   ·exact z i
   ·exact cg.refl
 | @add u v' c r hm hu q ih =>
   refine .add (c:=c) (List.mem_map.mpr ⟨r,hm,rfl⟩) ih λi=>?_
   rw[t9]
   by_cases h:i<w
   ·rw[if_pos h,if_pos h,if_pos h];exact q i
   ·rw[if_neg h,if_neg h,if_neg h];exact cg.of_eq (by lia)
theorem FK{r:List Int}(h:aO r<w)(hl:aO r<r.length):aO (r.take w)=aO r:=by
 refine BQ (λi hi=>?_) ?_
 ·rw[t9];split
  ·exact mI hi
  ·rfl
 ·rw[t9,if_pos h];exact BP hl
theorem XH(hr:∀r∈rows,r.length=w)(hS:iq P (w+rows.length) (dO rows) S):iq P w rows (FJ w S):=by
 have qj:=hS.steps.row
 have low:∀r,(!decide (w<=aO r))=true->aO r<w:=λr h=>by
  have:decide (w<=aO r)=false:=by simpa using h
  have:=of_decide_eq_false this
  lia
 have tm:∀k,k<rows.length->(a_ rows k++cP rows.length k).take w=a_ rows k:=λk hk=>by
  rw[List.take_append_of_le_length (by rw[hr _ (jQ hk)];exact bA _),AE (by rw[hr _ (jQ hk)];exact bA _)]
 refine⟨⟨λt ht=>?_,?_⟩,λt ht=>?_,λr bF=>?_⟩
 ·obtain⟨r,bF,rfl⟩:=List.mem_map.mp ht
  obtain⟨hm,hd⟩:=List.mem_filter.mp bF
  obtain⟨h1,h2,h3,h4⟩:=qj r hm
  have hd:=low r hd
  have el:=FK hd (by lia)
  refine⟨by rw[lX];lia,λn hn=>h2 n (uW hn),by rw[el];exact hd,?_⟩
  rw[el,t9,if_pos hd];exact h4
 ·refine List.pairwise_map.mpr ((hS.steps.pair.sublist a6m).imp_of_mem λ{r r'} hm sg q=>?_)
  obtain⟨m1,d1⟩:=List.mem_filter.mp hm
  obtain⟨m2,d2⟩:=List.mem_filter.mp sg
  have e1:=FK (low r d1) (by have:=qj r m1;lia)
  have e2:=FK (low r' d2) (by have:=qj r' m2;lia)
  rw[e1,e2,t9,if_pos (low r' d2)]
  exact q
 ·obtain⟨r,bF,rfl⟩:=List.mem_map.mp ht
  obtain⟨hm,hd⟩:=List.mem_filter.mp bF
  have sp:=Nq (w:=w) (hS.lB r hm)
  refine Span.trans (λq hq=>?_) (sp.fB λi=>by rw[t9];exact cg.refl)
  obtain⟨m,sg,rfl⟩:=List.mem_map.mp hq
  obtain⟨k,hk,rfl⟩:=List.mem_map.mp sg
  rw[tm k (List.mem_range.mp hk)]
  exact .nR (jQ (List.mem_range.mp hk))
 ·obtain⟨k,hk⟩:=AN bF
  have cQ:=(List.getElem?_eq_some_iff.mp hk).1
  have er:a_ rows k=r:=by unfold a_;rw[hk];rfl
  have mm:a_ rows k++cP rows.length k∈dO rows:=List.mem_map.mpr ⟨k,List.mem_range.mpr cQ,rfl⟩
  have sp:=Nq (w:=w) (hS.all _ mm)
  refine Span.trans (λq hq=>?_) (sp.fB λi=>?_)
  ·obtain⟨s,hs,rfl⟩:=List.mem_map.mp hq
   by_cases hd:w<=aO s
   ·refine .zero λi=>cg.of_eq ?_
    rw[t9]
    split
    ·exact mI (by lia)
    ·rfl
   ·exact .nR (List.mem_map.mpr ⟨s,List.mem_filter.mpr ⟨hs,by simp[hd]⟩,rfl⟩)
  ·by_cases h:i<w
   ·rw[if_pos h,Fx hr cQ h,er];exact cg.refl
   ·rw[if_neg h]
    refine cg.of_eq ?_
    unfold vec
    rw[eY (by rw[hr r bF];lia)];rfl
theorem Nr{α:Type}(q:α->Bool):∀l:List α,(l.filter q).length+(l.filter λa=>!q a).length=l.length
 | []=>rfl
 | a::l=>by
   have:=Nr q l
   cases e:q a with
   | true=>rw[JA e,JB (by simp[e])];simp;lia
   | false=>rw[JB (by simp[e]),JA (by simp[e])];simp;lia
theorem XI(hp:cV P=false)(p1:3<=P)(p2:P<=9973)(hr:∀r∈rows,r.length=w)(hS:iq P (w+rows.length) (dO rows) S){T:List (List Int)}(hT:iq P w rows T):(pD w S).length+T.length=rows.length:=by
 have e:T=FJ w S:=hT.unique (by lia) (XH hr hS)
 rw[e,<-XC hp p1 p2 hr hS]
 unfold pD FJ
 rw[bD,bD]
 exact Nr (λr=>decide (w<=aO r)) S
end
theorem Nt{gb:G->R Fl}{i:Nat}{I:G->Prop}{A B:D->Prop}:∀{ds:List D} {Γ:G},I Γ->(∀d∈ds,∀Γ,I Γ->(A d/\∃Γ',gb (Γ.set i (.ro d)) = .ok (.nx Γ')/\I Γ')∨∃v,gb (Γ.set i (.ro d)) = .ok (.rt v)/\B v)->((∃Γ',dA gb i ds Γ = .ok (.nx Γ')/\I Γ')/\∀d∈ds,A d)∨∃v,dA gb i ds Γ = .ok (.rt v)/\B v
 | [],Γ,h,_=>.inl ⟨⟨Γ,rfl,h⟩,λd hd=>by cases hd⟩
 | d::ds,Γ,h,q=>by
   rw[Bx]
   rcases q d bV Γ h with ⟨ha,Γ',e,h'⟩ | ⟨v,e,h'⟩
   ·rw[e]
    rcases Nt h' λd' hd=>q d' (bY _ hd) with ⟨z1,z2⟩ | z
    ·refine .inl ⟨z1,λd' hd=>?_⟩
     rcases List.mem_cons.mp hd with rfl | hd
     ·exact ha
     ·exact z2 d' hd
    ·exact .inr z
   ·rw[e];exact .inr ⟨v,rfl,h'⟩
def eh(a b:List Int):Int:=((a.zip b).map λp=>p.1*p.2).sum
theorem vW:∀{a b:List Int},a.length=b.length->eh a b=aF (λk=>vec a k*vec b k) a.length
 | [],[],_=>rfl
 | [],_::_,h=>by simp at h
 | _::_,[],h=>by simp at h
 | x::a,y::b,h=>by
   have ih:=vW (a:=a) (b:=b) (by simpa using h)
   rw[dE,B0]
   unfold eh at ih ⊢
   rw[a6l,cN,nc,ih]
   rfl
section
variable {P:Int}{w:Nat}{rows S T:List (List Int)}
def t_(rows:List (List Int))(k:Nat):List Int:=rows.map λr=>vec r k
def jR(rows:List (List Int))(w:Nat):List (List Int):=(bL w).map (t_ rows)
theorem yH:(jR rows w).length=w:=by unfold jR;simp
theorem XJ{k i:Nat}(hk:k<w):vec (a_ (jR rows w) k) i=vec (a_ rows i) k:=by
 unfold jR a_
 rw[cf,l8 hk]
 show vec (t_ rows k) i=_
 unfold t_ vec
 rw[cf]
 cases rows[i]? with
 | none=>rfl
 | some r=>rfl
theorem Nu(c:Nat->Int)(i:Nat):bG (jR rows w) c i=aF (λk=>c k*vec (a_ rows i) k) w:=by
 unfold bG
 rw[yH]
 exact dc λk hk=>by rw[XJ hk]
def yI(S:List (List Int))(p:Nat)(k:Nat):Int:=(if k=p then 1 else 0)-(S.map λr=>vec r p*(if k=aO r then 1 else 0)).sum
theorem Nv{v:Nat->Int}{p:Nat}:∀{l:List (List Int)},(∀r∈l,aO r<w)->aF (λk=>(l.map λr=>vec r p*(if k=aO r then 1 else 0)).sum*v k) w=comb l v p
 | [],_=>by rw[mF λk _=>by simp];rfl
 | r::l,h=>by
   have ih:=Nv (v:=v) (p:=p) (l:=l) λr' bF=>h r' (bY _ bF)
   have e:∀k,((r::l).map λr=>vec r p*(if k=aO r then 1 else 0)).sum*v k=vec r p*((if k=aO r then 1 else 0)*v k)+(l.map λr=>vec r p*(if k=aO r then 1 else 0)).sum*v k:=λk=>by
    rw[cN,nc,DP,dN]
   rw[dc λk _=>e k,pj,mE,ih,nN (h r bV) λk _ hk=>by rw[if_neg hk,gP],if_pos rfl,jj]
   unfold comb
   rw[cN,nc,iH (vec r p)]
theorem Nw{v:Nat->Int}{p:Nat}(hp:p<w)(h:∀r∈S,aO r<w):aF (λk=>yI S p k*v k) w=v p-comb S v p:=by
 have e:∀k,yI S p k*v k=(if k=p then 1 else 0)*v k + -1*((S.map λr=>vec r p*(if k=aO r then 1 else 0)).sum*v k):=λk=>by
  unfold yI
  rw[Int.sub_mul];lia
 rw[dc λk _=>e k,pj,mE,Nv h,nN hp λk _ hk=>by rw[if_neg hk,gP],if_pos rfl,jj]
 lia
theorem Nx{u g:Nat->Int}(h:Span P T u)(ht:∀t∈T,cg P (aF (λk=>vec t k*g k) w) 0):cg P (aF (λk=>u k*g k) w) 0:=by
 induction h with
 | zero z =>
   have:cg P (aF (λk=>_*g k) w) (aF (λ_=>0) w):=cg.aF λk _=>by
    have:=(z k).mul (cg.refl (a:=g k))
    rw[gP] at this;exact this
   rw[vJ] at this
   exact this
 | @add u v c r hm hu q ih =>
   have e:cg P (aF (λk=>v k*g k) w) (aF (λk=>u k*g k+c*(vec r k*g k)) w):=cg.aF λk _=>by
    have:=(q k).mul (cg.refl (a:=g k))
    rw[DP,dN] at this;exact this
   rw[pj,mE] at e
   have:=ih.add ((cg.refl (P:=P) (a:=c)).mul (ht r hm))
   rw[gq] at this
   exact e.trans this
theorem XM{g:List Int}(hS:iq P w rows S)(hr:∀r∈rows,r.length=w)(hg:g.length=w)(hT:yF P (jR rows w) T)(hn:¬Span P rows (vec g)):∃t∈T,¬cg P (aF (λk=>vec t k*vec g k) w) 0:=by
 refine xh λhc=>hn ?_
 have ht:∀t∈T,cg P (aF (λk=>vec t k*vec g k) w) 0:=λt h=>xh λz=>hc ⟨t,h,z⟩
 have hl:∀r∈S,aO r<w:=λr h=>(hS.steps.row r h).2.2.1
 have key:∀p,cg P (vec g p) (comb S (vec g) p):=λp=>by
  rcases dt p w with hp | hp
  ·have h1:=hT.all (yI S p) λi=>by
    rw[Nu,Nw hp hl]
    by_cases hi:i<rows.length
    ·have:=yv hS.steps (hS.all _ (jQ hi)) p
     have:=this.sub (cg.refl (a:=comb S (vec (a_ rows i)) p))
     rw[Ju] at this
     exact this
    ·have e:a_ rows i=[]:=by unfold a_;rw[eY (by lia)];rfl
     have e0:∀k,vec (a_ rows i) k=0:=λk=>by rw[e];rfl
     refine cg.of_eq ?_
     unfold comb
     rw[e0,se λr _=>by rw[e0,gP]]
     rfl
   have h2:=Nx (g:=vec g) (w:=w) h1 ht
   rw[yH,dc (g:=λk=>yI S p k*vec g k) λk hk=>by rw[if_pos hk],Nw hp hl] at h2
   have:=h2.add (cg.refl (a:=comb S (vec g) p))
   rw[iI,a6o] at this
   exact this
  ·refine cg.of_eq ?_
   unfold comb
   rw[show vec g p=0 by unfold vec;rw[eY (by lia)];rfl,se λr h=>by
    rw[show vec r p=0 by unfold vec;rw[eY (by rw[(hS.steps.row r h).1];exact hp)];rfl,gq]]
 have sp:Span P S (vec g):=(FA (S:=S) (λr=>vec g (aO r)) S λ_ h=>h).fB key
 exact Span.trans hS.lB sp
end
theorem XN{P:Int}{a b:List Int}(h:fits a)(hl:a.length<=1000):z6d (gZip (gV 1) (gV 2)) (y0w (aL (au dX (gV 0) (gV 1)))) [.ro (.int P),.ro (ao a),.ro (ao b)] = .ok (((a.zip b).map λp=>p.1*p.2).map D.int):=by
 simp only[dZ]
 have hz:(iN (a.map D.int) (b.map D.int)).length<=100000:=by rw[Fv];lia
 have Nc:=ni (ko a) (ko b)
 walk_at "evs"
 rw[Ft (h:=λx y=>x*y)]
 intro x hx y hy
 have fx:=Lu (j:=y) (h x hx)
 walk_at "evs"
theorem XO{P:Int}{a b:List Int}(hp:0<P)(h:fits a)(hl:a.length<=1000):B1 [.int P,ao a,ao b] = .ok (.int (eh a b%P)):=by
 refine cH rfl ?_
 delta Nj
 refine cv ?_
 have e:=XN (P:=P) (b:=b) h hl
 have eo:=s_on (P:=P) (n:=eh a b) hp
 have ls:((a.zip b).map λp=>p.1*p.2).length<=1000:=by rw[bD,AM];lia
 show(aI lq (ai (gV 0) (ai (aI nH (ai (gL (z6d (gZip (gV 1) (gV 2)) (y0w (aL (au dX (gV 0) (gV 1)))))) aB)) aB))) [.ro (.int P),.ro (ao a),.ro (ao b)]=_
 simp only[aI,ai,aB,gL]
 rw[e]
 walk_at "evs"
 rfl
theorem XQ{P:Int}{w:Nat}{rows:List (List Int)}{g:List Int}(hp:cV P=false)(p1:3<=P)(p2:P<=9973)(aU:rows≠[])(hr:∀r∈rows,r.length=w)(hg:g.length=w)(w1:1<=w)(hw:w<=40)(hn:rows.length<=40)(hs:¬Span P rows (vec g)) :
 ∃s:List Int,FH [.int P,.lst (rows.map ao),ao g] = .ok (ao s)/\s.length=w/\bX P s/\(∀r∈rows,cg P (eh r s) 0)/\cg P (eh g s) 1:=by
 have p0:0<P:=by lia
 obtain⟨S0,_,XR⟩:=t6 (P:=P) (w:=w) (rows:=rows) hp p1 p2 aU hr (by lia) (by lia)
 have cl:∀r∈jR rows w,r.length=rows.length:=λr h=>by
  unfold jR at h
  obtain⟨k,_,rfl⟩:=List.mem_map.mp h
  unfold t_;rw[bD]
 have pY:jR rows w≠[]:=by intro z;have:=yH (rows:=rows) (w:=w);rw[z] at this;simp at this;lia
 obtain⟨S,hS,eS⟩:=si (P:=P) (w:=rows.length) (rows:=jR rows w) hp p1 p2 pY cl (by lia) (by rw[yH];lia)
 have hT:=BZ cl hS
 generalize pD rows.length S=T at eS hT
 have rQ:=hT.steps
 rw[yH] at rQ
 have nr:=iP rows
 have nT:=iP T
 have nC:=iP (jR rows w)
 obtain⟨t1,B3,XS⟩:=XM XR hr hg hT hs
 have FL:∀t∈T,∀v:List Int,v.length=w->eh t v=aF (λk=>vec t k*vec v k) w:=λt ht v hv=>by
  rw[vW ((rQ.row t ht).1.trans hv.symm),(rQ.row t ht).1]
 have key:∃s:List Int,FG [.ro (.int P),.ro (.lst (rows.map ao)),.ro (ao g),.no,.no,.no] = .ok (.rt (ao s))/\s.length=w/\bX P s/\(∀r∈rows,cg P (eh r s) 0)/\cg P (eh g s) 1:=by
  delta FG
  have loop:=Nt (i:=4) (gb:=(aG (aV 5 (aL (aI B1 (ai (gV 0) (ai (gV 4) (ai (gV 2) aB)))))) (cF (gT (au ij (gV 5) (gC (.int 0)))) (bu (aI nV (ai (gV 0) (ai (gV 4) (ai (aI pk (ai (gV 0) (ai (gV 5) aB))) aB))))) c5)))
   (I:=λΓ=>∃x4 x5,Γ=[.ro (.int P),.ro (.lst (rows.map ao)),.ro (ao g),.own ((jR rows w).map ao),x4,x5])
   (A:=λd=>∀t∈T,d=ao t->cg P (eh t g) 0) (B:=λv=>∃s:List Int,v=ao s/\s.length=w/\bX P s/\(∀r∈rows,cg P (eh r s) 0)/\cg P (eh g s) 1)
   (ds:=T.map ao) (Γ:=[.ro (.int P),.ro (.lst (rows.map ao)),.ro (ao g),.own ((jR rows w).map ao),.no,.no]) ⟨_,_,rfl⟩ (by
     rintro d hd Γ ⟨x4,x5,rfl⟩
     obtain⟨t,ht,rfl⟩:=List.mem_map.mp hd
     obtain⟨l1,l2,l3,l4⟩:=rQ.row t ht
     have eb:=XO (P:=P) (a:=t) (b:=g) p0 (l2.fits (by lia)) (by lia)
     by_cases hz:eh t g%P=0
     ·refine .inl ⟨λt' _ e=>?_,_,b8 (d:=.int (eh t g%P)) (by walk_at "evs";simp only[eb];walk_at "evs") (rV ?_),⟨_,_,rfl⟩⟩
      ·have:t'=t:=vL e.symm
       rw[this]
       unfold cg
       rw[hz,pR]
      ·rw[hz]
       walk_at "evs"
       try rfl
     ·have hm:(eh t g%P)%P≠0:=by rw[a6b _ (Sg P)];exact hz
      obtain⟨a,ea,a0,a1,a2⟩:=(r_ (n:=eh t g%P) hp p1 p2).2 hm
      have et:=sf (P:=P) (c:=a) (r:=t) (by lia) (vz (by lia)) (by lia)
      have bz:(!(eh t g%P==0))=true:=by simp[hz]
      have sl:(eI P t a).length=w:=yx.trans l1
      have sd:∀v:List Int,v.length=w->cg P (eh v (eI P t a)) (a*eh t v):=λv hv=>by
       rw[vW (hv.trans sl.symm),hv,FL t ht v hv,<-mE]
       refine cg.aF λk _=>?_
       rw[yw]
       refine((cg.refl (a:=vec v k)).mul ip).trans (cg.of_eq ?_)
       rw[<-dN,iH (vec v k),dN,iH (vec v k)]
      refine .inr ⟨ao (eI P t a),b8 (d:=.int (eh t g%P)) (by walk_at "evs";simp only[eb];walk_at "evs") (ky ?_ (cv ?_)),eI P t a,rfl,sl,BR p0,λr bF=>?_,?_⟩
      ·walk_at "evs"
       rw[bz]
      ·walk_at "evs"
       simp only[ea]
       walk_at "evs"
       exact et
      ·refine(sd r (hr r bF)).trans ?_
       obtain⟨j,hj⟩:=AN bF
       have er:a_ rows j=r:=by unfold a_;rw[hj];rfl
       have:=hT.idle t ht j
       rw[Nu,er,<-FL t ht r (hr r bF)] at this
       have:=(cg.refl (P:=P) (a:=a)).mul this
       rw[gq] at this
       exact this
      ·refine(sd g hg).trans ?_
       have:cg P (a*eh t g) (a*(eh t g%P)):=(cg.refl (a:=a)).mul ip.symm
       refine this.trans ?_
       unfold cg
       rw[a2,ke (by lia) (by lia)])
  rcases loop with ⟨_,hA⟩ | ⟨v,e,s,rfl,q⟩
  ·exfalso
   have:=hA (ao t1) (List.mem_map.mpr ⟨t1,B3,rfl⟩) t1 B3 rfl
   rw[FL t1 B3 g hg] at this
   exact XS this
  ·refine⟨s,?_,q⟩
   refine fy (ds:=(jR rows w).map ao) ?_ (pf (EO (ds:=T.map ao) ?_ e))
   ·have mh:((w:Int)-0).toNat=w:=by lia
    have gw:(w:Int)<4611686018427387904:=by lia
    simp only[dZ g]
    walk_at "evs"
    rw[hg]
    walk_at "evs"
    try simp only[rk]
    rw[rT (h:=λk=>ao (t_ rows k))]
    ·unfold jR
     rw[tS]
    ·intro k hk
     have hln:(rows.map ao).length<=100000:=by rw[bD];lia
     have nk:=z0n (t_ rows k)
     walk_at "evs"
     rw[mz (h:=λr=>D.int (vec r k))]
     ·walk_at "evs"
      unfold t_ at nk ⊢
      simp only[dZ] at nk ⊢
      rw[tR]
      walk_at "evs"
     ·intro r bF
      have va:=yC (r:=r) (p:=k) (by rw[hr r bF];exact hk)
      simp only[dZ]
      walk_at "evs"
      simp only[iI,va]
      walk_at "evs"
   ·walk_at "evs"
    simp only[eS]
    walk_at "evs"
 obtain⟨s,e,q⟩:=key
 exact⟨s,cH rfl e,q⟩
theorem vX{P:Int}{w:Nat}{rows:List (List Int)}{g:List Int}(hp:cV P=false)(p1:3<=P)(p2:P<=9973)(aU:rows≠[])(hr:∀r∈rows,r.length=w)(hg:g.length=w)(w1:1<=w)(hw:w<=40)(hn:rows.length<=40) :
 (∃ws:List Int,vV [.int P,.lst (rows.map ao),ao g] = .ok (.tup [.str "sum",ao ws])/\ws.length=rows.length/\bX P ws/\∀i,cg P (vec g i) (bG rows (vec ws) i)) ∨
 ∃s:List Int,vV [.int P,.lst (rows.map ao),ao g] = .ok (.tup [.str "shut",ao s])/\s.length=w/\bX P s/\(∀r∈rows,cg P (eh r s) 0)/\cg P (eh g s) 1/\¬Span P rows (vec g):=by
 rcases yG hp p1 p2 hr hg (by lia) (by lia) with ⟨ws,e,h1,h2,h3⟩ | ⟨e,h⟩
 ·refine .inl ⟨ws,cH rfl ?_,h1,h2,h3⟩
  delta FI
  refine b8 (d:=ao ws) (by walk_at "evs";simp only[e];walk_at "evs") (pf (ky (by simp only[dZ];walk_at "evs") (cv (by walk_at "evs"))))
 ·obtain⟨s,es,q1,q2,q3,q4⟩:=XQ hp p1 p2 aU hr hg w1 hw hn h
  refine .inr ⟨s,cH rfl ?_,q1,q2,q3,q4,h⟩
  delta FI
  refine b8 (d:=.bS) (by walk_at "evs";simp only[e];walk_at "evs") (mD (by walk_at "evs";try rfl) (cv (by walk_at "evs";simp only[es];walk_at "evs")))
noncomputable section
def FN:G->R Fl :=
 (aG (aV 1 (aL (gC (.int 2))))
 (aG (df (gT (au xW (au dX (gV 1) (gV 1)) (gV 0))) (aG (cF (gT (au dJ (au dn (gV 0) (gV 1)) (gC (.int 0)))) (bu (gV 1)) c5)
 (aV 1 (aL (au cz (gV 1) (gC (.int 1)))))) 10000)
 (bu (gV 0))))
def B4:List D->R D:=b6 1 2 FN
end
end L3
namespace L3
open PySem
local macro_rules | `(tactic| walk_at "evs") => wkL " L3.z7u L3.z4j L3.s_on L3.z4s L3.z4t L3.z4u L3.z5g L3.z4h L3.z4v L3.z0n"
def i8(n q:Int):Prop:=(n=1/\q=1)∨(2<=q/\q<=n/\n%q=0/\∀e:Int,2<=e->e<q->n%e≠0)
theorem XT{n b:Int}(hn:1<=n)(b1:2<=b)(b2:b<n)(hb:n%b=0):n=b*(n/b)/\2<=n/b/\n/b<n/\n%(n/b)=0:=by
 have e1:n=b*(n/b):=by have:=DL n b;lia
 generalize hq:n/b=q at *
 have q0:0<q:=by
  rcases DM 0 q with z | z | z
  ·exact z
  ·rw[<-z] at e1;simp at e1;lia
  ·have:b*q<0:=SA (by lia) z
   lia
 have q1:q≠1:=λz=>by rw[z] at e1;lia
 have q2:2*q<=b*q:=Jz b1 (by lia)
 exact⟨e1,by lia,by lia,by rw[e1];exact a6g b q⟩
theorem XU{n d:Int}(h1:1<=n)(d1:2<=d)(hq:¬d*d<=n)(hd:∀e:Int,2<=e->e<d->n%e≠0):i8 n n:=by
 by_cases hn:n=1
 ·exact .inl ⟨hn,hn⟩
 refine .inr ⟨by lia,by lia,Int.emod_self,λe e1 e2 z=>?_⟩
 obtain⟨c1,c2,c3,c4⟩:=XT h1 e1 e2 z
 have e3:d<=e:=by
  rcases DN e d with w | w
  ·exact absurd z (hd e e1 w)
  ·exact w
 have e4:d<=n/e:=by
  rcases DN (n/e) d with w | w
  ·exact absurd c4 (hd _ c2 w)
  ·exact w
 have:d*d<=e*(n/e):=jD e3 e4 (by lia) (by lia)
 lia
theorem XW{n:Int}(h1:1<=n)(h2:n<=100000000):∀(k m:Nat) (Γ:G),m<k ->
 (∃d:Int,Γ=[.ro (.int n),.ro (.int d)]/\2<=d/\d<=10001/\(∀e:Int,2<=e->e<d->n%e≠0)/\(10001-d).toNat=m) ->
 (∃q,i8 n q/\df (gT (au xW (au dX (gV 1) (gV 1)) (gV 0))) (aG (cF (gT (au dJ (au dn (gV 0) (gV 1)) (gC (.int 0)))) (bu (gV 1)) c5) (aV 1 (aL (au cz (gV 1) (gC (.int 1)))))) k Γ = .ok (.rt (.int q))) ∨
 (i8 n n/\∃x,df (gT (au xW (au dX (gV 1) (gV 1)) (gV 0))) (aG (cF (gT (au dJ (au dn (gV 0) (gV 1)) (gC (.int 0)))) (bu (gV 1)) c5) (aV 1 (aL (au cz (gV 1) (gC (.int 1)))))) k Γ = .ok (.nx [.ro (.int n),x])):=by
 refine nK _ (λr=>(∃q,i8 n q/\r = .ok (.rt (.int q)))∨(i8 n n/\∃x,r = .ok (.nx [.ro (.int n),x]))) ?_
 rintro m Γ ⟨d,rfl,d1,d2,hd,hm⟩
 by_cases hq:d*d<=n
 ·have e1:decide (d*d<=n)=true:=decide_eq_true hq
  have d3:d<10001:=by
   rcases DN d 10001 with z | z
   ·exact z
   ·have:10001*10001<=d*d:=jD z z (by lia) (by lia)
    lia
  refine .inr ⟨by walk_at "evs";simp only[e1],?_⟩
  by_cases hz:n%d=0
  ·have e2:(n%d==0)=true:=by simpa using hz
   have d5:2*d<=d*d:=Jz d1 (by lia)
   refine .inr (.inr (.inl ⟨.int d,?_,.inl ⟨d,.inr ⟨d1,by lia,hz,hd⟩,rfl⟩⟩))
   refine pf (ky (by walk_at "evs";simp only[e2]) ?_)
   exact cv (by walk_at "evs")
  ·have e2:(n%d==0)=false:=by simpa using hz
   refine .inl ⟨[.ro (.int n),.ro (.int (d+1))],(10001-(d+1)).toNat,by lia,.inl ?_,d+1,rfl,by lia,by lia,λe z1 z2=>?_,rfl⟩
   ·refine mD (by walk_at "evs";simp only[e2]) ?_
    refine gW ?_
    walk_at "evs"
   ·by_cases ee:e=d
    ·rw[ee];exact hz
    ·exact hd e z1 (by lia)
 ·have e1:decide (d*d<=n)=false:=decide_eq_false hq
  exact .inl ⟨by walk_at "evs";simp only[e1],.inr ⟨XU h1 d1 hq hd,_,rfl⟩⟩
theorem XX{n:Int}(h1:1<=n)(h2:n<=100000000):∃q,i8 n q/\B4 [.int n] = .ok (.int q):=by
 rcases XW h1 h2 10000 (10001-2:Int).toNat [.ro (.int n),.ro (.int 2)] (by decide) ⟨2,rfl,by lia,by lia,λe z1 z2=>by lia,rfl⟩ with ⟨q,hl,e⟩ | ⟨hl,x,e⟩
 ·refine⟨q,hl,cH rfl ?_⟩
  delta FN
  refine b8 (d:=.int 2) (by walk_at "evs") ?_
  exact pf e
 ·refine⟨n,hl,cH rfl ?_⟩
  delta FN
  refine b8 (d:=.int 2) (by walk_at "evs") ?_
  exact eG e (cv (by walk_at "evs"))
theorem Ny:∀{a b:List Int},a.Nodup->(∀x∈a,x∈b)->b.length<=a.length->a.Perm b
 | [],b,_,_,h=>by
   have:b=[]:=List.length_eq_zero_iff.mp (by simpa using h)
   rw[this]
 | x::a,b,hn,hs,h=>by
   obtain⟨n1,n2⟩:=List.nodup_cons.mp hn
   have hx:=hs x bV
   have p:=a6p hx
   have hl:(b.erase x).length<=a.length:=by rw[a6q hx];simp at h;lia
   refine(JE x (Ny n2 (λy hy=>?_) hl)).trans p.symm
   have ne:y≠x:=λz=>n1 (z ▸ hy)
   exact(a6r ne).mpr (hs y (bY _ hy))
def bK:List Int->Int
 | []=>1
 | x::l=>x*bK l
theorem XY{a b:List Int}(h:a.Perm b):bK a=bK b:=by
 induction h with
 | nil=>rfl
 | cons x _ ih=>simp only[bK,ih]
 | swap x y l=>simp only[bK];rw[<-dN,<-dN,iH y x]
 | trans _ _ h1 h2=>exact h1.trans h2
theorem Nz{P x:Int}:∀l:List Int,cg P (bK (l.map λi=>(x*i)%P)) (x^l.length*bK l)
 | []=>by simp only[Az,bK,uV];exact cg.of_eq (by rw[xk,jj])
 | i::l=>by
   simp only[cN,bK,dE]
   refine(ip.mul (Nz l)).trans (cg.of_eq ?_)
   rw[jE]
   have:x*i*(x^l.length*bK l)=x^l.length*x*(i*bK l):=by
    rw[iH (x^l.length) x,dN,dN]
    congr 1
    rw[<-dN,<-dN,iH i]
   exact this
section
variable {P:Int}
theorem B5(hp:cV P=false)(p1:3<=P)(p2:P<=9973){a:Int}(h:a%P≠0):∃b:Int,cg P (b*a) 1:=by
 obtain⟨b,_,_,_,e⟩:=(r_ (n:=a) hp p1 p2).2 h
 exact⟨b,by unfold cg;rw[e,ke (by lia) (by lia)]⟩
theorem NA(hp:cV P=false)(p1:3<=P)(p2:P<=9973):∀l:List Int,(∀a∈l,a%P≠0)->∃b:Int,cg P (b*bK l) 1
 | [],_=>⟨1,cg.of_eq (by simp[bK])⟩
 | a::l,h=>by
   obtain⟨b,hb⟩:=B5 hp p1 p2 (h a bV)
   obtain⟨c,hc⟩:=NA hp p1 p2 l λx hx=>h x (bY _ hx)
   refine⟨b*c,(cg.of_eq ?_).trans ((hb.mul hc).trans (cg.of_eq (by simp)))⟩
   simp only[bK]
   rw[dN,dN]
   congr 1
   rw[<-dN,<-dN,iH c]
theorem XZ(hp:cV P=false)(p1:3<=P)(p2:P<=9973){x:Int}(hx:x%P≠0):cg P (x^(P-1).toNat) 1:=by
 obtain⟨n,en⟩:∃n:Nat,P-1=(n:Int):=⟨(P-1).toNat,by lia⟩
 have ln:(P-1).toNat=n:=by lia
 let l:List Int:=(bL n).map λi:Nat=>(i:Int)+1
 have ll:l.length=n:=by simp[l]
 have ml:∀y:Int,y∈l↔1<=y/\y<P:=λy=>by
  simp only[l,uY,Sm]
  constructor
  ·rintro⟨i,hi,rfl⟩;lia
  ·rintro⟨h1,h2⟩;exact⟨(y-1).toNat,by lia,by lia⟩
 have nl:l.Nodup:=by
  refine List.pairwise_map.mpr ((List.nodup_range (n:=n)).imp λ{a b} q z=>q (by lia))
 have nz:∀a∈l,a%P≠0:=λa ha=>by
  obtain⟨h1,h2⟩:=(ml a).mp ha
  rw[ke (by lia) h2];lia
 obtain⟨xi,X0⟩:=B5 hp p1 p2 hx
 have back:∀i:Int,cg P (xi*(x*i)) i:=λi=>by
  rw[<-dN]
  have:=X0.mul (cg.refl (a:=i))
  rw[jj] at this;exact this
 have nm:(l.map λi=>(x*i)%P).Nodup:=by
  refine List.pairwise_map.mpr (nl.imp_of_mem λ{a b} ha hb q z=>q ?_)
  obtain⟨a1,a2⟩:=(ml a).mp ha
  obtain⟨b1,b2⟩:=(ml b).mp hb
  have h1:cg P (x*a) (x*b):=z
  have h2:=((back a).symm.trans ((cg.refl (a:=xi)).mul h1)).trans (back b)
  unfold cg at h2
  rw[ke (by lia) a2,ke (by lia) b2] at h2
  exact h2
 have sub:∀y∈l.map (λi=>(x*i)%P),y∈l:=λy hy=>by
  obtain⟨i,hi,rfl⟩:=List.mem_map.mp hy
  rw[ml]
  have h1:=Si (x*i) (show P≠0 by lia)
  have h2:=Sj (x*i) (show 0<P by lia)
  refine⟨?_,h2⟩
  have:(x*i)%P≠0:=λz=>nz i hi (by
   have q:cg P (x*i) 0:=by unfold cg;rw[z,pR]
   have:=(back i).symm.trans ((cg.refl (a:=xi)).mul q)
   rw[gq] at this
   unfold cg at this;rw[this,pR])
  lia
 have pm:=XY (Ny nm sub (Nat.le_of_eq (bD (as:=l) _).symm))
 have h1:=Nz (P:=P) (x:=x) l
 rw[pm,ll] at h1
 obtain⟨b,hb⟩:=NA hp p1 p2 l nz
 rw[ln]
 have h2:=(cg.refl (P:=P) (a:=b)).mul h1
 have e:b*(x^n*bK l)=x^n*(b*bK l):=by rw[<-dN,iH b,dN]
 rw[e] at h2
 have h3:=(cg.refl (P:=P) (a:=x^n)).mul hb
 rw[j8] at h3
 exact h3.symm.trans (h2.symm.trans hb)
end
noncomputable section
def NB:G->R Fl :=
 (bu (aI ik (ai (gL (z6d (gZip (aI BC (ai (gV 0) (ai (gV 1) (ai (gV 2) aB)))) (gV 2)) (y0w (aL (aI (fT lq) (ai (gV 2) (ai (au ig (gV 0) (gV 1)) aB))))))) aB)))
def FO:List D->R D:=b6 3 3 NB
def NC:G->R Fl :=
 (aG (aV 3 (aL (aI (lx 12) (ai (gV 0) (ai (gV 1) (ai (gV 2) aB))))))
 (qc (gU vT (ai (gV 0) (ai (gL (dM (jN (au cz (gV 1) (gC (.int 1)))) (fK (aL (aI (fT FO) (ai (gV 1) (ai (gV 4) (ai (aI (fT ym) (ai (au cz (gV 2) (gC (.int 1))) (ai (gV 0) aB))) aB)))))))) aB)))))
def B6:List D->R (List D):=jq 3 4 NC
def ND:G->R Fl :=
 (bu (au cz (aI ik (ai (gV 0) aB)) (dW (ai (gC (.int 1)) aB))))
def B7:List D->R D:=b6 1 1 ND
def NF:G->R Fl :=
 (bu (aI vV (ai (gV 0) (ai (gL (dM (kY (gV 1)) (fK (aL (aI (fT B7) (ai (gV 0) aB)))))) (ai (aI B7 (ai (gV 2) aB)) aB)))))
def nX:List D->R D:=b6 3 3 NF
def FP:G->R Fl :=
 (aG (aV 4 (aL (aI (lx 12) (ai (gV 0) (ai (gV 1) (ai (gV 2) aB))))))
 (aG (c6 5 (gS (ai (gV 3) aB)))
 (aG (aV 6 (aL (aI kz (ai (gV 0) (ai (gV 4) (ai (gV 3) aB))))))
 (aG (aV 7 (aL (aI nX (ai (gV 0) (ai (gV 5) (ai (gV 6) aB))))))
 (aG (df (gT (au dJ (au aX (gV 7) (gC (.int 0))) (gC (.str "shut")))) (aG (gd 5 (aL (gV 6)))
 (aG (aV 6 (aL (aI kz (ai (gV 0) (ai (gV 4) (ai (gV 6) aB))))))
 (aV 7 (aL (aI nX (ai (gV 0) (ai (gV 5) (ai (gV 6) aB)))))))) 10)
 (bu (dW (ai (gV 5) (ai (au aX (gV 7) (gC (.int 1))) aB)))))))))
def B8:List D->R D:=b6 4 8 FP
def NG:G->R Fl :=
 (aG (aV 5 (au aX (z8a B8 (ai (dF 0) (ai (dF 1) (ai (dF 2) (ai (dF 3) aB))))) (gC (.int 0))))
 (bu (aI nX (ai (gV 0) (ai (gV 5) (ai (gV 4) aB))))))
def vY:List D->R D:=b6 5 6 NG
end
def lD(P:Int)(m:Nat)(t:List (List Int))(p:Nat):List Int:=((e9 P t (cP (m+1) p)).zip (cP (m+1) p)).map λx=>(x.1-x.2)%P
def iQ(P:Int)(m:Nat)(t:List (List Int)):List (List Int):=(bL (m+1)).map (lD P m t)
theorem ua(P:Int)(m:Nat)(t:List (List Int)):(iQ P m t).length=m+1:=by unfold iQ;simp
theorem NH{P:Int}{m:Nat}{t:List (List Int)}(ht:t.length=m)(p:Nat):(lD P m t p).length=m+1:=by
 unfold lD
 rw[bD,AM,vM,qf,ht];lia
theorem NI{P:Int}{m:Nat}{t:List (List Int)}(ht:t.length=m):∀r∈iQ P m t,r.length=m+1:=λr hr=>by
 obtain⟨p,_,rfl⟩:=List.mem_map.mp hr
 exact NH ht p
theorem NJ{P:Int}{m k:Nat}{t:List (List Int)}(hk:k<m+1):a_ (iQ P m t) k=lD P m t k:=by
 unfold a_ iQ
 rw[cf,l8 hk];rfl
theorem B9{r:List Int}{i:Nat}(h:r.length<=i):vec r i=0:=by unfold vec;rw[eY h];rfl
theorem vZ{n k i:Nat}(h:i<n):vec (cP n k) i=if i=k then 1 else 0:=tP h
theorem NK{P:Int}{m i:Nat}{t:List (List Int)}{f:List Int}(ht:t.length=m)(hi:i<=m):vec (e9 P t f) i=(aF (λx=>vec f x*vec (a_ t x) i) m+(if i=m then vec f m else 0))%P:=by
 have:=EX (P:=P) (t:=t) (f:=f) (k:=i) (by lia)
 rw[ht] at this
 exact this
theorem X1{P:Int}{m i k:Nat}{t:List (List Int)}(ht:t.length=m)(hi:i<=m)(hk:k<=m):cg P (vec (lD P m t k) i) ((if k<m then vec (a_ t k) i else (if i=m then 1 else 0))-(if i=k then 1 else 0)):=by
 have e1:vec (lD P m t k) i=(vec (e9 P t (cP (m+1) k)) i-vec (cP (m+1) k) i)%P:=by
  unfold lD vec
  have la:i<(e9 P t (cP (m+1) k)).length:=by rw[vM];lia
  have lu:i<(cP (m+1) k).length:=by rw[qf];lia
  rw[cf,cD (by rw[AM];lia),a6j,cD la,cD lu];rfl
 rw[e1,vZ (by lia)]
 refine ip.trans (cg.sub ?_ cg.refl)
 rw[NK ht hi]
 refine ip.trans (cg.of_eq ?_)
 by_cases q:k<m
 ·rw[if_pos q,nN q (λx hx aU=>by rw[vZ (by lia),if_neg aU,gP]),vZ (show k<m+1 by lia),if_pos rfl,jj,vZ (show m<m+1 by lia),if_neg (show ¬m=k by lia)]
  split<;>lia
 ·have:k=m:=by lia
  subst this
  rw[if_neg q,mF (λx hx=>by rw[vZ (by lia),if_neg (by lia),gP]),vZ (by lia),if_pos rfl,iI]
theorem X2{P:Int}{m i:Nat}{t:List (List Int)}(ht:t.length=m)(hi:i<=m)(c:Nat->Int):cg P (bG (iQ P m t) c i) (aF (λx=>c x*vec (a_ t x) i) m+(if i=m then c m else 0)-c i):=by
 unfold bG
 rw[ua]
 have h1:cg P (aF (λk=>c k*vec (a_ (iQ P m t) k) i) (m+1)) (aF (λk=>c k*((if k<m then vec (a_ t k) i else (if i=m then 1 else 0))-(if i=k then 1 else 0))) (m+1)):=cg.aF λk hk=>by
  rw[NJ hk]
  exact cg.refl.mul (X1 ht hi (by lia))
 refine h1.trans (cg.of_eq ?_)
 have h2:∀n,aF (λk=>c k*((if k<m then vec (a_ t k) i else (if i=m then 1 else 0))-(if i=k then 1 else 0))) n=aF (λk=>c k*(if k<m then vec (a_ t k) i else (if i=m then 1 else 0))) n+(-1)*aF (λk=>c k*(if i=k then 1 else 0)) n:=λn=>by
  rw[<-mE,<-pj]
  exact dc λk _=>by grind
 rw[h2]
 have h3:aF (λk=>c k*(if i=k then 1 else 0)) (m+1)=c i:=by
  rw[nN (show i<m+1 by lia) (λk _ q=>by rw[if_neg (eC q),gq]),if_pos rfl,j8]
 rw[h3,dB,if_neg (dS m)]
 have h4:aF (λk=>c k*(if k<m then vec (a_ t k) i else (if i=m then 1 else 0))) m=aF (λx=>c x*vec (a_ t x) i) m:=dc λk hk=>by rw[if_pos hk]
 rw[h4]
 split
 ·grind
 ·grind
theorem X3{P:Int}{m:Nat}{t:List (List Int)}{f:List Int}(p0:0<P)(ht:t.length=m)(hf:pv P m f):(∀i,cg P (bG (iQ P m t) (vec f) i) 0)↔e9 P t f=f:=by
 have e:∀i,i<=m->cg P (bG (iQ P m t) (vec f) i) (vec (e9 P t f) i-vec f i):=λi hi=>by
  refine(X2 ht hi (vec f)).trans (cg.sub ?_ cg.refl)
  rw[NK ht hi]
  exact ip.symm
 constructor
 ·intro h
  refine Fi p0 (by rw[vM,ht]) hf.2 (Mo p0 t f) hf.1 λi=>?_
  by_cases hi:i<=m
  ·have:=((e i hi).symm.trans (h i)).add (cg.refl (P:=P) (a:=vec f i))
   rwa [a6o,iI] at this
  ·rw[B9 (by rw[vM,ht];lia),B9 (by rw[hf.2];lia)]
   exact cg.refl
 ·intro h i
  by_cases hi:i<=m
  ·refine(e i hi).trans ?_
   rw[h,Ju]
   exact cg.refl
  ·unfold bG
   rw[ua]
   refine cg.of_eq (mF λk hk=>?_)
   rw[NJ hk,B9 (r:=lD P m t k) (by rw[NH ht];lia),gq]
theorem X4{P:Int}{m:Nat}{t:List (List Int)}{f:List Int}(ht:t.length=m)(h:e9 P t f=f){s:List Int}(hs:s.length=m):cg P (cw f (cG P t s)) (cw f s):=by
 have:=Mp (P:=P) (t:=t) (f:=f) (s:=s) (by lia)
 rw[h] at this
 exact this.symm
theorem X5{P:Int}{m:Nat}{t T:List (List Int)}{f:List Int}(p0:0<P)(ht:t.length=m)(hf:pv P m f)(hT:yF P (iQ P m t) T):Span P T (vec f)↔e9 P t f=f:=by
 have qj:=hT.steps.row
 rw[ua] at qj
 rw[<-X3 p0 ht hf]
 constructor
 ·intro sp i
  have key:∀v,Span P T v->cg P (bG (iQ P m t) v i) 0:=λv sv=>by
   induction sv with
   | zero h=>exact(vU (d:=λ_=>0) (λk _=>h k) i).trans (cg.of_eq (mF λk _=>gP _))
   | @add u' v' c' r' hr hs he ih =>
     refine(vU (λk _=>he k) i).trans ?_
     rw[Fz,BX]
     have:=ih.add ((cg.refl (P:=P) (a:=c')).mul (hT.idle _ hr i))
     simpa using this
  exact key _ sp
 ·intro h
  refine(hT.all (vec f) h).fB λi=>?_
  by_cases q:i<(iQ P m t).length
  ·rw[if_pos q];exact cg.refl
  ·rw[if_neg q,B9 (by rw[ua] at q;rw[hf.2];lia)];exact cg.refl
end L3
namespace L3
open PySem
local macro_rules | `(tactic| walk_at "evs") => wkL " L3.z7u L3.z4j L3.s_on L3.z4s L3.z4t L3.z4u L3.z5g L3.z4h L3.z4v L3.z0n L3.z6e L3.y4v L3.y4u L3.y7e L3.Item.d L3.Item.ds_map L3.z8u L3.y5e L3.y5f L3.y1z L3.z7y L3.z6d L3.gZip L3.y4d L3.y0w L3.z8z L3.y8x L3.z8d L3.y7d L3.D.isNon L3.z8a"
theorem yJ{P:Int}{m p:Nat}{t:List (List Int)}(p1:3<=P)(p2:P<=9973)(hm:m<=3)(ht:b0 P m t):FO [.int P,aR t,ao (cP (m+1) p)] = .ok (ao (lD P m t p)):=by
 have hu:pv P m (cP (m+1) p):=⟨λx hx=>by
  unfold cP at hx
  obtain⟨i,_,rfl⟩:=List.mem_map.mp hx
  split<;>lia,qf _ _⟩
 have ea:=vN (P:=P) (n:=m) (f:=cP (m+1) p) (t:=t) (by lia) (by lia) hu ht (by lia)
 have la:(e9 P t (cP (m+1) p)).length=m+1:=by rw[vM,ht.1]
 have lu:=hu.2
 refine cH rfl ?_
 delta NB
 refine cv ?_
 unfold lD
 generalize e9 P t (cP (m+1) p)=a at ea la
 generalize cP (m+1) p=u at ea lu
 have hz:(iN (a.map D.int) (u.map D.int)).length<=100000:=by rw[Fv];lia
 have Nc:=ni (ko a) (ko u)
 simp only[dZ,WG] at ea ⊢
 walk_at "evs"
 simp only[ea]
 walk_at "evs"
 rw[Ft (h:=λx y=>(x-y)%P)]
 ·walk_at "evs"
 ·intro x hx y hy
  walk_at "evs"
theorem yK{P:Int}{m:Nat}{its:List Item}(hD:cV P=false)(p1:3<=P)(p2:P<=9973)(m3:m<=3)(hd:Item.fM its<=3)(ho:Item.fA P m its):∃S,iq P (m+1+(iQ P m (Item.tabs P m its)).length) (dO (iQ P m (Item.tabs P m its))) S/\B6 [.int P,.int m,.tup (its.map Item.d)] = .ok ((pD (m+1) S).map ao):=by
 have hp:1<P:=by lia
 have T1:=r9 p1 p2 m3 12 its (by lia) ho
 have nY:=Item.tabs_ok hp its ho
 generalize Item.tabs P m its=t at *
 have aU:iQ P m t≠[]:=λz=>by have:=congrArg uR z;rw[ua] at this;simp at this
 obtain⟨S,hS,eS⟩:=si (P:=P) (w:=m+1) (rows:=iQ P m t) hD p1 p2 aU (NI nY.1) (by lia) (by rw[ua];lia)
 refine⟨S,hS,ph rfl ?_⟩
 delta NC
 refine b8 (d:=aR t) (by walk_at "evs";simp only[T1];walk_at "evs") (yg ?_)
 have nT:=iP (pD (m+1) S)
 walk_at "evs"
 try rw[show((m:Int)+1).toNat=m+1 by lia]
 rw[rT (h:=λp=>ao (lD P m t p))]
 ·have e:(bL (m+1)).map (λp=>ao (lD P m t p))=(iQ P m t).map ao:=by unfold iQ;rw[lZ];rfl
  rw[e]
  walk_at "evs"
  simp only[eS]
  try walk_at "evs"
 ·intro p ck
  have ec:=yJ (p:=p) p1 p2 m3 nY
  have eo:=tV (n:=m+1) (x:=p) (by lia)
  rw[show(((m+1:Nat):Int))=(m:Int)+1 by lia] at eo
  have nl:=z0n (lD P m t p)
  walk_at "evs"
  simp only[iI,eo]
  walk_at "evs"
  simp only[ec]
  walk_at "evs"
def cI(s:List Int):List Int:=s++[1]
theorem ub{s:List Int}{m:Nat}(h:s.length=m):(cI s).length=m+1:=by unfold cI;simp[h]
theorem lE{s:List Int}{m:Nat}(h:s.length=m)(i:Nat):vec (cI s) i=if i<m then vec s i else if i=m then 1 else 0:=by
 unfold cI vec
 by_cases q:i<m
 ·rw[if_pos q,Ay (by lia)]
 ·rw[if_neg q,Ax (by lia),h]
  by_cases q2:i=m
  ·rw[if_pos q2,q2,DI];rfl
  ·rw[if_neg q2,eY (by simp;lia)];rfl
def ax(P:Int)(m:Nat)(t:List (List Int))(s:List Int)(j:Nat):List Int:=cG P (bJ P m t j) s
theorem v8{P:Int}{m:Nat}{t:List (List Int)}{s:List Int}(hs:s.length=m)(so:bX P s):ax P m t s 0=s:=E2 hs so
theorem yL{P:Int}{m:Nat}{t:List (List Int)}{s:List Int}(hp:1<P)(ht:b0 P m t)(hs:s.length=m)(j:Nat):ax P m t s (j+1)=cG P t (ax P m t s j):=by
 unfold ax
 show cG P (d8 P (bJ P m t j) t) s=_
 rw[qg (iO hp ht j).1 hs]
theorem dP{P:Int}{m:Nat}{t:List (List Int)}{s:List Int}(hp:1<P)(ht:b0 P m t)(j:Nat):(ax P m t s j).length=m:=by unfold ax;rw[r6];exact(iO hp ht j).1
theorem qk{P:Int}{m:Nat}{t:List (List Int)}{s:List Int}(hp:0<P)(j:Nat):bX P (ax P m t s j):=Mn hp _ _
def ir(t:List (List Int))(m:Nat)(v:Nat->Int)(i:Nat):Int:=if i<m then aF (λk=>vec (a_ t i) k*v k) (m+1) else if i=m then v m else 0
theorem B_{P:Int}{m:Nat}{t:List (List Int)}{s:List Int}(ht:b0 P m t)(hs:s.length=m)(i:Nat):cg P (vec (cI (cG P t s)) i) (ir t m (vec (cI s)) i):=by
 have lt:(cG P t s).length=m:=by rw[r6];exact ht.1
 rw[lE lt]
 unfold ir
 by_cases q:i<m
 ·rw[if_pos q,if_pos q]
  have e:vec (cG P t s) i=cw (a_ t i) s%P:=by
   unfold vec cG a_
   rw[cf,cD (by rw[ht.1];exact q)];rfl
  rw[e]
  refine ip.trans (cg.of_eq ?_)
  have e2:cw (a_ t i) s=aF (λk=>vec (a_ t i) k*vec s k) m+vec (a_ t i) m:=by rw[<-hs];rfl
  rw[e2,dB,lE hs m,if_neg (dS m),if_pos rfl,j8]
  congr 1
  exact dc λk hk=>by rw[lE hs k,if_pos hk]
 ·rw[if_neg q,if_neg q]
  by_cases q2:i=m
  ·rw[if_pos q2,if_pos q2,lE hs m,if_neg (dS m),if_pos rfl]
   exact cg.refl
  ·rw[if_neg q2,if_neg q2];exact cg.refl
theorem FQ{P:Int}{t:List (List Int)}{m:Nat}{u v:Nat->Int}(h:∀i,cg P (u i) (v i))(i:Nat):cg P (ir t m u i) (ir t m v i):=by
 unfold ir
 split
 ·exact cg.aF λk _=>cg.refl.mul (h k)
 ·split
  ·exact h m
  ·exact cg.refl
theorem NL(t:List (List Int))(m:Nat)(u v:Nat->Int)(c:Int)(i:Nat):ir t m (λk=>u k+c*v k) i=ir t m u i+c*ir t m v i:=by
 unfold ir
 split
 ·rw[<-mE,<-pj]
  exact dc λk _=>by grind
 ·split
  ·rfl
  ·lia
theorem NM{P:Int}(t:List (List Int))(m:Nat){v:Nat->Int}(h:∀i,cg P (v i) 0)(i:Nat):cg P (ir t m v i) 0:=by
 refine(FQ (v:=λ_=>0) h i).trans (cg.of_eq ?_)
 unfold ir
 split
 ·exact mF λk _=>gq _
 ·split<;>rfl
theorem X6{P:Int}{t rows:List (List Int)}{m:Nat}{v:Nat->Int}(h:Span P rows v)(hr:∀r∈rows,Span P rows (ir t m (vec r))):Span P rows (ir t m v):=by
 induction h with
 | zero z=>exact .zero λi=>NM t m z i
 | @add u v c r hm hu he ih =>
   refine Span.fB (ih.plus ((hr r hm).times c)) λi=>?_
   refine(FQ he i).trans (cg.of_eq ?_)
   rw[NL]
def c8(P:Int)(m:Nat)(t:List (List Int))(s:List Int)(n:Nat):List (List Int):=(bL n).map λj=>cI (ax P m t s j)
theorem mK(P:Int)(m:Nat)(t:List (List Int))(s:List Int)(n:Nat):(c8 P m t s n).length=n:=by unfold c8;simp
theorem yM{P:Int}{m:Nat}{t:List (List Int)}{s:List Int}(hp:1<P)(ht:b0 P m t)(n:Nat):∀r∈c8 P m t s n,r.length=m+1:=λr hr=>by
 obtain⟨j,_,rfl⟩:=List.mem_map.mp hr
 exact ub (dP hp ht j)
theorem X7{P:Int}{m n k:Nat}{t:List (List Int)}{s:List Int}(hk:k<n):a_ (c8 P m t s n) k=cI (ax P m t s k):=by
 unfold a_ c8
 rw[cf,l8 hk];rfl
theorem NN{P:Int}{m n:Nat}{t:List (List Int)}{s:List Int}(hp:1<P)(ht:b0 P m t)(hs:s.length=m)(n1:1<=n)(h:Span P (c8 P m t s n) (vec (cI (ax P m t s n)))):∀j,Span P (c8 P m t s n) (vec (cI (ax P m t s j)))
 | 0=>Span.nR (List.mem_map.mpr ⟨0,List.mem_range.mpr (by lia),rfl⟩)
 | j+1=>by
   have ih:=NN hp ht hs n1 h j
   have hr:∀r∈c8 P m t s n,Span P (c8 P m t s n) (ir t m (vec r)):=λr hr=>by
    obtain⟨k,hk,rfl⟩:=List.mem_map.mp hr
    have cQ:=List.mem_range.mp hk
    have e:Span P (c8 P m t s n) (vec (cI (ax P m t s (k+1)))):=by
     by_cases q:k+1<n
     ·exact Span.nR (List.mem_map.mpr ⟨k+1,List.mem_range.mpr q,rfl⟩)
     ·rw[show k+1=n by lia];exact h
    rw[yL hp ht hs] at e
    exact e.fB λi=>(B_ ht (dP hp ht k) i).symm
   rw[yL hp ht hs]
   exact(X6 ih hr).fB λi=>B_ ht (dP hp ht j) i
def jS(P:Int)(rows:List (List Int)):Prop:=∀c:Nat->Int,(∀i,cg P (bG rows c i) 0)->∀k,k<rows.length->cg P (c k) 0
theorem NO(rows:List (List Int))(g:List Int)(c:Nat->Int)(i:Nat):bG (rows++[g]) c i=bG rows c i+c rows.length*vec g i:=by
 unfold bG
 rw[hU,w7,dB]
 congr 1
 ·refine dc λk hk=>?_
  unfold a_
  rw[Ay hk]
 ·unfold a_
  rw[Ax (bA _),DI];rfl
theorem NP{P:Int}(rows:List (List Int))(c:Nat->Int):Span P rows (bG rows c):=BY c rows.length (bA _)
theorem jS.nil(P:Int):jS P []:=λc _ k hk=>by simp at hk
theorem jS.snoc{P:Int}{rows:List (List Int)}{g:List Int}(hD:cV P=false)(p1:3<=P)(p2:P<=9973)(h:jS P rows)(hg:¬Span P rows (vec g)):jS P (rows++[g]):=λc hc k hk=>by
 have last:cg P (c rows.length) 0:=by
  by_cases q:cg P (c rows.length) 0
  ·exact q
  ·exfalso
   obtain⟨b,hb⟩:=Nl hD p1 p2 q
   refine hg (((NP rows c).times (-b)).fB λi=>?_)
   have h1:=hc i
   rw[NO] at h1
   have h2:=(cg.refl (P:=P) (a:=b)).mul h1
   rw[gq] at h2
   have h3:=hb.mul (cg.refl (P:=P) (a:=vec g i))
   rw[jj] at h3
   have e:b*(bG rows c i+c rows.length*vec g i)=b*bG rows c i+b*c rows.length*vec g i:=by grind
   rw[e] at h2
   have h4:=((h3.symm).trans (cg.of_eq (by grind:b*c rows.length*vec g i=(b*bG rows c i+b*c rows.length*vec g i) + -b*bG rows c i))).trans (h2.add cg.refl)
   exact h4.trans (cg.of_eq (iI _))
 rw[hU,w7] at hk
 by_cases q:k<rows.length
 ·refine h c (λi=>?_) k q
  have h1:=hc i
  rw[NO] at h1
  have h2:=last.mul (cg.refl (P:=P) (a:=vec g i))
  rw[gP] at h2
  have:=h1.sub h2
  rw[Int.add_sub_cancel,DQ] at this
  exact this
 ·rw[show k=rows.length by lia];exact last
theorem jS.idle{P:Int}{rows T:List (List Int)}(hp:1<P)(h:jS P rows)(hT:yF P rows T):T=[]:=by
 cases T with
 | nil=>rfl
 | cons c r =>
   exfalso
   obtain⟨_,_,ll,l1⟩:=hT.steps.row c bV
   have:=h (vec c) (hT.idle c bV) _ ll
   rw[l1] at this
   exact vS hp this
theorem jS.count{P:Int}{w:Nat}{rows R0:List (List Int)}(hD:cV P=false)(p1:3<=P)(p2:P<=9973)(aU:rows≠[])(hr:∀r∈rows,r.length=w)(hw:w<=50)(hn:rows.length<=50)(h:jS P rows)(hR:iq P w rows R0):R0.length=rows.length:=by
 obtain⟨S,hS,_⟩:=si (P:=P) (w:=w) (rows:=rows) hD p1 p2 aU hr hw hn
 have e:=h.idle (by lia) (BZ hr hS)
 have cnt:=XI hD p1 p2 hr hS hR
 rw[e,uV,gO] at cnt
 exact cnt
theorem NQ{m:Nat}{s f:List Int}(hs:s.length=m)(hf:f.length=m+1):eh (cI s) f=cw f s:=by
 rw[vW (by rw[ub hs,hf]),ub hs,dB,lE hs m,if_neg (dS m),if_pos rfl,jj]
 show _=aF (λi=>vec f i*vec s i) s.length+vec f s.length
 rw[hs]
 congr 1
 exact dc λk hk=>by rw[lE hs k,if_pos hk,iH]
theorem v9{s:List Int}(hs:s.length<=100):B7 [ao s] = .ok (ao (cI s)):=by
 refine cH rfl ?_
 delta ND
 refine cv ?_
 unfold cI
 simp only[dZ,hV,cN,Az]
 walk_at "evs"
theorem uc{P:Int}{m n:Nat}{t:List (List Int)}{s g:List Int}{d:D}(p1:3<=P)(p2:P<=9973)(m3:m<=3)(ht:b0 P m t)(n8:n<=8)(hg:g.length=m)(h:vV [.int P,.lst ((c8 P m t s n).map ao),ao (cI g)] = .ok d):nX [.int P,.lst (((bL n).map (ax P m t s)).map ao),ao g] = .ok d:=by
 have h1:1<P:=by lia
 have ns:=iP ((bL n).map (ax P m t s))
 have na:=iP (c8 P m t s n)
 have eg:=v9 (s:=g) (by lia)
 refine cH rfl ?_
 delta NF
 refine cv ?_
 have ln:((bL n).map (ax P m t s)).length<=100:=by simp;lia
 have la:=mK P m t s n
 walk_at "evs"
 rw[mz (k:=ao) (h:=λu=>ao (cI u)) (l:=(bL n).map (ax P m t s))]
 ·rw[show((bL n).map (ax P m t s)).map (λu=>ao (cI u))=(c8 P m t s n).map ao by unfold c8;rw[lZ,lZ];rfl]
  walk_at "evs"
  simp only[eg]
  walk_at "evs"
  simp only[h]
 ·intro u hu
  obtain⟨j,hj,rfl⟩:=List.mem_map.mp hu
  have:=v9 (s:=ax P m t s j) (by rw[dP h1 ht];lia)
  have nl:=z0n (cI (ax P m t s j))
  walk_at "evs"
  simp only[this]
  walk_at "evs"
theorem X8(P:Int)(m:Nat)(t:List (List Int))(s:List Int)(n:Nat):c8 P m t s (n+1)=c8 P m t s n++[cI (ax P m t s n)]:=by
 unfold c8
 rw[uU,hV];rfl
theorem X9{P:Int}{m n:Nat}{t:List (List Int)}{s:List Int}(hD:cV P=false)(p1:3<=P)(p2:P<=9973)(m3:m<=3)(ht:b0 P m t)(n1:1<=n)(n8:n<=8)(h:jS P (c8 P m t s n)):n<=m+1:=by
 have aU:c8 P m t s n≠[]:=λz=>by have:=congrArg uR z;rw[mK] at this;simp at this;lia
 have hw:=yM (s:=s) (show 1<P by lia) ht n
 obtain⟨R0,_,hR⟩:=t6 (P:=P) (w:=m+1) (rows:=c8 P m t s n) hD p1 p2 aU hw (by lia) (by rw[mK];lia)
 have:=h.count hD p1 p2 aU hw (by lia) (by rw[mK];lia) hR
 rw[mK] at this
 have:=Ni hR.steps
 lia
theorem X_:((bt "sum")==(bt "shut"))=false:=by decide +kernel
theorem Yb:((bt "shut")==(bt "shut"))=true:=by decide +kernel
theorem NR(n:Nat):D.lay n (.str (bt "sum"))=true:=by rw[rS];decide +kernel
theorem FR(n:Nat):D.lay n (.str (bt "shut"))=true:=by rw[rS];decide +kernel
structure Ca (P:Int) (m:Nat) (t:List (List Int)) (s:List Int) (n:Nat) (ws:List Int):Prop where
 n1:1<=n
 n4:n<=m+1
 ind:jS P (c8 P m t s n)
 len:ws.length=n
 on:bX P ws
 sum:∀i,cg P (vec (cI (ax P m t s n)) i) (bG (c8 P m t s n) (vec ws) i)
theorem yN{P:Int}{m:Nat}{its:List Item}{s:List Int}(hD:cV P=false)(p1:3<=P)(p2:P<=9973)(m3:m<=3)(hd:Item.fM its<=3)(ho:Item.fA P m its)(hs:s.length=m)(so:bX P s):∃n ws,Ca P m (Item.tabs P m its) s n ws/\B8 [.int P,.int m,.tup (its.map Item.d),ao s] = .ok (.tup [.lst (((bL n).map (ax P m (Item.tabs P m its) s)).map ao),ao ws]):=by
 have hp:1<P:=by lia
 have p0:0<P:=by lia
 have T1:=r9 p1 p2 m3 12 its (by lia) ho
 have ht:=Item.tabs_ok hp its ho
 generalize Item.tabs P m its=t at *
 have pE:∀j,(ax P m t s j).length=m:=λj=>dP hp ht j
 have tw:∀n,1<=n->n<=8->(∃ws:List Int,nX [.int P,.lst (((bL n).map (ax P m t s)).map ao),ao (ax P m t s n)] = .ok (.tup [.str "sum",ao ws])/\ws.length=n/\bX P ws/\∀i,cg P (vec (cI (ax P m t s n)) i) (bG (c8 P m t s n) (vec ws) i))∨∃f:List Int,nX [.int P,.lst (((bL n).map (ax P m t s)).map ao),ao (ax P m t s n)] = .ok (.tup [.str "shut",ao f])/\¬Span P (c8 P m t s n) (vec (cI (ax P m t s n))):=λn n1 n8=>by
  have aU:c8 P m t s n≠[]:=λz=>by have:=congrArg uR z;rw[mK] at this;simp at this;lia
  rcases vX (P:=P) (w:=m+1) (rows:=c8 P m t s n) (g:=cI (ax P m t s n)) hD p1 p2 aU (yM hp ht n) (ub (pE n)) (by lia) (by lia) (by rw[mK];lia) with ⟨ws,e,h1,h2,h3⟩ | ⟨f,e,h1,h2,h3,h4,h5⟩
  ·rw[mK] at h1
   exact .inl ⟨ws,uc p1 p2 m3 ht n8 (pE n) e,h1,h2,h3⟩
  ·exact .inr ⟨f,uc p1 p2 m3 ht n8 (pE n) e,h5⟩
 have turn:∀j,kz [.int P,aR t,ao (ax P m t s j)] = .ok (ao (ax P m t s (j+1))):=λj=>by
  rw[yL hp ht hs]
  exact pz (P:=P) (ts:=t) (ss:=ax P m t s j) p0 (by lia) (by rw[pE];exact ht) (by rw[pE];lia)
 have Cb:∀(tg:String) (x:List Int),(D.tup [.str (bt tg),ao x]).cK=true:=λtg x=>by rw[Bp];simp only[D.bQ,D.cK,z0n];rfl
 suffices h:∃n ws,Ca P m t s n ws/\FP [.ro (.int P),.ro (.int m),.ro (.tup (its.map Item.d)),.ro (ao s),.no,.no,.no,.no] = .ok (.rt (.tup [.lst (((bL n).map (ax P m t s)).map ao),ao ws])) by
  obtain⟨n,ws,h1,h2⟩:=h
  exact⟨n,ws,h1,cH rfl h2⟩
 have loop:=nK (gc:=gT (au dJ (au aX (gV 7) (gC (.int 0))) (gC (.str "shut")))) (gb:=(aG (gd 5 (aL (gV 6)))
 (aG (aV 6 (aL (aI kz (ai (gV 0) (ai (gV 4) (ai (gV 6) aB))))))
 (aV 7 (aL (aI nX (ai (gV 0) (ai (gV 5) (ai (gV 6) aB)))))))))
  (λμ Γ=>∃(n:Nat) (d:D),1<=n/\n<=m+1/\μ=m+1-n/\jS P (c8 P m t s n)/\nX [.int P,.lst (((bL n).map (ax P m t s)).map ao),ao (ax P m t s n)] = .ok d/\Γ=[.ro (.int P),.ro (.int m),.ro (.tup (its.map Item.d)),.ro (ao s),.ro (aR t),.own (((bL n).map (ax P m t s)).map ao),.ro (ao (ax P m t s n)),.ro d])
  (λr=>∃(n:Nat) (ws:List Int),Ca P m t s n ws/\r = .ok (.nx [.ro (.int P),.ro (.int m),.ro (.tup (its.map Item.d)),.ro (ao s),.ro (aR t),.own (((bL n).map (ax P m t s)).map ao),.ro (ao (ax P m t s n)),.ro (.tup [.str "sum",ao ws])])) (by
    rintro μ Γ ⟨n,d,n1,n4,eμ,ind,et,rfl⟩
    rcases tw n n1 (by lia) with ⟨ws,e,h1,h2,h3⟩ | ⟨f,e,h5⟩
    ·rw[e] at et
     cases et
     refine .inl ⟨?_,n,ws,⟨n1,n4,ind,h1,h2,h3⟩,rfl⟩
     have l1:=NR 40
     have l2:=FR 40
     walk_at "evs"
     simp only[z8u,X_,e8 (ni l1 l2)]
     rfl
    ·rw[e] at et
     cases et
     have NS:jS P (c8 P m t s (n+1)):=by rw[X8];exact ind.snoc hD p1 p2 h5
     have n5:=X9 hD p1 p2 m3 ht (by lia) (by lia) NS
     have tn:=turn n
     obtain⟨d',Cc,nd'⟩:∃d',nX [.int P,.lst (((bL (n+1)).map (ax P m t s)).map ao),ao (ax P m t s (n+1))] = .ok d'/\d'.cK=true:=by
      rcases tw (n+1) (by lia) (by lia) with ⟨ws,e,_⟩ | ⟨f,e,_⟩
      ·exact⟨_,e,Cb _ _⟩
      ·exact⟨_,e,Cb _ _⟩
     refine .inr ⟨?_,.inl ⟨_,m+1-(n+1),by lia,.inl ?_,n+1,d',by lia,by lia,rfl,NS,Cc,rfl⟩⟩
     ·have l1:=FR 40
      walk_at "evs"
      try simp only[z8u,Yb,e8 (ni l1 l1)]
      try rfl
     ·have nl:=z0n (ax P m t s n)
      have nl2:=z0n (ax P m t s (n+1))
      have lo:(((bL n).map (ax P m t s)).map ao).length<=100000:=by simp;lia
      have ea:((bL n).map (ax P m t s)).map ao++[ao (ax P m t s n)]=((bL (n+1)).map (ax P m t s)).map ao:=by rw[uU,hV,hV];rfl
      refine eG (Γ':=[.ro (.int P),.ro (.int m),.ro (.tup (its.map Item.d)),.ro (ao s),.ro (aR t),.own (((bL (n+1)).map (ax P m t s)).map ao),.ro (ao (ax P m t s n)),.ro (.tup [.str "shut",ao f])]) ((tL (d:=ao (ax P m t s n)) rfl (by walk_at "evs") lo).trans (by rw[ea];rfl)) (b8 (d:=ao (ax P m t s (n+1))) ?_ ((gW (d:=d') ?_).trans rfl))
      ·walk_at "evs"
       simp only[tn]
       walk_at "evs"
      ·walk_at "evs"
       simp only[Cc]
       walk_at "evs")
 have e0:=v8 (t:=t) hs so
 have nls:=z0n s
 have ud:D.bQ [ao s]=true:=tN [s]
 have dr:[ao s]=((bL 1).map (ax P m t s)).map ao:=by
  show _=[ao (ax P m t s 0)]
  rw[e0]
 have t0:=turn 0
 rw[e0] at t0
 have nl1:=z0n (ax P m t s 1)
 have Yc:jS P (c8 P m t s 1):=by
  have:c8 P m t s 1=[]++[cI (ax P m t s 0)]:=rfl
  rw[this]
  refine(jS.nil P).snoc hD p1 p2 λz=>?_
  have h1:=Span.Xg (j:=m) (λr hr=>by simp at hr) z
  rw[lE (pE 0),if_neg (dS m),if_pos rfl] at h1
  exact vS hp h1
 obtain⟨d1,NT,nd1⟩:∃d',nX [.int P,.lst (((bL 1).map (ax P m t s)).map ao),ao (ax P m t s 1)] = .ok d'/\d'.cK=true:=by
  rcases tw 1 (by lia) (by lia) with ⟨ws,e,_⟩ | ⟨f,e,_⟩
  ·exact⟨_,e,Cb _ _⟩
  ·exact⟨_,e,Cb _ _⟩
 obtain⟨n,ws,H,el⟩:=loop 10 (m+1-1) _ (by lia) ⟨1,d1,by lia,by lia,rfl,Yc,NT,rfl⟩
 refine⟨n,ws,H,?_⟩
 delta FP
 refine b8 (d:=aR t) (by walk_at "evs";simp only[T1];walk_at "evs") ?_
 refine fy (ds:=((bL 1).map (ax P m t s)).map ao) ?_ ?_
 ·rw[<-dr]
  walk_at "evs"
 refine b8 (d:=ao (ax P m t s 1)) ?_ ?_
 ·walk_at "evs"
  simp only[t0]
  walk_at "evs"
 refine b8 (d:=d1) ?_ ?_
 ·walk_at "evs"
  simp only[NT]
  walk_at "evs"
 refine eG el ?_
 refine cv ?_
 walk_at "evs"
theorem NU:∀l:List Int,l.sum=aF (vec l) l.length
 | []=>rfl
 | a::l=>by
   rw[nc,NU l,dE,B0]
   rfl
theorem Yd{P:Int}{m n:Nat}{t:List (List Int)}{s ws:List Int}(hp:1<P)(ht:b0 P m t)(hw:ws.length=n):bG (c8 P m t s n) (vec ws) m=ws.sum:=by
 rw[NU,hw]
 unfold bG
 rw[mK]
 refine dc λk hk=>?_
 rw[X7 hk,lE (dP hp ht k),if_neg (dS m),if_pos rfl,j8]
theorem FT{P a b:Int}(h:cg P a b)(h0:0<=b)(hb:b<P):a%P=b:=by
 rw[show a%P=b%P from h,ke h0 hb]
end L3
namespace L3
open PySem
local macro_rules | `(tactic| walk_at "evs") => wkL " L3.z7u L3.z4j L3.s_on L3.z4s L3.z4t L3.z4u L3.z5g L3.z4h L3.z4v L3.z0n L3.z6e L3.y4v L3.y4u L3.y7e L3.Item.d L3.Item.ds_map L3.z8u L3.y5e L3.y5f L3.y1z L3.z7y L3.z6d L3.gZip L3.y4d L3.y0w L3.z8z L3.y8x L3.z8d L3.y7d L3.D.isNon L3.z8a L3.y9d"
theorem yO{P:Int}{m n:Nat}{its:List Item}{s g ws:List Int}(hD:cV P=false)(p1:3<=P)(p2:P<=9973)(m3:m<=3)(ho:Item.fA P m its)(hg:g.length=m)(H:Ca P m (Item.tabs P m its) s n ws)(eH:B8 [.int P,.int m,.tup (its.map Item.d),ao s] = .ok (.tup [.lst (((bL n).map (ax P m (Item.tabs P m its) s)).map ao),ao ws])) :
 (∃vs:List Int,vY [.int P,.int m,.tup (its.map Item.d),ao s,ao g] = .ok (.tup [.str "sum",ao vs])/\vs.length=n/\bX P vs/\∀i,cg P (vec (cI g) i) (bG (c8 P m (Item.tabs P m its) s n) (vec vs) i)) ∨
 ∃f:List Int,vY [.int P,.int m,.tup (its.map Item.d),ao s,ao g] = .ok (.tup [.str "shut",ao f])/\f.length=m+1/\bX P f/\(∀r∈c8 P m (Item.tabs P m its) s n,cg P (eh r f) 0)/\cg P (eh (cI g) f) 1/\¬Span P (c8 P m (Item.tabs P m its) s n) (vec (cI g)):=by
 have hp:1<P:=by lia
 have ht:=Item.tabs_ok hp its ho
 generalize Item.tabs P m its=t at *
 have n1:=H.n1
 have n4:=H.n4
 have aU:c8 P m t s n≠[]:=λz=>by have:=congrArg uR z;rw[mK] at this;simp at this;lia
 have pl:∀d,vV [.int P,.lst ((c8 P m t s n).map ao),ao (cI g)] = .ok d->vY [.int P,.int m,.tup (its.map Item.d),ao s,ao g] = .ok d:=λd e=>by
  have et:=uc (s:=s) p1 p2 m3 ht (show n<=8 by lia) hg e
  refine cH rfl ?_
  delta NG
  refine b8 (d:=.lst (((bL n).map (ax P m t s)).map ao)) ?_ (cv ?_)
  ·walk_at "evs"
   simp only[eH]
   walk_at "evs"
  ·walk_at "evs"
   simp only[et]
 rcases vX (P:=P) (w:=m+1) (rows:=c8 P m t s n) (g:=cI g) hD p1 p2 aU (yM hp ht n) (ub hg) (by lia) (by lia) (by rw[mK];lia) with ⟨vs,e,h1,h2,h3⟩ | ⟨f,e,h1,h2,h3,h4,h5⟩
 ·rw[mK] at h1
  exact .inl ⟨vs,pl _ e,h1,h2,h3⟩
 ·exact .inr ⟨f,pl _ e,h1,h2,h3,h4,h5⟩
theorem Ye{P:Int}{rows:List (List Int)}{v:Nat->Int}{c:Nat->Int}(h:∀i,cg P (v i) (bG rows c i)):Span P rows v:=(NP rows c).fB h
end L3
namespace L3
open PySem
open Lean.Grind
section
variable {A:Type}[CommRing A]
def nC(n:Nat):A:=Semiring.natCast.natCast n
def iC(n:Int):A:=Ring.intCast.intCast n
theorem Yg(m n:Nat):nC (A:=A) (m+n)=nC m+nC n:=Semiring.natCast_add m n
theorem Yh(m n:Nat):nC (A:=A) (m*n)=nC m*nC n:=Semiring.natCast_mul m n
theorem Yi:nC (A:=A) 0=0:=Semiring.natCast_zero
theorem NV:nC (A:=A) 1=1:=Semiring.natCast_one
theorem NW(m n:Int):iC (A:=A) (m-n)=iC m-iC n:=Ring.intCast_sub m n
theorem FU(m n:Int):iC (A:=A) (m*n)=iC m*iC n:=Ring.intCast_mul m n
theorem v_:iC (A:=A) 1=1:=Ring.intCast_one
theorem Yj(n:Nat):iC (A:=A) (n:Int)=nC n:=Ring.intCast_natCast n
structure cm (p:Nat) (I:A->Prop):Prop where
 zero:I 0
 add:∀{a b:A},I a->I b->I (a+b)
 mul:∀{a:A} (r:A),I a->I (r*a)
 FV:I (nC p)
variable {p:Nat}{I:A->Prop}
theorem cm.eq(H:cm p I){a b:A}(h:a=b):I (a-b):=by rw[h,show b-b=0 by grind];exact H.zero
theorem cm.of(_:cm p I){a b:A}(h:I a)(e:a=b):I b:=e ▸ h
theorem cm.neg(H:cm p I){a:A}(h:I a):I (-a):=H.of (H.mul (-1) h) (by grind)
theorem cm.sub(H:cm p I){a b:A}(h:I a)(h':I b):I (a-b):=H.of (H.add h (H.neg h')) (by grind)
theorem cm.symm(H:cm p I){a b:A}(h:I (a-b)):I (b-a):=H.of (H.neg h) (by grind)
theorem cm.trans(H:cm p I){a b c:A}(h:I (a-b))(h':I (b-c)):I (a-c):=H.of (H.add h h') (by grind)
theorem cm.fB(H:cm p I){a b:A}(h:I (a-b))(hb:I b):I a:=H.of (H.add h hb) (by grind)
theorem cm.NX(H:cm p I){a b c d:A}(h:I (a-b))(h':I (c-d)):I (a*c-b*d):=H.of (H.add (H.mul c h) (H.mul b h')) (by grind)
theorem cm.pow(H:cm p I){a b:A}(h:I (a-b)):∀n:Nat,I (a^n-b^n)
 | 0=>H.eq (by rw[Semiring.pow_zero,Semiring.pow_zero])
 | n+1=>by rw[Semiring.pow_succ,Semiring.pow_succ];exact H.NX (H.pow h n) h
theorem cm.Yk(H:cm p I){a:A}(h:I a){n:Nat}(hn:1<=n):I (a^n):=by
 obtain⟨k,rfl⟩:∃k,n=k+1:=⟨n-1,by lia⟩
 rw[Semiring.pow_succ];exact H.mul _ h
theorem ql(a:A)(m:Nat):∀n:Nat,a^(m+n)=a^m*a^n
 | 0=>by rw[Semiring.pow_zero,oO];grind
 | n+1=>by rw[<-Sw,Semiring.pow_succ,ql a m n,Semiring.pow_succ];grind
theorem sj(a:A)(m:Nat):∀n:Nat,a^(m*n)=(a^m)^n
 | 0=>by rw[SD,Semiring.pow_zero,Semiring.pow_zero]
 | n+1=>by rw[Nat.mul_succ,ql,sj a m n,Semiring.pow_succ]
theorem Cd(a b:A):∀n:Nat,(a*b)^n=a^n*b^n
 | 0=>by rw[Semiring.pow_zero,Semiring.pow_zero,Semiring.pow_zero];grind
 | n+1=>by rw[Semiring.pow_succ,Cd a b n,Semiring.pow_succ,Semiring.pow_succ];grind
theorem NY:∀n:Nat,(1:A)^n=1
 | 0=>Semiring.pow_zero 1
 | n+1=>by rw[Semiring.pow_succ,NY n];grind
def ch:Nat->Nat->Nat
 | _,0=>1
 | 0,_+1=>0
 | n+1,k+1=>ch n k+ch n (k+1)
theorem Ce(n:Nat):ch n 0=1:=by cases n<;>rfl
theorem wa:∀(n k:Nat),n<k->ch n k=0
 | n,0,h=>absurd h (rm _)
 | 0,k+1,_=>rfl
 | n+1,k+1,h=>by rw[ch,wa n k (by lia),wa n (k+1) (by lia)]
theorem NZ:∀n:Nat,ch n n=1
 | 0=>rfl
 | n+1=>by rw[ch,NZ n,wa n (n+1) (by lia)]
theorem Cf:∀(n k:Nat),(k+1)*ch (n+1) (k+1)=(n+1)*ch n k
 | 0,0=>rfl
 | 0,k+1=>by
   show(k+1+1)*(ch 0 (k+1)+ch 0 (k+1+1))=_
   rw[wa 0 (k+1) (by lia),wa 0 (k+1+1) (by lia)];lia
 | n+1,0=>by
   have h:=Cf n 0
   show(0+1)*(ch (n+1) 0+ch (n+1) (0+1))=_
   rw[Ce] at h ⊢
   lia
 | n+1,k+1=>by
   have h1:=Cf n k
   have h2:=Cf n (k+1)
   rw[ch,Nat.mul_add,h2,show k+1+1=(k+1)+1 from rfl,SE,h1,Nat.one_mul]
   rw[show ch (n+1) (k+1)=ch n k+ch n (k+1) from rfl]
   rw[Nat.mul_add,SE (n+1) 1,SE (n+1) 1]
   lia
theorem Yl{p:Nat}(hp:∀e,2<=e->e<p->p%e≠0)(k:Nat)(h1:1<=k)(h2:k<p):p∣ch p k:=by
 obtain⟨n,rfl⟩:∃n,p=n+1:=⟨p-1,by lia⟩
 obtain⟨j,rfl⟩:∃j,k=j+1:=⟨k-1,by lia⟩
 have h:=Cf n j
 have hd:(n+1)∣(j+1)*ch (n+1) (j+1):=⟨_,h⟩
 refine a6s ?_ hd
 have g1:=SF (n+1) (j+1)
 have g2:=AO (by lia) (SG (n+1) (j+1))
 show uZ (n+1) (j+1)=1
 have g0:uZ (n+1) (j+1)≠0:=λz=>by have:=(Nat.gcd_eq_zero_iff.mp z).1;lia
 by_cases g3:2<=uZ (n+1) (j+1)
 ·exact absurd (a6t g1) (hp _ g3 (by lia))
 ·lia
def sm(f:Nat->A):Nat->A
 | 0=>0
 | n+1=>sm f n+f n
theorem FW{f g:Nat->A}:∀{n:Nat},(∀k,k<n->f k=g k)->sm f n=sm g n
 | 0,_=>rfl
 | n+1,h=>by rw[sm,sm,FW λk hk=>h k (by lia),h n (by lia)]
theorem N0(f g:Nat->A):∀n:Nat,sm (λk=>f k+g k) n=sm f n+sm g n
 | 0=>by simp only[sm];grind
 | n+1=>by rw[sm,N0 f g n,sm,sm];grind
theorem Cg(r:A)(f:Nat->A):∀n:Nat,sm (λk=>r*f k) n=r*sm f n
 | 0=>by simp only[sm];grind
 | n+1=>by rw[sm,Cg r f n,sm];grind
theorem Ci(f:Nat->A):∀n:Nat,sm f (n+1)=f 0+sm (λk=>f (k+1)) n
 | 0=>by simp only[sm];grind
 | n+1=>by rw[sm,Ci f n,sm];grind
theorem N1(a b:A):∀n:Nat,(a+b)^n=sm (λk=>nC (ch n k)*(a^k*b^(n-k))) (n+1)
 | 0=>by
   rw[Semiring.pow_zero]
   simp only[sm,ch,DI,Semiring.pow_zero]
   rw[NV];grind
 | n+1=>by
   rw[Semiring.pow_succ,N1 a b n,Ci (λk=>nC (ch (n+1) k)*(a^k*b^(n+1-k)))]
   have e1:sm (λk=>nC (ch (n+1) (k+1))*(a^(k+1)*b^(n+1-(k+1)))) (n+1)=sm (λk=>a*(nC (ch n k)*(a^k*b^(n-k)))+nC (ch n (k+1))*(a^(k+1)*b^(n-k))) (n+1):=by
    refine FW λk hk=>?_
    rw[show n+1-(k+1)=n-k by lia,show ch (n+1) (k+1)=ch n k+ch n (k+1) from rfl,Yg,Semiring.pow_succ];grind
   rw[e1,N0,Cg]
   have e2:sm (λk=>b*(nC (ch n k)*(a^k*b^(n-k)))) (n+1)=nC (ch (n+1) 0)*(a^0*b^(n+1-0))+sm (λk=>nC (ch n (k+1))*(a^(k+1)*b^(n-k))) (n+1):=by
    rw[Ci,Ce,Ce,sm]
    have e3:sm (λk=>b*(nC (ch n (k+1))*(a^(k+1)*b^(n-(k+1))))) n=sm (λk=>nC (ch n (k+1))*(a^(k+1)*b^(n-k))) n:=by
     refine FW λk hk=>?_
     rw[show n-k=(n-(k+1))+1 by lia,Semiring.pow_succ b];grind
    rw[e3,wa n (n+1) (by lia),DG,DG,Semiring.pow_succ b,Yi]
    grind
   rw[Cg] at e2
   grind
theorem cm.sm(H:cm p I){f:Nat->A}:∀{n:Nat},(∀k,k<n->I (f k))->I (L3.sm f n)
 | 0,_=>H.zero
 | n+1,h=>H.add (H.sm λk hk=>h k (by lia)) (h n (by lia))
theorem cm.nat(H:cm p I){n:Nat}(h:p∣n)(a:A):I (nC n*a):=by
 obtain⟨k,rfl⟩:=h
 refine H.of (H.mul (nC k*a) H.FV) ?_
 rw[Yh];grind
theorem cm.N2(H:cm p I)(hp:∀e,2<=e->e<p->p%e≠0)(p2:2<=p)(a b:A):I ((a+b)^p-(a^p+b^p)):=by
 obtain⟨n,rfl⟩:∃n,p=n+1:=⟨p-1,by lia⟩
 rw[N1,L3.sm,Ci]
 have h:I (L3.sm (λk=>nC (ch (n+1) (k+1))*(a^(k+1)*b^(n+1-(k+1)))) n):=H.sm λk hk=>H.nat (Yl hp (k+1) (by lia) (by lia)) _
 refine H.of h ?_
 rw[Ce,NZ,DI,DG,Semiring.pow_zero,Semiring.pow_zero,NV]
 grind
theorem cm.N3(H:cm p I)(hp:∀e,2<=e->e<p->p%e≠0)(p2:2<=p)(a b:A):∀j:Nat,I ((a+b)^(p^j)-(a^(p^j)+b^(p^j)))
 | 0=>H.eq (by rw[AJ];grind)
 | j+1=>by
   have h:=H.pow (H.N3 hp p2 a b j) p
   have h2:=H.N2 hp p2 (a^(p^j)) (b^(p^j))
   rw[DJ,sj,sj,sj]
   exact H.trans h h2
theorem cm.N4(H:cm p I)(hp:∀e,2<=e->e<p->p%e≠0)(p2:2<=p)(a b:A)(j:Nat):I ((a-b)^(p^j)-(a^(p^j)-b^(p^j))):=by
 have h:=H.N3 hp p2 (a-b) b j
 rw[show a-b+b=a by grind] at h
 exact H.of (H.neg h) (by grind)
def fV:List Int->A->A
 | [],_=>0
 | c::cs,x=>iC c+x*fV cs x
theorem N5(c:Int):∀n:Nat,iC (A:=A) c^n=iC (c^n)
 | 0=>by rw[Semiring.pow_zero,xk,v_]
 | n+1=>by rw[Semiring.pow_succ,N5 c n,jE,FU]
theorem cm.int(H:cm p I){c:Int}(h:(p:Int)∣c):I (iC c):=by
 obtain⟨k,rfl⟩:=h
 refine H.of (H.mul (iC k) H.FV) ?_
 rw[FU,Yj];grind
theorem cm.N6(H:cm p I)(hp:∀e,2<=e->e<p->p%e≠0)(p2:2<=p)(hf:∀c:Int,(p:Int)∣c^p-c)(x:A):∀cs:List Int,I ((fV cs x)^p-fV cs (x^p))
 | []=>H.eq (by
   obtain⟨n,rfl⟩:∃n,p=n+1:=⟨p-1,by lia⟩
   simp only[fV];rw[Semiring.pow_succ];grind)
 | c::cs=>by
   have h1:=H.N2 hp p2 (iC c) (x*fV cs x)
   have h2:=H.N6 hp p2 hf x cs
   have h3:I (iC c^p-iC c):=by
    refine H.of (H.int (hf c)) ?_
    rw[NW,N5]
   rw[Cd] at h1
   have h4:=H.mul (x^p) h2
   show I ((iC c+x*fV cs x)^p-(iC c+x^p*fV cs (x^p)))
   exact H.of (H.add (H.add h1 h3) h4) (by grind)
theorem cm.roots(H:cm p I)(hp:∀e,2<=e->e<p->p%e≠0)(p2:2<=p)(hf:∀c:Int,(p:Int)∣c^p-c){x:A}{cs:List Int}(h:I (fV cs x)):∀j:Nat,I (fV cs (x^(p^j)))
 | 0=>by rw[AJ];exact H.of h (by congr 1;grind)
 | j+1=>by
   have h1:=H.Yk (H.roots hp p2 hf h j) (n:=p) (by lia)
   have h2:=H.N6 hp p2 hf (x^(p^j)) cs
   rw[DJ,sj]
   exact H.fB (H.symm h2) h1
def Dv(I:A->Prop)(B a:A):Prop:=∃(n:Nat) (s:A),I (B^n-a*s)
theorem Dv.mul(H:cm p I){B a b:A}(h:Dv I B a)(h':Dv I B b):Dv I B (a*b):=by
 obtain⟨n,s,e⟩:=h
 obtain⟨n',s',e'⟩:=h'
 refine⟨n+n',s*s',?_⟩
 rw[ql]
 exact H.of (H.NX e e') (by grind)
theorem Dv.nil(H:cm p I){B a:A}(h:Dv I B a)(ha:I a):∃n:Nat,I (B^n):=by
 obtain⟨n,s,e⟩:=h
 exact⟨n,H.fB e (H.of (H.mul s ha) (by grind))⟩
theorem FX(x:A):∀k:Nat,∃s:A,x^k-1=(x-1)*s
 | 0=>⟨0,by rw[Semiring.pow_zero];grind⟩
 | k+1=>by
   obtain⟨s,e⟩:=FX x k
   exact⟨s*x+1,by rw[Semiring.pow_succ];grind⟩
theorem pF(H:cm p I)(hp:∀e,2<=e->e<p->p%e≠0)(p2:2<=p)(x:A){M k:Nat}(hM:(p^k-1)∣M)(i:Nat):Dv I (x^(M+1)-x) (x^(p^(i+k))-x^(p^i)):=by
 obtain⟨c,rfl⟩:=hM
 obtain⟨s,e⟩:=FX (x^(p^k-1)) c
 have e1:x^((p^k-1)*c+1)-x=(x^(p^k)-x)*s:=by
  have hk:p^k=(p^k-1)+1:=by have:=SH (n:=k) (show 0<p by lia);lia
  rw[Semiring.pow_succ,sj]
  conv=>rhs;rw[hk,Semiring.pow_succ]
  grind
 refine⟨p^i,s^(p^i),?_⟩
 rw[e1,Cd]
 have h:=H.N4 hp p2 (x^(p^k)) x i
 rw[<-sj,<-Nat.pow_add,AB k i] at h
 exact H.of (H.mul (s^(p^i)) h) (by grind)
end
section
variable {A:Type}[CommRing A]{p:Nat}{I:A->Prop}
theorem cm.N7(H:cm p I){f:Nat->A}{i:Nat}:∀{n:Nat},i<n->(∀k,k<n->k≠i->I (f k))->I (L3.sm f n-f i)
 | 0,hi,_=>absurd hi (rm _)
 | n+1,hi,h=>by
   by_cases e:i=n
   ·subst e
    have hs:I (L3.sm f i):=H.sm λk hk=>h k (by lia) (by lia)
    refine H.of hs ?_
    rw[L3.sm];grind
   ·refine H.of (H.add (H.N7 (n:=n) (by lia) λk hk ne=>h k (by lia) ne) (h n (by lia) (λz=>e z.symm))) ?_
    rw[L3.sm];grind
theorem Ym{e:Nat->Int}{q:Int}:∀i:Nat,¬q∣e i->∃j,j<=i/\¬q∣e j/\∀k,k<j->q∣e k:=by
 intro i
 induction i using Nat.strongRecOn with
 | ind i ih =>
   intro h
   by_cases z:∃k,k<i/\¬q∣e k
   ·obtain⟨k,k1,k2⟩:=z
    obtain⟨j,j1,j2,j3⟩:=ih k k1 k2
    exact⟨j,by lia,j2,j3⟩
   ·exact⟨i,bA _,h,λk hk=>xh λw=>z ⟨k,hk,w⟩⟩
theorem cm.drop_one(H:cm p I){d:Nat}(hd:∀F:Nat->A,∃e:Nat->Int,(∃i,i<=d/\¬(p:Int)∣e i)/\I (L3.sm (λi=>iC (e i)*F i) (d+1)))(hu:∀c:Int,¬(p:Int)∣c->∃u:Int,(p:Int)∣u*c-1){B:A}{j:Nat}(h:I (B^(d+j+1))):I (B^(d+j)):=by
 obtain⟨e,⟨i',kB,ne⟩,hs⟩:=hd λi=>B^(j+i)
 obtain⟨i,i1,i2,i3⟩:=Ym i' ne
 have h1:=H.mul (B^(d-i)) hs
 rw[<-Cg] at h1
 have h2:I (L3.sm (λk=>B^(d-i)*(iC (e k)*B^(j+k))) (d+1)-B^(d-i)*(iC (e i)*B^(j+i))):=H.N7 (by lia) λk hk nk=>by
  rcases dt k i with z | z
  ·exact H.mul _ (H.of (H.mul (B^(j+k)) (H.int (i3 k z))) (by grind))
  ·have z2:d-i+(j+k)=d+j+1+(k-i-1):=by lia
   refine H.of (H.mul (iC (e k)*B^(k-i-1)) h) ?_
   have:B^(d-i)*B^(j+k)=B^(d+j+1)*B^(k-i-1):=by rw[<-ql,<-ql,z2]
   grind
 have h3:=H.sub h1 h2
 have e1:B^(d-i)*B^(j+i)=B^(d+j):=by rw[<-ql,show d-i+(j+i)=d+j by lia]
 obtain⟨u,hu⟩:=hu _ i2
 have h4:=H.int hu
 rw[NW,FU,v_] at h4
 have h5:=H.mul (iC u) h3
 have h6:=H.mul (B^(d+j)) h4
 refine H.of (H.sub h5 h6) ?_
 rw[<-e1];grind
theorem cm.less(H:cm p I){d:Nat}(hd:∀F:Nat->A,∃e:Nat->Int,(∃i,i<=d/\¬(p:Int)∣e i)/\I (L3.sm (λi=>iC (e i)*F i) (d+1)))(hu:∀c:Int,¬(p:Int)∣c->∃u:Int,(p:Int)∣u*c-1){B:A}:∀K:Nat,I (B^(d+K))->I (B^d)
 | 0,h=>h
 | K+1,h=>H.less hd hu K (H.drop_one hd hu h)
theorem cm.Yn(H:cm p I){d:Nat}(hd:∀F:Nat->A,∃e:Nat->Int,(∃i,i<=d/\¬(p:Int)∣e i)/\I (L3.sm (λi=>iC (e i)*F i) (d+1)))(hu:∀c:Int,¬(p:Int)∣c->∃u:Int,(p:Int)∣u*c-1){B:A}{n:Nat}(h:I (B^n)):I (B^d) :=
 H.less hd hu n (by rw[ql];exact H.mul _ h)
theorem FY(x:A):fV [1] x=1:=by simp only[fV,v_];grind
theorem FZ(a:Int)(x:A):fV [a,1] x=iC a+x:=by simp only[fV,v_];grind
theorem F0(a b:Int)(x:A):fV [a,b,1] x=iC a+iC b*x+x^2:=by simp only[fV,v_];grind
theorem F4(a b c:Int)(x:A):fV [a,b,c,1] x=iC a+iC b*x+iC c*x^2+x^3:=by simp only[fV,v_];grind
theorem Yo(H:cm p I)(hp:∀e,2<=e->e<p->p%e≠0)(p2:2<=p)(hf:∀c:Int,(p:Int)∣c^p-c){x:A}{M:Nat}:∀(cs:List Int),cs.length<=3->(∀k,1<=k->k<=cs.length->(p^k-1)∣M)->I (fV (cs++[1]) x)->∃n:Nat,I ((x^(M+1)-x)^n)
 | [],_,_,h=>by
   refine⟨0,?_⟩
   rw[Semiring.pow_zero]
   exact H.of h (FY x)
 | [a],_,hM,h=>by
   have r0:=H.roots hp p2 hf h 0
   have r1:=H.roots hp p2 hf h 1
   rw[show[a]++[1]=[a,1] from rfl,FZ] at r0 r1
   refine(pF H hp p2 x (hM 1 (by lia) (bA _)) 0).nil H ?_
   exact H.of (H.sub r1 r0) (by grind)
 | [a,b],_,hM,h=>by
   have r0:=H.roots hp p2 hf h 0
   have r1:=H.roots hp p2 hf h 1
   have r2:=H.roots hp p2 hf h 2
   rw[show[a,b]++[1]=[a,b,1] from rfl,F0] at r0 r1 r2
   have d1:=pF H hp p2 x (hM 1 (by lia) (by simp)) 0
   have d2:=pF H hp p2 x (hM 1 (by lia) (by simp)) 1
   have d3:=pF H hp p2 x (hM 2 (by lia) (by simp)) 0
   refine((d1.mul H d2).mul H d3).nil H ?_
   simp only[gO,Nat.reduceAdd] at *
   generalize x^p^0=y0 at *
   generalize x^p^1=y1 at *
   generalize x^p^2=y2 at *
   exact H.of (H.sub (H.mul (y1-y0) (H.sub r2 r0)) (H.mul (y2-y0) (H.sub r1 r0))) (by grind)
 | [a,b,c],_,hM,h=>by
   have r0:=H.roots hp p2 hf h 0
   have r1:=H.roots hp p2 hf h 1
   have r2:=H.roots hp p2 hf h 2
   have r3:=H.roots hp p2 hf h 3
   rw[show[a,b,c]++[1]=[a,b,c,1] from rfl,F4] at r0 r1 r2 r3
   have d1:=pF H hp p2 x (hM 1 (by lia) (by simp)) 0
   have d2:=pF H hp p2 x (hM 1 (by lia) (by simp)) 1
   have d3:=pF H hp p2 x (hM 1 (by lia) (by simp)) 2
   have d4:=pF H hp p2 x (hM 2 (by lia) (by simp)) 0
   have d5:=pF H hp p2 x (hM 2 (by lia) (by simp)) 1
   have d6:=pF H hp p2 x (hM 3 (by lia) (by simp)) 0
   refine((((((d1.mul H d2).mul H d3).mul H d4).mul H d5).mul H d6)).nil H ?_
   simp only[gO,Nat.reduceAdd] at *
   generalize x^p^0=y0 at *
   generalize x^p^1=y1 at *
   generalize x^p^2=y2 at *
   generalize x^p^3=y3 at *
   clear d1 d2 d3 d4 d5 d6 h
   exact H.of (H.sub (H.add (H.sub (H.mul ((y1-y0)*(y2-y0)*(y2-y1)) r3) (H.mul ((y1-y0)*(y3-y0)*(y3-y1)) r2)) (H.mul ((y2-y0)*(y3-y0)*(y3-y2)) r1)) (H.mul ((y2-y1)*(y3-y1)*(y3-y2)) r0)) (by grind)
 | _::_::_::_::_,h,_,_=>by simp at h
end
inductive Poly:((Nat->Int)->Nat->Int)->Prop
 | cst (c:Int):Poly (λa n=>c*a n)
 | sh:Poly (λa n=>a (n+1))
 | add {F G:(Nat->Int)->Nat->Int}:Poly F->Poly G->Poly (λa n=>F a n+G a n)
 | comp {F G:(Nat->Int)->Nat->Int}:Poly F->Poly G->Poly (λa=>F (G a))
theorem Poly.plus{F:(Nat->Int)->Nat->Int}(h:Poly F):∀a b:Nat->Int,F (λn=>a n+b n)=λn=>F a n+F b n:=by
 induction h with
 | cst c=>intro a b;funext n;exact uT _ _ _
 | sh=>intro a b;rfl
 | add _ _ h1 h2=>intro a b;funext n;dsimp only;rw[h1,h2];dsimp only;lia
 | comp _ _ h1 h2=>intro a b;dsimp only;rw[h2,h1]
theorem Poly.times{F:(Nat->Int)->Nat->Int}(h:Poly F):∀(c:Int) (a:Nat->Int),F (λn=>c*a n)=λn=>c*F a n:=by
 induction h with
 | cst d=>intro c a;funext n;dsimp only;rw[<-dN,<-dN,iH d c]
 | sh=>intro c a;rfl
 | add _ _ h1 h2=>intro c a;funext n;dsimp only;rw[h1,h2,uT]
 | comp _ _ h1 h2=>intro c a;dsimp only;rw[h2,h1]
theorem Poly.shift{F:(Nat->Int)->Nat->Int}(h:Poly F):∀a:Nat->Int,F (λn=>a (n+1))=λn=>F a (n+1):=by
 induction h with
 | cst d=>intro a;rfl
 | sh=>intro a;rfl
 | add _ _ h1 h2=>intro a;funext n;dsimp only;rw[h1,h2]
 | comp _ _ h1 h2=>intro a;dsimp only;rw[h2,h1]
theorem Poly.comm{F G:(Nat->Int)->Nat->Int}(h:Poly F)(g:Poly G):∀a:Nat->Int,F (G a)=G (F a):=by
 induction h with
 | cst d=>intro a;exact(g.times d a).symm
 | sh=>intro a;exact(g.shift a).symm
 | add _ _ h1 h2=>intro a;dsimp only;rw[h1,h2];exact(g.plus _ _).symm
 | comp _ _ h1 h2=>intro a;dsimp only;rw[h2,h1]
theorem Poly.fB{P:Int}{F:(Nat->Int)->Nat->Int}(h:Poly F):∀a b:Nat->Int,(∀n,cg P (a n) (b n))->∀n,cg P (F a n) (F b n):=by
 induction h with
 | cst d=>intro a b e n;exact(cg.refl).mul (e n)
 | sh=>intro a b e n;exact e (n+1)
 | add _ _ h1 h2=>intro a b e n;exact(h1 a b e n).add (h2 a b e n)
 | comp _ _ h1 h2=>intro a b e n;exact h1 _ _ (h2 a b e) n
def Op:Type:={ F:(Nat->Int)->Nat->Int // Poly F }
namespace Op
theorem ext{a b:Op}(h:∀s n,a.1 s n=b.1 s n):a=b:=Subtype.ext (funext λs=>funext λn=>h s n)
def cst(c:Int):Op:=⟨_,.cst c⟩
def add(a b:Op):Op:=⟨_,a.2.add b.2⟩
def mul(a b:Op):Op:=⟨_,a.2.comp b.2⟩
def pow(a:Op):Nat->Op
 | 0=>cst 1
 | n+1=>mul (pow a n) a
def X:Op:=⟨_,.sh⟩
end Op
noncomputable instance:CommRing Op where
 add:=Op.add
 mul:=Op.mul
 natCast:=⟨λn=>Op.cst n⟩
 ofNat:=λn=>⟨Op.cst n⟩
 nsmul:=⟨λn a=>Op.mul (Op.cst n) a⟩
 npow:=⟨Op.pow⟩
 add_zero a:=Op.ext λs n=>by show a.1 s n+(0:Nat)*s n=_;simp
 add_comm a b:=Op.ext λs n=>Sr _ _
 add_assoc a b c:=Op.ext λs n=>Int.add_assoc _ _ _
 mul_assoc a b c:=rfl
 mul_one a:=Op.ext λs n=>by show a.1 (λn=>(1:Nat)*s n) n=_;simp
 one_mul a:=Op.ext λs n=>by show(1:Nat)*a.1 s n=_;simp
 left_distrib a b c:=Op.ext λs n=>congrFun (a.2.plus _ _) n
 right_distrib a b c:=rfl
 zero_mul a:=Op.ext λs n=>by show(0:Nat)*a.1 s n=(0:Nat)*s n;simp
 mul_zero a:=Op.ext λs n=>by
  have:=congrFun (a.2.times 0 s) n
  show a.1 (λn=>(0:Nat)*s n) n=(0:Nat)*s n
  simpa using this
 pow_zero a:=rfl
 pow_succ a n:=rfl
 ofNat_succ n:=Op.ext λs k=>by show((n+1:Nat):Int)*s k=(n:Int)*s k+(1:Nat)*s k;rw[a6u,DP]
 ofNat_eq_natCast n:=rfl
 nsmul_eq_natCast_mul n a:=rfl
 neg:=λa=>Op.mul (Op.cst (-1)) a
 sub:=λa b=>Op.add a (Op.mul (Op.cst (-1)) b)
 intCast:=⟨Op.cst⟩
 zsmul:=⟨λn a=>Op.mul (Op.cst n) a⟩
 neg_add_cancel a:=Op.ext λs n=>by show(-1)*a.1 s n+a.1 s n=(0:Nat)*s n;simp;lia
 sub_eq_add_neg a b:=rfl
 neg_zsmul i a:=Op.ext λs n=>by show(-i)*a.1 s n=(-1)*(i*a.1 s n);rw[m_,m_,jj]
 zsmul_natCast_eq_nsmul n a:=rfl
 intCast_ofNat n:=rfl
 intCast_neg i:=Op.ext λs n=>by show(-i)*s n=(-1)*(i*s n);rw[m_,m_,jj]
 mul_comm a b:=Op.ext λs n=>congrFun (a.2.comm b.2 s) n
def nZ(P:Int)(s:Nat->Int)(a:Op):Prop:=∀n,cg P (a.1 s n) 0
theorem kC(a b:Op)(s:Nat->Int)(n:Nat):(a+b).1 s n=a.1 s n+b.1 s n:=rfl
theorem jT(a b:Op)(s:Nat->Int):(a*b).1 s=a.1 (b.1 s):=rfl
theorem wb(a b:Op)(s:Nat->Int)(n:Nat):(a-b).1 s n=a.1 s n-b.1 s n:=by
 show a.1 s n+(-1)*b.1 s n=_;lia
theorem sq(s:Nat->Int)(n:Nat):(1:Op).1 s n=s n:=by show((1:Nat):Int)*s n=_;simp
theorem N8(s:Nat->Int)(n:Nat):(0:Op).1 s n=0:=by show((0:Nat):Int)*s n=_;simp
theorem mL(c:Int)(s:Nat->Int)(n:Nat):(iC c:Op).1 s n=c*s n:=rfl
theorem mM(s:Nat->Int)(n:Nat):Op.X.1 s n=s (n+1):=rfl
theorem qm(s:Nat->Int):∀(k n:Nat),(Op.X^k).1 s n=s (n+k)
 | 0,n=>by rw[Semiring.pow_zero];exact sq s n
 | k+1,n=>by
   rw[Semiring.pow_succ,jT,qm _ k n,mM,Sw]
theorem F5{P:Int}{p:Nat}(e:P=p)(s:Nat->Int):cm p (nZ P s) where
 zero n:=by rw[N8];exact cg.refl
 add {a b} h h' n:=by rw[kC];exact(h n).add (h' n)
 mul {a} r h n:=by
  rw[jT]
  have:=r.2.fB (P:=P) (a.1 s) (λ_=>0) h n
  refine this.trans ?_
  have q:=congrFun (r.2.times 0 (λ_=>0)) n
  simp only[gP] at q
  rw[q];exact cg.refl
 FV n:=by
  show cg P ((p:Int)*s n) 0
  unfold cg;rw[e,Int.mul_emod_right,pR]
def dG(i0 i:Nat):Nat:=if i<i0 then i else i+1
def unq(i0 j:Nat):Nat:=if j<i0 then j else j-1
theorem N9(i0 i:Nat):unq i0 (dG i0 i)=i:=by
 unfold unq dG
 by_cases h:i<i0
 ·rw[if_pos h,if_pos h]
 ·rw[if_neg h,if_neg (by lia)];lia
theorem N_(i0 i:Nat):dG i0 i≠i0:=by unfold dG;split<;>lia
theorem Oa(f:Nat->Int):∀{n i0:Nat},i0<=n->aF f (n+1)=f i0+aF (λi=>f (dG i0 i)) n
 | 0,i0,h=>by
   have:i0=0:=by lia
   subst this
   simp only[aF];lia
 | n+1,i0,h=>by
   by_cases e:i0=n+1
   ·subst e
    rw[dB,Sr]
    congr 1
    refine dc λk hk=>?_
    unfold dG;rw[if_pos hk]
   ·rw[dB,Oa f (n:=n) (i0:=i0) (by lia),dB,Int.add_assoc]
    congr 2
    unfold dG;rw[if_neg (by lia)]
theorem lF{P a b:Int}:cg P a b↔P∣a-b:=by
 rw[L4]
 exact⟨u0,xl⟩
theorem dep{P:Int}(hu:∀a:Int,¬cg P a 0->∃b:Int,cg P (b*a) 1)(hp:1<P):∀(d:Nat) (v:Nat->Nat->Int),∃e:Nat->Int,(∃i,i<=d/\¬cg P (e i) 0)/\∀k,k<d->cg P (aF (λi=>e i*v i k) (d+1)) 0
 | 0,v=>⟨λ_=>1,⟨0,bA _,vS hp⟩,λk hk=>absurd hk (rm _)⟩
 | d+1,v=>by
   by_cases z:∃i,i<=d+1/\¬cg P (v i d) 0
   ·obtain⟨i0,h0,hn⟩:=z
    obtain⟨b,hb⟩:=hu _ hn
    obtain⟨e,⟨i,hi,ne⟩,he⟩:=dep hu hp d λi k=>v (dG i0 i) k-(v (dG i0 i) d*b)*v i0 k
    refine⟨λj=>if j=i0 then-aF (λi=>e i*(v (dG i0 i) d*b)) (d+1) else e (unq i0 j),⟨dG i0 i,by unfold dG;split<;>lia,by dsimp only;rw[if_neg (N_ i0 i),N9];exact ne⟩,λk hk=>?_⟩
    rw[Oa _ h0]
    dsimp only
    rw[if_pos rfl]
    have e0:aF (λi=>(if dG i0 i=i0 then-aF (λi=>e i*(v (dG i0 i) d*b)) (d+1) else e (unq i0 (dG i0 i)))*v (dG i0 i) k) (d+1)=aF (λi=>e i*v (dG i0 i) k) (d+1):=dc λi _=>by rw[if_neg (N_ i0 i),N9]
    rw[e0]
    have e1:aF (λi=>e i*v (dG i0 i) k) (d+1)=aF (λi=>e i*(v (dG i0 i) k-(v (dG i0 i) d*b)*v i0 k)) (d+1)+aF (λi=>e i*(v (dG i0 i) d*b)) (d+1)*v i0 k:=by
     have:∀n,aF (λi=>e i*v (dG i0 i) k) n=aF (λi=>e i*(v (dG i0 i) k-(v (dG i0 i) d*b)*v i0 k)) n+aF (λi=>e i*(v (dG i0 i) d*b)) n*v i0 k:=by
      intro n
      induction n with
      | zero=>simp[aF]
      | succ n ih=>rw[dB,dB,dB,ih];grind
     exact this _
    rw[e1]
    have e2:cg P (aF (λi=>e i*(v (dG i0 i) k-(v (dG i0 i) d*b)*v i0 k)) (d+1)) 0:=by
     rcases dt k d with w | w
     ·exact he k w
     ·have:k=d:=by lia
      subst this
      refine(cg.aF (g:=λ_=>0) λi _=>?_).trans (cg.of_eq (by have:∀n,aF (λ_=>0) n=0:=λn=>by induction n with | zero=>rfl | succ n ih=>rw[dB,ih];rfl
                                                            exact this _))
      rw[lF] at hb ⊢
      obtain⟨t,ht⟩:=hb
      exact⟨- (e i*v (dG i0 i) k*t),by grind⟩
    refine(cg.of_eq ?_).trans e2
    generalize aF (λi=>e i*(v (dG i0 i) d*b)) (d+1)=q1
    generalize aF (λi=>e i*(v (dG i0 i) k-(v (dG i0 i) d*b)*v i0 k)) (d+1)=q2
    rw[m_];lia
   ·obtain⟨e,⟨i,hi,ne⟩,he⟩:=dep hu hp d v
    refine⟨λj=>if j<=d then e j else 0,⟨i,by lia,by dsimp only;rw[if_pos hi];exact ne⟩,λk hk=>?_⟩
    rw[dB]
    dsimp only
    have e0:aF (λi=>(if i<=d then e i else 0)*v i k) (d+1)=aF (λi=>e i*v i k) (d+1):=dc λi hi=>by rw[if_pos (by lia)]
    rw[if_neg (by lia),gP,Jv,e0]
    rcases dt k d with w | w
    ·exact he k w
    ·have:k=d:=by lia
     subst this
     refine(cg.aF (g:=λ_=>0) λi hi=>?_).trans (cg.of_eq (by have:∀n,aF (λ_=>0) n=0:=λn=>by induction n with | zero=>rfl | succ n ih=>rw[dB,ih];rfl
                                                            exact this _))
     have:cg P (v i k) 0:=xh λw=>z ⟨i,by lia,w⟩
     have:=(cg.refl (P:=P) (a:=e i)).mul this
     rwa [gq] at this
theorem Ob(F:Nat->Op)(s:Nat->Int)(n:Nat):∀k:Nat,(sm F k).1 s n=aF (λi=>(F i).1 s n) k
 | 0=>N8 s n
 | k+1=>by rw[sm,kC,Ob F s n k,dB]
theorem Yp{P:Int}{cs:List Int}{s:Nat->Int}(h:nZ P s (fV (cs++[1]) Op.X))(hl:cs.length<=3)(h0:∀k,k<cs.length->cg P (s k) 0):∀n,cg P (s n) 0:=by
 have key:∀n,(∀k,k<cs.length->cg P (s (n+k)) 0)->cg P (s (n+cs.length)) 0:=by
  intro n hn
  have hk:=h n
  match cs,hl,hk,hn with
  | [],_,hk,_=>rw[show([]:List Int)++[1]=[1] from rfl,FY,sq] at hk;exact hk
  | [a],_,hk,hn =>
    rw[show[a]++[1]=[a,1] from rfl,FZ,kC,mL,mM] at hk
    have:=hn 0 (by simp)
    rw[lF] at *
    obtain⟨t,ht⟩:=hk
    obtain⟨u,hu⟩:=this
    exact⟨t-a*u,by show s (n+1)-0=_;rw[oO] at hu;grind⟩
  | [a,b],_,hk,hn =>
    rw[show[a,b]++[1]=[a,b,1] from rfl,F0,kC,kC,mL,jT,mL,mM,qm] at hk
    have h1:=hn 0 (by simp)
    have h2:=hn 1 (by simp)
    rw[lF] at *
    obtain⟨t,ht⟩:=hk
    obtain⟨u,hu⟩:=h1
    obtain⟨w,hw⟩:=h2
    exact⟨t-a*u-b*w,by show s (n+2)-0=_;rw[oO] at hu;grind⟩
  | [a,b,c],_,hk,hn =>
    rw[show[a,b,c]++[1]=[a,b,c,1] from rfl,F4,kC,kC,kC,mL,jT,mL,mM,jT,mL,qm,qm] at hk
    have h1:=hn 0 (by simp)
    have h2:=hn 1 (by simp)
    have h3:=hn 2 (by simp)
    rw[lF] at *
    obtain⟨t,ht⟩:=hk
    obtain⟨u,hu⟩:=h1
    obtain⟨w,hw⟩:=h2
    obtain⟨y,hy⟩:=h3
    exact⟨t-a*u-b*w-c*y,by show s (n+3)-0=_;rw[oO] at hu;grind⟩
  | _::_::_::_::_,hl,_,_=>simp at hl
 have all:∀n k,k<=cs.length->cg P (s (n+k)) 0:=by
  intro n
  induction n with
  | zero =>
    intro k hk
    rcases dt k cs.length with z | z
    ·rw[gO];exact h0 k z
    ·have:k=cs.length:=by lia
     rw[this];exact key 0 λk hk=>by rw[gO];exact h0 k hk
  | succ n ih =>
    intro k hk
    rcases dt k cs.length with z | z
    ·rw[show n+1+k=n+(k+1) by lia];exact ih (k+1) (by lia)
    ·have:k=cs.length:=by lia
     rw[this]
     exact key (n+1) λk hk=>by rw[show n+1+k=n+(k+1) by lia];exact ih (k+1) (by lia)
 exact λn=>all n 0 (ji _)
section
variable {P:Int}{p:Nat}
theorem Yq(e:P=p)(hu:∀a:Int,¬cg P a 0->∃b:Int,cg P (b*a) 1)(hp:1<P){cs:List Int}{s:Nat->Int}(hl:cs.length<=3)(h:nZ P s (fV (cs++[1]) Op.X))(F:Nat->Op):∃e:Nat->Int,(∃i,i<=cs.length/\¬(p:Int)∣e i)/\nZ P s (sm (λi=>iC (e i)*F i) (cs.length+1)):=by
 obtain⟨c,⟨i,hi,ne⟩,hc⟩:=dep hu hp cs.length λi k=>(F i).1 s k
 refine⟨c,⟨i,hi,λz=>ne (lF.mpr (by rw[DQ,e];exact z))⟩,?_⟩
 have H:=F5 e s
 refine Yp (s:=(sm (λi=>iC (c i)*F i) (cs.length+1)).1 s) (λn=>?_) hl λk hk=>?_
 ·have:=H.mul (sm (λi=>iC (c i)*F i) (cs.length+1)) h n
  rw[CommSemiring.mul_comm,jT] at this
  exact this
 ·rw[Ob]
  exact hc k hk
theorem Yr(e:P=p)(hD:cV P=false)(p1:3<=P)(p2:P<=9973){cs:List Int}{a:Nat->Int}(hl:cs.length<=3)(h:nZ P a (fV (cs++[1]) Op.X*(Op.X-1))){M j:Nat}(hM:∀k,1<=k->k<=cs.length->(p^k-1)∣M)(hj:cs.length+1<=p^j):∀n,cg P (a (n+cs.length+M*p^j)) (a (n+cs.length)):=by
 have hp:∀e,2<=e->e<p->p%e≠0:=λd d1 d2 z=>by
  have h1:cV P=true:=by
   by_cases w:d<100
   ·exact(EW _).mpr ⟨d,by lia,by lia,by lia,by rw[e];exact_mod_cast z⟩
   ·have hd:p=d*(p/d):=by have:=JF p d;lia
    have q0:0<p/d:=Nat.div_pos (by lia) (by lia)
    have q1:p/d<100:=by
     rcases dt (p/d) 100 with y | y
     ·exact y
     ·have:100*100<=d*(p/d):=a6v (by lia) y
      lia
    have q2:p/d≠1:=λy=>by rw[y] at hd;lia
    have q3:p%(p/d)=0:=by
     have:p%(p/d)=(d*(p/d))%(p/d):=by rw[<-hd]
     rw[this];exact Nat.mul_mod_left _ _
    have q4:2*(p/d)<=d*(p/d):=u9 _ d1
    exact(EW _).mpr ⟨((p/d:Nat):Int),by lia,by lia,by lia,by rw[e];exact_mod_cast q3⟩
  rw[hD] at h1;cases h1
 have Oc:2<=p:=by lia
 have hu:∀a:Int,¬cg P a 0->∃b:Int,cg P (b*a) 1:=λa ha=>B5 hD p1 p2 λz=>ha (by unfold cg;rw[z,pR])
 have hf:∀c:Int,(p:Int)∣c^p-c:=λc=>by
  rw[<-e,<-lF]
  by_cases z:c%P=0
  ·have z':cg P c 0:=by unfold cg;rw[z,pR]
   refine cg.trans ?_ z'.symm
   obtain⟨n,rfl⟩:∃n,p=n+1:=⟨p-1,by lia⟩
   rw[jE]
   have:=(cg.refl (P:=P) (a:=c^n)).mul z'
   rwa [gq] at this
  ·have:=(XZ hD p1 p2 z).mul (cg.refl (P:=P) (a:=c))
   rw[<-jE,show(P-1).toNat.succ=p by lia,jj] at this
   exact this
 have Cj:∀c:Int,¬(p:Int)∣c->∃u:Int,(p:Int)∣u*c-1:=λc hc=>by
  obtain⟨b,hb⟩:=hu c λz=>hc (by rw[lF,DQ,e] at z;exact z)
  exact⟨b,by rw[lF,e] at hb;exact hb⟩
 have hb:nZ P ((Op.X-1).1 a) (fV (cs++[1]) Op.X):=λn=>by rw[<-jT];exact h n
 have Hb:=F5 e ((Op.X-1).1 a)
 have H:=F5 e a
 obtain⟨N,hN⟩:=Yo Hb hp Oc hf cs hl hM hb
 have h1:=Hb.Yn (Yq e hu (by lia) hl hb) Cj hN
 have h2:nZ P a ((Op.X^(M+1)-Op.X)^cs.length*(Op.X-1)):=λn=>by rw[jT];exact h1 n
 obtain⟨S,hS⟩:=FX Op.X M
 have e1:Op.X^(M+1)-Op.X=Op.X*(Op.X^M-1):=by rw[Semiring.pow_succ];grind
 rw[e1,Cd] at h2
 have h3:nZ P a (Op.X^cs.length*(Op.X^M-1)^(cs.length+1)):=by
  refine H.of (H.mul S h2) ?_
  rw[Semiring.pow_succ,hS];grind
 have h4:nZ P a (Op.X^cs.length*(Op.X^M-1)^(p^j)):=by
  obtain⟨r,hr⟩:∃r,p^j=cs.length+1+r:=⟨p^j-(cs.length+1),by lia⟩
  rw[hr,ql]
  exact H.of (H.mul ((Op.X^M-1)^r) h3) (by grind)
 have h5:=H.N4 hp Oc (Op.X^M) 1 j
 rw[NY,<-sj] at h5
 have h6:=H.sub h4 (H.mul (Op.X^cs.length) h5)
 have h7:nZ P a (Op.X^(cs.length+M*p^j)-Op.X^cs.length):=by
  refine H.of h6 ?_
  rw[ql];grind
 intro n
 have:=h7 n
 rw[wb,qm,qm] at this
 have q:=this.add (cg.refl (P:=P) (a:=a (n+cs.length)))
 rw[show n+cs.length+M*p^j=n+(cs.length+M*p^j) by lia]
 exact(cg.of_eq (by lia)).trans (q.trans (cg.of_eq (by lia)))
end
theorem Od{P:Int}{e:Nat->Int}:∀(n i:Nat),i<=n->¬cg P (e i) 0->∃k,k<=n/\¬cg P (e k) 0/\∀j,k<j->j<=n->cg P (e j) 0
 | 0,i,h,ne=>⟨0,bA _,by rwa [show i=0 by lia] at ne,λj a b=>by lia⟩
 | n+1,i,h,ne=>by
   by_cases z:cg P (e (n+1)) 0
   ·have hi:i<=n:=by
     rcases dt i (n+1) with w | w
     ·lia
     ·exact absurd z (by rwa [show i=n+1 by lia] at ne)
    obtain⟨k,k1,k2,k3⟩:=Od n i hi ne
    refine⟨k,by lia,k2,λj a b=>?_⟩
    by_cases w:j=n+1
    ·rw[w];exact z
    ·exact k3 j a (by lia)
   ·exact⟨n+1,bA _,z,λj a b=>by lia⟩
theorem Oe{P:Int}{f:Nat->Int}{k:Nat}:∀n:Nat,k<=n->(∀j,k<=j->j<n->cg P (f j) 0)->cg P (aF f n) (aF f k)
 | 0,h,_=>cg.of_eq (by rw[show k=0 by lia])
 | n+1,h,q=>by
   by_cases e:k=n+1
   ·rw[e];exact cg.refl
   ·have h1:=(Oe n (by lia) λj a b=>q j a (by lia)).add (q n (by lia) (by lia))
    rw[Jv] at h1
    exact h1
theorem Of{P:Int}(t:List (List Int))(m:Nat)(w:Nat->Int)(v:Nat->Nat->Int)(i:Nat):∀k,cg P (ir t m (λc=>aF (λj=>w j*v j c) k) i) (aF (λj=>w j*ir t m (v j) i) k)
 | 0=>NM t m (λ_=>cg.refl) i
 | k+1=>by
   have h:=NL t m (λc=>aF (λj=>w j*v j c) k) (v k) (w k) i
   show cg P (ir t m (λc=>aF (λj=>w j*v j c) k+w k*v k c) i) (aF (λj=>w j*ir t m (v j) i) k+w k*ir t m (v k) i)
   rw[h]
   exact(Of t m w v i k).add cg.refl
section
variable {P:Int}{p m:Nat}{t:List (List Int)}{s:List Int}
theorem Ys(hD:cV P=false)(p1:3<=P)(p2:P<=9973)(ht:b0 P m t)(hs:s.length=m):∃(k:Nat) (w:Nat->Int),1<=k/\k<=m+1/\∀n i,cg P (vec (cI (ax P m t s (n+k))) i) (aF (λj=>w j*vec (cI (ax P m t s (n+j))) i) k):=by
 have hp:1<P:=by lia
 have hu:∀a:Int,¬cg P a 0->∃b:Int,cg P (b*a) 1:=λa ha=>B5 hD p1 p2 λz=>ha (by unfold cg;rw[z,pR])
 obtain⟨e,⟨i,hi,ne⟩,he⟩:=dep hu hp (m+1) λi c=>vec (cI (ax P m t s i)) c
 obtain⟨k,k1,k2,k3⟩:=Od (m+1) i hi ne
 obtain⟨b,hb⟩:=hu _ k2
 have out:∀j c,¬c<m+1->vec (cI (ax P m t s j)) c=0:=λj c hc=>by
  rw[lE (dP hp ht j),if_neg (by lia),if_neg (by lia)]
 have base:∀c,cg P (aF (λj=>e j*vec (cI (ax P m t s j)) c) (k+1)) 0:=λc=>by
  by_cases hc:c<m+1
  ·refine(Oe (m+1+1) (by lia) λj a b=>?_).symm.trans (he c hc)
   have:=(k3 j (by lia) (by lia)).mul (cg.refl (P:=P) (a:=vec (cI (ax P m t s j)) c))
   rwa [gP] at this
  ·refine cg.of_eq (mF λj _=>?_)
   rw[out j c hc,gq]
 have hk:1<=k:=by
  rcases dt 0 k with z | z
  ·exact z
  ·exfalso
   have:=base m
   rw[show k=0 by lia] at this k2
   rw[dB,LY,lE (dP hp ht 0),if_neg (dS m),if_pos rfl,iI,j8] at this
   exact k2 this
 refine⟨k,λj=>- b*e j,hk,k1,λn=>?_⟩
 induction n with
 | zero =>
   intro c
   have h1:=base c
   rw[dB] at h1
   have e1:aF (λj=>- b*e j*vec (cI (ax P m t s (0+j))) c) k = - b*aF (λj=>e j*vec (cI (ax P m t s j)) c) k:=by
    rw[<-mE]
    exact dc λj _=>by rw[gO,dN]
   rw[e1,gO]
   generalize aF (λj=>e j*vec (cI (ax P m t s j)) c) k=q at *
   generalize vec (cI (ax P m t s k)) c=y at *
   generalize e k=ek at *
   rw[lF] at *
   obtain⟨u,hu⟩:=h1
   obtain⟨v,hv⟩:=hb
   exact⟨b*u-v*y,by grind⟩
 | succ n ih =>
   intro c
   have st:∀j,ax P m t s (n+1+j)=cG P t (ax P m t s (n+j)):=λj=>by
    rw[show n+1+j=(n+j)+1 by lia,yL hp ht hs]
   have l1:=B_ (P:=P) ht (dP (s:=s) hp ht (n+k)) c
   rw[st k]
   refine l1.trans ((FQ ih c).trans ((Of t m _ _ c k).trans (cg.aF λj _=>?_)))
   rw[st j]
   exact cg.refl.mul (B_ ht (dP hp ht (n+j)) c).symm
theorem Yt(e:P=p)(hD:cV P=false)(p1:3<=P)(p2:P<=9973)(m3:m<=3)(ht:b0 P m t)(hs:s.length=m){M j:Nat}(hM:∀k,1<=k->k<=m->(p^k-1)∣M)(hj:m+1<=p^j)(n:Nat)(hn:m<=n):ax P m t s (n+M*p^j)=ax P m t s n:=by
 have hp:1<P:=by lia
 obtain⟨k,w,k1,k2,hw⟩:=Ys (s:=s) hD p1 p2 ht hs
 refine Fi (by lia) (dP hp ht _) (dP hp ht _) (qk (by lia) _) (qk (by lia) _) λc=>?_
 by_cases hc:c<m
 ·have av:∀j,vec (cI (ax P m t s j)) c=vec (ax P m t s j) c:=λj=>by rw[lE (dP hp ht j),if_pos hc]
  have am:∀j,vec (cI (ax P m t s j)) m=1:=λj=>by rw[lE (dP hp ht j),if_neg (dS m),if_pos rfl]
  have r1:∀n,cg P (vec (ax P m t s (n+k)) c) (aF (λj=>w j*vec (ax P m t s (n+j)) c) k):=λn=>by
   have:=hw n c
   rw[av] at this
   exact this.trans (cg.of_eq (dc λj _=>by rw[av]))
  have r2:cg P 1 (aF w k):=by
   have:=hw 0 m
   rw[am] at this
   exact this.trans (cg.of_eq (dc λj _=>by rw[am,j8]))
  generalize ha:(λn=>vec (ax P m t s n) c)=a at *
  have ea:∀n,vec (ax P m t s n) c=a n:=λn=>by rw[<-ha]
  simp only[ea] at r1 ⊢
  have fin:∀cs:List Int,cs.length=k-1->nZ P a (fV (cs++[1]) Op.X*(Op.X-1))->cg P (a (n+M*p^j)) (a n):=λcs hl hk=>by
   have:=Yr e hD p1 p2 (by lia) hk (M:=M) (j:=j) (λi i1 i2=>hM i i1 (by lia)) (by lia) (n-cs.length)
   rw[show n-cs.length+cs.length=n by lia] at this
   exact this
  have kc:k=1∨k=2∨k=3∨k=4:=by lia
  rcases kc with rfl | rfl | rfl | rfl
  ·refine fin [] rfl λn=>?_
   have h1:=r1 n
   rw[show([]:List Int)++[1]=[1] from rfl,FY,jT,sq,wb,mM,sq]
   simp only[aF,iI,oO] at h1 r2
   rw[lF] at *
   obtain⟨x,hx⟩:=h1
   obtain⟨y,hy⟩:=r2
   exact⟨x-y*a n,by grind⟩
  ·refine fin [w 0] rfl λn=>?_
   have h1:=r1 n
   rw[show[w 0]++[1]=[w 0,1] from rfl,FZ,jT,kC,mL,mM,wb,wb,mM,mM,sq,sq]
   simp only[aF,iI,oO] at h1 r2
   rw[lF] at *
   obtain⟨x,hx⟩:=h1
   obtain⟨y,hy⟩:=r2
   exact⟨x-y*a (n+1),by grind⟩
  ·refine fin [w 0,w 0+w 1] rfl λn=>?_
   have h1:=r1 n
   rw[show[w 0,w 0+w 1]++[1]=[w 0,w 0+w 1,1] from rfl,F0,jT,kC,kC,mL,jT,mL,mM,qm]
   simp only[wb,mM,sq]
   simp only[aF,iI,oO] at h1 r2
   rw[lF] at *
   obtain⟨x,hx⟩:=h1
   obtain⟨y,hy⟩:=r2
   exact⟨x-y*a (n+2),by grind⟩
  ·refine fin [w 0,w 0+w 1,w 0+w 1+w 2] rfl λn=>?_
   have h1:=r1 n
   rw[show[w 0,w 0+w 1,w 0+w 1+w 2]++[1]=[w 0,w 0+w 1,w 0+w 1+w 2,1] from rfl,F4,jT,kC,kC,kC,mL,jT,mL,mM,jT,mL,qm,qm]
   simp only[wb,mM,sq]
   simp only[aF,iI,oO] at h1 r2
   rw[lF] at *
   obtain⟨x,hx⟩:=h1
   obtain⟨y,hy⟩:=r2
   exact⟨x-y*a (n+3),by grind⟩
 ·have:∀j,vec (ax P m t s j) c=0:=λj=>by
   unfold vec
   rw[eY (by rw[dP hp ht];lia)];rfl
  rw[this,this];exact cg.refl
end
end L3
namespace L3
open PySem
noncomputable section
def Og:G->R Fl :=
 (aG (df (gT (au dJ (au dn (gV 0) (gV 1)) (gC (.int 0)))) (aV 0 (aL (au gu (gV 0) (gV 1)))) 100)
 (bu (gV 0)))
def F6:List D->R D:=b6 2 2 Og
def Oh:G->R Fl :=
 (aG (c6 1 (gS aB))
 (aG (df (gT (au rR (gV 0) (gC (.int 1)))) (aG (gd 1 (aL (aI B4 (ai (gV 0) aB))))
 (aV 0 (aL (aI F6 (ai (gV 0) (ai (au aX (gV 1) (tD (gC (.int 1)))) aB)))))) 100)
 (pb 1)))
def F8:List D->R (List D):=jq 1 2 Oh
def Oi:G->R Fl :=
 (aG (fL 4 (my (gL (gU BJ (ai (gV 1) (ai (gV 2) aB)))))
 (aV 3 (aL (aI kz (ai (gV 0) (ai (gV 4) (ai (gV 3) aB)))))))
 (bu (gV 3)))
def sr:List D->R D:=b6 4 5 Oi
def Oj:G->R Fl :=
 (aG (c6 2 (gS (ai (au ig (gV 0) (gC (.int 1))) aB)))
 (aG (aV 3 (aL (gC (.int 1))))
 (aG (fL 4 (jN (gV 1))
 (aG (gd 2 (aL (gV 3)))
 (aV 3 (aL (au cz (au dX (gV 3) (gV 0)) (gC (.int 1)))))))
 (aG (aV 5 (aL (gC (.int 1))))
 (aG (df (gT (au mq (gV 5) (au cz (gV 1) (gC (.int 1))))) (aG (gd 2 (aL (gV 0)))
 (aV 5 (aL (au dX (gV 5) (gV 0))))) 10)
 (pb 2))))))
def Ck:List D->R (List D):=jq 2 6 Oj
def Ol:G->R Fl :=
 (aG (c6 1 (gS aB))
 (aG (fL 2 (my (dF 0))
 (tJ 1 (gU F8 (ai (gV 2) aB))))
 (qc (Bz (gV 1)))))
def F9:List D->R (List D):=jq 1 3 Ol
def Om:G->R Fl :=
 (aG (aV 1 (aL (gC (.int 1))))
 (aG (fL 2 (my (dF 0))
 (aV 1 (aL (au y4v (gV 1) (gV 2)))))
 (bu (gV 1))))
def F_:List D->R D:=b6 1 3 Om
def Ga:G->R Fl :=
 (aG (fL 5 (my (dF 3))
 (df (mi (gT (au dJ (au dn (gV 2) (gV 5)) (gC (.int 0)))) (gT (au dJ (aI sr (ai (gV 0) (ai (gV 1) (ai (au gu (gV 2) (gV 5)) (ai (gV 4) aB))))) (gV 4)))) (aV 2 (aL (au gu (gV 2) (gV 5)))) 200))
 (bu (gV 2)))
def Gb:List D->R D:=b6 5 6 Ga
def Gd:G->R Fl :=
 (aG (aV 4 (aL (gC (.int 0))))
 (aG (df (gT (au ij (aI sr (ai (gV 0) (ai (gV 1) (ai (gV 2) (ai (gV 3) aB))))) (gV 3))) (aG (aV 3 (aL (aI kz (ai (gV 0) (ai (au aX (gV 1) (gC (.int 0))) (ai (gV 3) aB))))))
 (aV 4 (aL (au cz (gV 4) (gC (.int 1)))))) 10)
 (bu (gV 4))))
def Ge:List D->R D:=b6 4 5 Gd
def Oo:G->R Fl :=
 (aG (aV 3 (aL (aI i7 (ai (gV 1) aB))))
 (aG (c6 4 (gU Ck (ai (gV 0) (ai (gV 3) aB))))
 (aG (aV 5 (aL (aI F_ (ai (gV 4) aB))))
 (aG (c6 6 (gU F9 (ai (gV 4) aB)))
 (aG (c6 7 (gU BI (ai (gV 0) (ai (gV 1) (ai (gV 5) aB)))))
 (aG (aV 8 (aL (aI Gb (ai (gV 0) (ai (gV 7) (ai (gV 5) (ai (gV 6) (ai (aI sr (ai (gV 0) (ai (gV 7) (ai (gV 3) (ai (gV 2) aB))))) aB))))))))
 (bu (dW (ai (aI Ge (ai (gV 0) (ai (gV 7) (ai (gV 8) (ai (gV 2) aB))))) (ai (gV 8) (ai (gL (dM (kY (gV 6)) (pa (gT (au dJ (au dn (gV 9) (gV 0)) (gC (.int 0)))) (aL (gV 0))))) aB)))))))))))
def Cm:List D->R D:=b6 3 9 Oo
end
noncomputable section
def Oq:G->R Fl :=
 (aG (aV 2 (aL (au cz (gC (.int 3)) (au dn (gV 0) (au aX (gL (gS (Ez [9971,95,17]))) (au ig (gV 1) (gC (.int 1))))))))
 (aG (df (gT (aI p_ (ai (gL (dM (yb (gC (.int 2)) (gC (.int 100))) (pa (gT (au mq (gV 0) (gV 3))) (aL (au dJ (au dn (gV 3) (gV 0)) (gC (.int 0))))))) aB))) (aV 2 (aL (au cz (gV 2) (gC (.int 1))))) 10000)
 (bu (gV 2))))
def Cn:List D->R D:=b6 2 3 Oq
def Ot:G->R Fl :=
 (aG (c6 4 (gS aB))
 (aG (fL 5 (jN (gV 3))
 (aG (gd 4 (aL (gV 2)))
 (aV 2 (aL (aI kz (ai (gV 0) (ai (gV 1) (ai (gV 2) aB))))))))
 (pb 4)))
def yP:List D->R (List D):=jq 4 6 Ot
def Ou:G->R Fl :=
 (aG (aV 5 (aL (aI vP (ai (gV 0) (ai (gV 1) (ai (gV 2) aB))))))
 (qc (gU yP (ai (gV 0) (ai (gV 5) (ai (aI kz (ai (gV 0) (ai (gV 5) (ai (gV 4) aB)))) (ai (au gu (au ig (au cz (gV 3) (gV 2)) (gC (.int 1))) (gV 2)) aB)))))))
def Gf:List D->R (List D):=jq 5 6 Ou
def Ov:G->R Fl :=
 (aG (aV 1 (aL (gC (.int 0))))
 (aG (df (gT (au mq (au dX (gV 1) (gV 1)) (gV 0))) (aV 1 (aL (au cz (gV 1) (gC (.int 1))))) 200)
 (bu (gV 1))))
def Gg:List D->R D:=b6 1 2 Ov
def Ow:G->R Fl :=
 (aG (aV 6 (aL (aI Gg (ai (gV 3) aB))))
 (aG (c6 7 (gU yP (ai (gV 0) (ai (gV 1) (ai (gV 5) (ai (gV 6) aB))))))
 (aG (c6 8 (gU Gf (ai (gV 0) (ai (gV 1) (ai (gV 6) (ai (gV 3) (ai (gV 4) aB)))))))
 (aG (yf 8 (vG 9 10 (y8z (dF 8))
 (cF (gT (au kx (gV 10) (gV 7))) (bu (dW (ai (gC (.str "after")) (ai (au ig (au cz (gV 2) (au dX (gV 9) (gV 6))) (z9k (gV 7) (gV 10))) aB)))) c5)))
 (bu (dW (ai (gC (.str "apart")) (ai (gV 2) (ai (gV 3) (ai (gV 7) (ai (gV 8) aB)))))))))))
def yQ:List D->R D:=b6 6 11 Ow
def Ox:G->R Fl :=
 (aG (aV 5 (aL (aI (lx 12) (ai (gV 0) (ai (gV 1) (ai (gV 2) aB))))))
 (aG (aV 6 (z8a Cm (ai (dF 0) (ai (dF 5) (ai (dF 3) aB)))))
 (aG (aV 7 (aL (au aX (gV 6) (gC (.int 0)))))
 (aG (aV 8 (aL (au aX (gV 6) (gC (.int 1)))))
 (aG (cF (gT (au rR (gV 8) (gC (.int 10000)))) (Bw .tooLong) c5)
 (aG (c6 9 (gU yP (ai (gV 0) (ai (gV 5) (ai (gV 3) (ai (au cz (gV 7) (gC (.int 1))) aB))))))
 (aG (cF (gT (au kx (gV 4) (gV 9))) (bu (dW (ai (gC (.str "after")) (ai (z9k (gV 9) (gV 4)) aB)))) c5)
 (aG (cF (gT (au ij (aI kz (ai (gV 0) (ai (aI vP (ai (gV 0) (ai (gV 5) (ai (gV 8) aB)))) (ai (gV 4) aB)))) (gV 4))) (bu (dW (ai (gC (.str "off")) (ai (gV 7) (ai (gV 8) aB))))) c5)
 (bu (z8a yQ (ai (dF 0) (ai (dF 5) (ai (dF 7) (ai (dF 8) (ai (aL (au aX (gV 9) (gV 7))) (ai (dF 4) aB))))))))))))))))
def yR:List D->R D:=b6 5 10 Ox
end
local macro_rules | `(tactic| walk_at "evs") => wkL " L3.z7u L3.z4j L3.s_on L3.z4s L3.z4t L3.z4u L3.z5g L3.z4h L3.z4v L3.z0n"
inductive Out (q:Int):Int->Int->Prop
 | stop {n:Int}:n%q≠0->Out q n n
 | step {n y:Int}:n%q=0->Out q (n/q) y->Out q n y
theorem yS{n q:Int}(h1:1<=n)(h2:2<=q)(h:n%q=0):n=q*(n/q)/\1<=n/q/\2*(n/q)<=n:=by
 have e1:n=q*(n/q):=by have:=DL n q;lia
 generalize n/q=x at *
 have x0:0<x:=by
  rcases DM 0 x with z | z | z
  ·exact z
  ·rw[<-z] at e1;simp at e1;lia
  ·have:q*x<0:=SA (by lia) z
   lia
 have:2*x<=q*x:=Jz h2 (by lia)
 exact⟨e1,by lia,by lia⟩
theorem Oy{q:Int}(h2:2<=q):∀(m:Nat) (n:Int),1<=n->n<(m:Int)->∃y,Out q n y
 | 0,n,h1,h=>by lia
 | m+1,n,h1,h=>by
   by_cases z:n%q=0
   ·obtain⟨_,x1,x2⟩:=yS h1 h2 z
    obtain⟨y,hy⟩:=Oy h2 m (n/q) x1 (by lia)
    exact⟨y,.step z hy⟩
   ·exact⟨n,.stop z⟩
theorem Out.facts{q n y:Int}(h:Out q n y):1<=n->2<=q->1<=y/\y<=n/\y%q≠0/\∀e:Int,y%e=0->n%e=0:=by
 induction h with
 | stop z=>exact λh1 h2=>⟨h1,AG _,z,λe he=>he⟩
 | step z _ ih =>
   intro h1 h2
   obtain⟨e1,x1,x2⟩:=yS h1 h2 z
   obtain⟨a,b,c,d⟩:=ih x1 h2
   refine⟨a,by lia,c,λe he=>?_⟩
   have:=d e he
   rw[e1]
   exact xl (a6w (u0 this))
theorem Out.less{q n y:Int}(h:Out q n y)(h1:1<=n)(h2:2<=q)(hz:n%q=0):2*y<=n:=by
 cases h with
 | stop z=>exact absurd hz z
 | step z h =>
   obtain⟨_,x1,x2⟩:=yS h1 h2 z
   have:=(h.facts x1 h2).2.1
   lia
theorem Oz{n x:Int}{m:Nat}(h:n<2^m)(h1:1<=x)(hx:2*x<=n):∃k,m=k+1/\x<2^k:=by
 cases m with
 | zero=>rw[xk] at h;lia
 | succ k=>rw[jE] at h;exact⟨k,rfl,by lia⟩
theorem Yu{q y:Int}(h2:2<=q)(hq:q<=100000000){gc:G->R Bool}{gb:G->R Fl}{Γx:Int->G}(hc:∀x,gc (Γx x) = .ok (x%q==0))(hb:∀x,gb (Γx x) = .ok (.nx (Γx (x/q)))) :
 ∀(k m:Nat) (n:Int),m<k->1<=n->n<2^m->Out q n y->df gc gb k (Γx n) = .ok (.nx (Γx y)):=by
 intro k m n hk h1 hm ho
 refine nK (λm Γ=>∃x,Γ=Γx x/\1<=x/\x<2^m/\Out q x y) (λr=>r = .ok (.nx (Γx y))) ?_ k m (Γx n) hk ⟨n,rfl,h1,hm,ho⟩
 rintro m Γ ⟨x,rfl,x1,xm,xo⟩
 cases xo with
 | stop z=>exact .inl ⟨by rw[hc];simp[z],rfl⟩
 | step z h =>
   obtain⟨_,y1,y2⟩:=yS x1 h2 z
   obtain⟨m',rfl,sg⟩:=Oz xm y1 y2
   exact .inr ⟨by rw[hc];simp[z],.inl ⟨_,m',by lia,.inl (hb x),_,rfl,y1,sg,h⟩⟩
theorem Yv{n q y:Int}(h1:1<=n)(hn:n<2^60)(h2:2<=q)(hq:q<=100000000)(ho:Out q n y):F6 [.int n,.int q] = .ok (.int y):=by
 refine cH rfl ?_
 delta Og
 refine eG (Γ':=[.ro (.int y),.ro (.int q)]) ?_ (cv (by walk_at "evs"))
 exact Yu (Γx:=λx=>[.ro (.int x),.ro (.int q)]) h2 hq (λx=>by walk_at "evs") (λx=>gW (by walk_at "evs")) 100 60 n (by lia) h1 hn ho
inductive iR:Int->Int->List Int->Prop
 | one {l:Int}:iR 1 l []
 | more {n l q y:Int} {qs:List Int}:2<=n->l<q->i8 n q->Out q n y->iR y q qs->iR n l (q::qs)
theorem Gh:∀(m:Nat) (n l:Int),1<=n->n<(m:Int)->(∀e:Int,2<=e->n%e=0->l<e)->∃qs,iR n l qs
 | 0,n,l,h1,h,_=>by lia
 | m+1,n,l,h1,h,hl=>by
   by_cases z:n=1
   ·subst z;exact⟨[],.one⟩
   ·obtain⟨q,hq⟩:∃q,i8 n q:=by
     have H:∀(k:Nat),(k:Int)+2<=n->(∃q,i8 n q)∨∀e:Int,2<=e->e<(k:Int)+2->n%e≠0:=by
      intro k
      induction k with
      | zero=>intro _;exact .inr λe a b=>by lia
      | succ k ih =>
        intro hk
        rcases ih (by lia) with w | w
        ·exact .inl w
        ·by_cases hz:n%((k:Int)+2)=0
         ·exact .inl ⟨(k:Int)+2,.inr ⟨by lia,by lia,hz,w⟩⟩
         ·refine .inr λe a b=>?_
          by_cases he:e=(k:Int)+2
          ·rw[he];exact hz
          ·exact w e a (by lia)
     obtain⟨k,hk⟩:=sV (show 0<=n-2 by lia)
     rcases H k (by lia) with w | w
     ·exact w
     ·exact⟨n,.inr ⟨by lia,by lia,Int.emod_self,λe a b=>w e a (by lia)⟩⟩
    rcases hq with ⟨w,_⟩ | ⟨q1,q2,q3,q4⟩
    ·exact absurd w z
    obtain⟨y,hy⟩:=Oy q1 (m+1) n h1 h
    obtain⟨y1,y2,y3,y4⟩:=hy.facts h1 q1
    have bO:=hy.less h1 q1 q3
    obtain⟨qs,Gi⟩:=Gh m y q y1 (by lia) (λe e1 e2=>by
     have e3:=y4 e e2
     rcases DM e q with w | w | w
     ·exact absurd e3 (q4 e e1 w)
     ·rw[w] at e2;exact absurd e2 y3
     ·exact w)
    exact⟨q::qs,.more (by lia) (hl q q1 q3) (.inr ⟨q1,q2,q3,q4⟩) hy Gi⟩
theorem iR.len{n l:Int}{qs:List Int}(h:iR n l qs):∀m:Nat,n<2^m->qs.length<=m:=by
 induction h with
 | one=>intro m _;exact ji m
 | more h2 _ hq ho _ ih =>
   intro m hm
   rcases hq with ⟨w,_⟩ | ⟨q1,q2,q3,q4⟩
   ·lia
   obtain⟨y1,_⟩:=ho.facts (by lia) q1
   obtain⟨k,rfl,hk⟩:=Oz hm y1 (ho.less (by lia) q1 q3)
   have:=ih k hk
   rw[dE];lia
theorem i8.two{n q:Int}(h:i8 n q)(hn:2<=n):2<=q/\q<=n/\n%q=0/\∀e:Int,2<=e->e<q->n%e≠0:=by
 rcases h with ⟨w,_⟩ | h
 ·lia
 ·exact h
theorem i8.uniq{n a b:Int}(ha:i8 n a)(hb:i8 n b):a=b:=by
 rcases ha with ⟨w,v⟩ | ⟨a1,a2,a3,a4⟩
 ·rcases hb with ⟨_,v'⟩ | ⟨b1,b2,b3,b4⟩
  ·lia
  ·lia
 ·rcases hb with ⟨w,_⟩ | ⟨b1,b2,b3,b4⟩
  ·lia
  ·rcases DM a b with z | z | z
   ·exact absurd a3 (b4 a a1 z)
   ·exact z
   ·exact absurd b3 (a4 b b1 z)
theorem Yw{n q:Int}(h1:1<=n)(h2:n<=100000000)(h:i8 n q):B4 [.int n] = .ok (.int q):=by
 obtain⟨q',h',e⟩:=XX h1 h2
 rw[e,h'.uniq h]
theorem Yx(l:List D)(d:D):cu (l++[d]) (-1)=some d:=by
 rw[LD (by lia) (by rw[hU];simp;lia)]
 rw[show((-1:Int)+((l++[d]).length:Nat)).toNat=l.length by rw[hU];simp;lia]
 simp
theorem yT{n:Int}{qs:List Int}(h1:1<=n)(h2:n<=100000000)(hf:iR n 1 qs):F8 [.int n] = .ok (qs.map D.int):=by
 refine ph rfl ?_
 delta Oh
 refine fy (ds:=[]) (by walk_at "evs") ?_
 refine eG (Γ':=[.ro (.int 1),.own (qs.map D.int)]) ?_ rfl
 have hl:=hf.len 27 (by lia)
 refine nK (λm Γ=>∃x l acc rest,Γ=[.ro (.int x),.own (acc.map D.int)]/\1<=x/\x<=100000000/\iR x l rest/\acc++rest=qs/\rest.length=m) (λr=>r = .ok (.nx [.ro (.int 1),.own (qs.map D.int)])) ?_ 100 qs.length _ (by lia) ⟨n,1,[],qs,rfl,h1,h2,hf,rfl,rfl⟩
 rintro m Γ ⟨x,l,acc,rest,rfl,x1,x2,xf,rfl,rfl⟩
 have mO:acc.length<=27:=by rw[hU] at hl;lia
 cases xf with
 | one =>
   refine .inl ⟨by walk_at "evs";rfl,by rw[oJ]⟩
 | more z lt hq ho hr =>
   rename_i q y OA
   obtain⟨q1,q2,q3,q4⟩:=hq.two z
   obtain⟨y1,y2,y3,y4⟩:=ho.facts x1 q1
   have ed:=Yw x1 x2 hq
   have ew:=Yv x1 (by lia) q1 (by lia) ho
   have e1:decide (x>1)=true:=decide_eq_true (by lia)
   refine .inr ⟨by walk_at "evs";rw[e1],.inl ⟨[.ro (.int y),.own ((acc++[q]).map D.int)],OA.length,by rw[dE];lia,.inl ?_,y,q,acc++[q],OA,rfl,y1,by lia,hr,by rw[AA];rfl,rfl⟩⟩
   refine eG (tL (d:=.int q) rfl (by walk_at "evs";simp only[ed];walk_at "evs") (by rw[bD];lia)) ?_
   show aV 0 _ [.ro (.int x),.own (acc.map D.int++[.int q])]=_
   rw[hV]
   refine gW (d:=.int y) ?_
   have el:=Yx (acc.map D.int) (.int q)
   walk_at "evs"
   simp only[el]
   walk_at "evs"
   simp only[ew]
   walk_at "evs"
theorem i8.prime{n q:Int}(h:i8 n q)(hn:2<=n):∀e:Int,2<=e->e<q->q%e≠0:=λe e1 e2 z=>by
 obtain⟨q1,q2,q3,q4⟩:=h.two hn
 refine q4 e e1 e2 (xl (Int.dvd_trans (u0 z) (u0 q3)))
def lG(q:Int):Prop:=2<=q/\∀e:Int,2<=e->e<q->q%e≠0
theorem OB{q a b:Int}(hq:lG q)(h:q∣a*b):q∣a∨q∣b:=by
 by_cases ha:q∣a
 ·exact .inl ha
 refine .inr ?_
 have h1:q.natAbs∣a.natAbs*b.natAbs:=by rw[<-Int.natAbs_mul];exact Int.natAbs_dvd_natAbs.mpr h
 refine Int.natAbs_dvd_natAbs.mp (a6s ?_ h1)
 show uZ q.natAbs a.natAbs=1
 have g1:=SF q.natAbs a.natAbs
 have g2:=SG q.natAbs a.natAbs
 have q2:=hq.1
 have g3:=AO (by lia) g1
 have g0:uZ q.natAbs a.natAbs≠0:=λz=>by have:=(Nat.gcd_eq_zero_iff.mp z).1;lia
 generalize uZ q.natAbs a.natAbs=g at *
 by_cases w:g=q.natAbs
 ·rw[w] at g2
  exact absurd (Int.natAbs_dvd_natAbs.mp g2) ha
 by_cases w2:2<=g
 ·refine absurd (xl ?_) (hq.2 g (by lia) (by lia))
  have:(g:Int)∣(q.natAbs:Int):=Int.natCast_dvd_natCast.mpr g1
  rwa [show(q.natAbs:Int)=q by lia] at this
 ·lia
theorem Yy{p q:Int}(hp:lG p)(hq:lG q)(h:p∣q):p=q:=by
 have h1:=JG (by have:=hq.1;lia) h
 by_cases e:p=q
 ·exact e
 ·exact absurd (xl h) (hq.2 p hp.1 (by lia))
theorem Out.other{q n y p:Int}(h:Out q n y)(hq:lG q)(hp:lG p)(ne:p≠q):p∣n->p∣y:=by
 induction h with
 | stop _=>exact id
 | @step n y z _ ih =>
   intro hd
   have e1:n=q*(n/q):=by have:=DL n q;lia
   rw[e1] at hd
   rcases OB hp hd with w | w
   ·exact absurd (Yy hp hq w) ne
   ·exact ih w
theorem iR.prime{n l:Int}{qs:List Int}(h:iR n l qs):∀q∈qs,lG q/\q∣n/\q<=n:=by
 induction h with
 | one=>intro q hq;simp at hq
 | @more n l q y qs h2 _ hl ho _ ih =>
   obtain⟨q1,q2,q3,q4⟩:=hl.two h2
   obtain⟨y1,y2,y3,y4⟩:=ho.facts (by lia) q1
   intro p hp
   rcases List.mem_cons.mp hp with e | e
   ·rw[e];exact⟨⟨q1,hl.prime h2⟩,u0 q3,q2⟩
   ·obtain⟨a,b,c⟩:=ih p e
    exact⟨a,u0 (y4 p (xl b)),by lia⟩
theorem iR.mem{n l:Int}{qs:List Int}(h:iR n l qs):∀q,lG q->q∣n->q∈qs:=by
 induction h with
 | one =>
   intro q hq hd
   have:=JG (by lia) hd
   have:=hq.1
   lia
 | @more n l q y qs h2 _ hl ho _ ih =>
   obtain⟨q1,q2,q3,q4⟩:=hl.two h2
   intro p hp hd
   by_cases e:p=q
   ·rw[e];exact bV
   ·exact bY _ (ih p hp (ho.other ⟨q1,hl.prime h2⟩ hp e hd))
theorem Yz{n:Int}(h:2<=n):∃q,lG q/\q∣n:=by
 obtain⟨qs,hf⟩:=Gh (n.toNat+1) n 1 (by lia) (by lia) (λe a b=>by lia)
 cases hf with
 | one=>lia
 | @more _ _ q y qs h2 _ hl _ _ =>
   obtain⟨q1,q2,q3,q4⟩:=hl.two h2
   exact⟨q,⟨q1,hl.prime h2⟩,u0 q3⟩
def iu(l:Int):Nat->Int
 | 0=>1
 | k+1=>(l+1)*iu (l+1) k
theorem Gj:∀(k:Nat) {l:Int},0<=l->1<=iu l k
 | 0,l,_=>AG 1
 | k+1,l,h=>by
   have:=Gj k (l:=l+1) (by lia)
   have h2:1*1<=(l+1)*iu (l+1) k:=jD (by lia) this (by lia) (by lia)
   rw[iu];lia
theorem OC:∀(k:Nat) {l l':Int},0<=l->l<=l'->iu l k<=iu l' k
 | 0,_,_,_,_=>AG 1
 | k+1,l,l',h,h'=>by
   have:=Gj k (l:=l+1) (by lia)
   exact jD (by lia) (OC k (by lia) (by lia)) (by lia) (by lia)
theorem OD:∀(k:Nat) {l:Int},0<=l->iu l k<=iu l (k+1)
 | 0,l,h=>by rw[iu,iu,iu];lia
 | k+1,l,h=>by
   rw[iu,iu]
   exact SI (OD k (by lia)) (by lia)
theorem Out.YA{q n y:Int}(h:Out q n y)(h1:1<=n)(h2:2<=q)(hz:n%q=0):q*y<=n:=by
 cases h with
 | stop z=>exact absurd hz z
 | step z h =>
   obtain⟨e,x1,x2⟩:=yS h1 h2 z
   have:=(h.facts x1 h2).2.1
   have:=SI this (show 0<=q by lia)
   lia
theorem iR.rise{n l:Int}{qs:List Int}(h:iR n l qs):1<=l->iu l qs.length<=n:=by
 induction h with
 | one=>intro _;exact AG 1
 | @more n l q y qs h2 lt hl ho hf ih =>
   intro l1
   obtain⟨q1,q2,q3,q4⟩:=hl.two h2
   have h3:=ho.YA (by lia) q1 q3
   have h4:=ih (by lia)
   have h5:=OC qs.length (l:=l+1) (l':=q) (by lia) (by lia)
   have h6:=Gj qs.length (l:=l+1) (by lia)
   rw[dE,iu]
   have:(l+1)*iu (l+1) qs.length<=q*y:=jD (by lia) (by lia) (by lia) (by lia)
   lia
theorem iR.few{n:Int}{qs:List Int}(h:iR n 1 qs)(hn:n<=100000000):qs.length<=10:=by
 rcases dt 10 qs.length with z | z
 ·exfalso
  have h1:=h.rise (by lia)
  have h2:∀k,iu 1 11<=iu 1 (11+k):=by
   intro k
   induction k with
   | zero=>exact AG _
   | succ k ih=>exact xp ih (OD (11+k) (by lia))
  have h3:=h2 (qs.length-11)
  rw[show 11+(qs.length-11)=qs.length by lia] at h3
  have h4:iu 1 11=479001600:=by decide
  lia
 ·exact z
structure qo (p:Nat->Prop):Prop where
 zero:p 0
 add:∀{a b:Nat},p a->p b->p (a+b)
 sub:∀{a b:Nat},p a->p b->b<=a->p (a-b)
theorem qo.mul{p:Nat->Prop}(H:qo p){a:Nat}(h:p a):∀k,p (a*k)
 | 0=>H.zero
 | k+1=>H.add (H.mul h k) h
theorem qo.mod{p:Nat->Prop}(H:qo p){a b:Nat}(ha:p a)(hb:p b):p (a%b):=by
 have e:a%b=a-b*(a/b):=by have:=JF a b;lia
 rw[e]
 exact H.sub ha (H.mul hb _) (Nat.mul_div_le a b)
theorem qo.gcd{p:Nat->Prop}(H:qo p):∀(a b:Nat),p a->p b->p (uZ a b):=by
 intro a b
 induction a,b using Nat.gcd.induction with
 | H0 n=>intro _ h;rw[Nat.gcd_zero_left];exact h
 | H1 m n _ ih=>intro h1 h2;rw[Nat.gcd_rec];exact ih (H.mod h2 h1) h1
theorem qo.least{p:Nat->Prop}(H:qo p){r:Nat}(h1:1<=r)(pr:p r)(hq:∀q:Nat,lG q->q∣r->¬p (r/q)){k:Nat}(hk:p k):r∣k:=by
 have hg:=H.gcd r k pr hk
 have g1:=SF r k
 have g2:=SG r k
 generalize uZ r k=g at *
 by_cases e:g=r
 ·rw[<-e];exact g2
 obtain⟨c,rfl⟩:=g1
 have c1:c≠1:=λz=>e (by rw[z,JH])
 have c0:c≠0:=λz=>by rw[z,SD] at h1;lia
 obtain⟨q,q1,q2⟩:=Yz (n:=(c:Int)) (by lia)
 obtain⟨q',rfl⟩:=sV (show 0<=q by have:=q1.1;lia)
 have q3:q'∣c:=Int.natCast_dvd_natCast.mp q2
 obtain⟨b,rfl⟩:=q3
 have q0:0<q':=by have:=q1.1;lia
 refine absurd (H.mul hg b) ?_
 have e2:g*(q'*b)/q'=g*b:=by rw[show g*(q'*b)=q'*(g*b) by rw[JI],JJ _ q0]
 rw[<-e2]
 exact hq q' q1 ⟨g*b,JI _ _ _⟩
end L3
namespace L3
open PySem
local macro_rules | `(tactic| walk_at "evs") => wkL " L3.z7u L3.z4j L3.s_on L3.z4s L3.z4t L3.z4u L3.z5g L3.z4h L3.z4v L3.z0n L3.z6e L3.y4v L3.y4u L3.y7e L3.Item.d L3.Item.ds_map L3.z8u L3.y5e L3.y5f L3.y1z L3.z7y L3.z6d L3.gZip L3.y4d L3.y0w L3.z8z L3.y8x L3.z8d L3.y7d L3.D.isNon L3.z8a"
section
variable {P:Int}{m:Nat}{t:List (List Int)}{s:List Int}
theorem eM(hp:1<P)(ht:b0 P m t)(hs:s.length=m)(a b:Nat):ax P m t (ax P m t s a) b=ax P m t s (a+b):=(WZ hp ht hs a b).symm
theorem Gk(hp:1<P)(ht:b0 P m t)(hs:s.length=m)(so:bX P s):qo λk=>ax P m t s k=s where
 zero:=v8 hs so
 add {a b} h1 h2:=by rw[<-eM hp ht hs,h1,h2]
 sub {a b} h1 h2 hb:=by
  have:=eM hp ht hs b (a-b)
  rw[h2,show b+(a-b)=a by lia,h1] at this
  exact this
theorem ue{k n:Nat}(p1:3<=P)(p2:P<=9973)(hm:m<=3)(ht:b0 P m t)(hs:s.length=m)(so:bX P s)(hk:k<=150)(hn:n<2^k):sr [.int P,.lst ((cL P m t k).map aR),.int n,ao s] = .ok (ao (ax P m t s n)):=by
 refine cH rfl ?_
 delta Oi
 have hp:1<P:=by lia
 have er:=vR (P:=P) (m:=m) (n:=n) (k:=k) (t:=t) (by lia)
 have nt:=vO (cL P m t k)
 have W5:D.bQ ((e_ n k).map λj=>aR (bJ P m t (2^j)))=true:=vt λj _=>nO _
 refine rX (ds:=(e_ n k).map λj=>aR (bJ P m t (2^j))) (λi Γ=>∃x4,Γ=[.ro (.int P),.ro (.lst ((cL P m t k).map aR)),.ro (.int n),.ro (ao (ax P m t s (gX ((e_ n k).take i)))),x4]) ?_ ⟨_,by rw[SJ,gX,v8 hs so];rfl⟩ ?_ ?_
 ·walk_at "evs"
  simp only[er]
  walk_at "evs"
 ·rintro i d Γ hd ⟨x4,rfl⟩
  obtain⟨j,hj,rfl⟩:=MP hd
  have et:=pz (P:=P) (ts:=bJ P m t (2^j)) (ss:=ax P m t s (gX ((e_ n k).take i))) (by lia) (by lia) (by rw[dP hp ht];exact iO hp ht _) (by rw[dP hp ht];lia)
  have e2:cG P (bJ P m t (2^j)) (ax P m t s (gX ((e_ n k).take i)))=ax P m t s (gX ((e_ n k).take (i+1))):=by
   rw[MQ hj,<-eM hp ht hs];rfl
  rw[e2] at et
  refine .nx (gW (d:=ao (ax P m t s (gX ((e_ n k).take (i+1))))) ?_) ⟨_,rfl⟩
  have nr:=z0n (ax P m t s (gX ((e_ n k).take (i+1))))
  simp only[aR,ao] at et nr ⊢
  walk_at "evs"
  simp only[et]
  walk_at "evs"
 ·rintro Γ ⟨x4,rfl⟩
  refine cv ?_
  rw[bD,xc,Ff,a6e hn]
  walk_at "evs"
theorem YB{k W:Nat}(p1:3<=P)(p2:P<=9973)(hm:m<=3)(ht:b0 P m t)(hs:s.length=m)(so:bX P s)(hk:k<=150)(hW:W<2^k){L:List Int}{q:Nat}(q1:2<=q)(q2:q<=100000000){pre:List Int}{n:Nat}(n1:1<=n)(nW:n<=W)(pn:ax P m t s n=s)(vp:∀q':Nat,(q':Int)∈pre->q'∣n->¬ax P m t s (n/q')=s) :
 ∃n',1<=n'/\n'<=n/\n'∣n/\ax P m t s n'=s/\(∀q':Nat,(q':Int)∈(q:Int)::pre->q'∣n'->¬ax P m t s (n'/q')=s) /\
  df (mi (gT (au dJ (au dn (gV 2) (gV 5)) (gC (.int 0)))) (gT (au dJ (aI sr (ai (gV 0) (ai (gV 1) (ai (au gu (gV 2) (gV 5)) (ai (gV 4) aB))))) (gV 4)))) (aV 2 (aL (au gu (gV 2) (gV 5)))) 200 [.ro (.int P),.ro (.lst ((cL P m t k).map aR)),.ro (.int n),.ro (.lst (L.map D.int)),.ro (ao s),.ro (.int q)] = .ok (.nx [.ro (.int P),.ro (.lst ((cL P m t k).map aR)),.ro (.int n'),.ro (.lst (L.map D.int)),.ro (ao s),.ro (.int q)]):=by
 have hp:1<P:=by lia
 have H:=Gk hp ht hs so
 refine nK (λz Γ=>∃x:Nat,Γ=[.ro (.int P),.ro (.lst ((cL P m t k).map aR)),.ro (.int x),.ro (.lst (L.map D.int)),.ro (ao s),.ro (.int q)]/\1<=x/\x<=n/\x∣n/\x<2^z/\ax P m t s x=s/\∀q':Nat,(q':Int)∈pre->q'∣x->¬ax P m t s (x/q')=s)
  (λr=>∃n',1<=n'/\n'<=n/\n'∣n/\ax P m t s n'=s/\(∀q':Nat,(q':Int)∈(q:Int)::pre->q'∣n'->¬ax P m t s (n'/q')=s)/\r = .ok (.nx [.ro (.int P),.ro (.lst ((cL P m t k).map aR)),.ro (.int n'),.ro (.lst (L.map D.int)),.ro (ao s),.ro (.int q)])) ?_ 200 150 _ (by lia) ⟨n,rfl,n1,bA _,⟨1,(JH _).symm⟩,DF nW (b_ hW (Nat.pow_le_pow_right (by lia) hk)),pn,vp⟩
 rintro z Γ ⟨x,rfl,x1,xn,xd,xz,px,hx⟩
 have ec:=ue (s:=s) (n:=x/q) p1 p2 hm ht hs so hk (DF (SK x q) (by lia))
 have em:(x:Int)%(q:Int)=((x%q:Nat):Int):=rfl
 have ed:(x:Int)/(q:Int)=((x/q:Nat):Int):=rfl
 have nt:=vO (cL P m t k)
 have nr:=z0n s
 by_cases h1:x%q=0
 ·have b1:((x:Int)%(q:Int)==0)=true:=by rw[em,h1];rfl
  have hd:q∣x:=Nat.dvd_of_mod_eq_zero h1
  obtain⟨y,rfl⟩:=hd
  have q0:0<q:=by lia
  have ey:q*y/q=y:=JJ y q0
  by_cases h2:ax P m t s (q*y/q)=s
  ·have y1:1<=y:=by
    rcases sU y with w | w
    ·rw[w,SD] at x1;lia
    ·exact w
   have yle:2*y<=q*y:=u9 y q1
   obtain⟨z',rfl⟩:∃z',z=z'+1:=by
    cases z with
    | zero=>rw[AJ] at xz;lia
    | succ z'=>exact⟨z',rfl⟩
   refine .inr ⟨?_,.inl ⟨[.ro (.int P),.ro (.lst ((cL P m t k).map aR)),.ro (.int ((y:Nat):Int)),.ro (.lst (L.map D.int)),.ro (ao s),.ro (.int q)],z',by lia,.inl ?_,y,rfl,y1,by lia,SM ⟨q,uX _ _⟩ xd,by rw[DJ] at xz;lia,by rw[ey] at h2;exact h2,λq' yU fR w=>?_⟩⟩
   ·walk_at "evs"
    simp only[b1]
    walk_at "evs"
    rw[ed]
    simp only[ec]
    walk_at "evs"
    simp only[h2]
    walk_at "evs"
    simp
   ·refine gW ?_
    walk_at "evs"
    rw[ed,ey]
   ·obtain⟨c,rfl⟩:=fR
    have OE:0<q':=by
     rcases sU q' with w2 | w2
     ·rw[w2,Sy] at y1;lia
     ·exact w2
    refine hx q' yU ⟨q*c,JI _ _ _⟩ ?_
    rw[JJ c OE] at w
    rw[show q*(q'*c)=q'*(c*q) by rw[JI,uX q c],JJ _ OE]
    exact H.mul w q
  ·refine .inl ⟨?_,q*y,x1,xn,xd,px,λq' yU fR=>?_,rfl⟩
   ·walk_at "evs"
    simp only[b1]
    walk_at "evs"
    rw[ed]
    simp only[ec]
    walk_at "evs"
    simp[h2]
   ·rcases List.mem_cons.mp yU with e | e
    ·have:q'=q:=by lia
     rw[this];exact h2
    ·exact hx q' e fR
 ·have b1:((x:Int)%(q:Int)==0)=false:=by rw[em];simp;lia
  refine .inl ⟨?_,x,x1,xn,xd,px,λq' yU fR=>?_,rfl⟩
  ·walk_at "evs"
   simp only[b1]
   walk_at "evs"
  ·rcases List.mem_cons.mp yU with e | e
   ·have:q'=q:=by lia
    rw[this] at fR
    exact absurd (a6t fR) h1
   ·exact hx q' e fR
theorem yV{k W:Nat}(p1:3<=P)(p2:P<=9973)(hm:m<=3)(ht:b0 P m t)(hs:s.length=m)(so:bX P s)(hk:k<=150)(hW:W<2^k)(W1:1<=W)(pW:ax P m t s W=s){L:List Int}(hL:∀q∈L,2<=q/\q<=100000000) :
 ∃r:Nat,1<=r/\r<=W/\r∣W/\ax P m t s r=s/\(∀q:Nat,(q:Int)∈L->q∣r->¬ax P m t s (r/q)=s)/\Gb [.int P,.lst ((cL P m t k).map aR),.int W,.lst (L.map D.int),ao s] = .ok (.int r):=by
 suffices h:∃r:Nat,(1<=r/\r<=W/\r∣W/\ax P m t s r=s/\(∀q:Nat,(q:Int)∈L->q∣r->¬ax P m t s (r/q)=s))/\Ga (gy 6 [.int P,.lst ((cL P m t k).map aR),.int W,.lst (L.map D.int),ao s]) = .ok (.rt (.int r)) by
  obtain⟨r,⟨a,b,c,d,e⟩,g⟩:=h
  exact⟨r,a,b,c,d,e,cH rfl g⟩
 delta Ga
 obtain⟨Γ',e,n,x5,rfl,h1,h2,h3,h4,h5⟩:=vC (gb:=df (mi (gT (au dJ (au dn (gV 2) (gV 5)) (gC (.int 0)))) (gT (au dJ (aI sr (ai (gV 0) (ai (gV 1) (ai (au gu (gV 2) (gV 5)) (ai (gV 4) aB))))) (gV 4)))) (aV 2 (aL (au gu (gV 2) (gV 5)))) 200) (i:=5)
  (λi Γ=>∃(n:Nat) (x5:En),Γ=[.ro (.int P),.ro (.lst ((cL P m t k).map aR)),.ro (.int n),.ro (.lst (L.map D.int)),.ro (ao s),x5]/\1<=n/\n<=W/\n∣W/\ax P m t s n=s/\∀q:Nat,(q:Int)∈L.take i->q∣n->¬ax P m t s (n/q)=s) (L.map D.int) 0 [.ro (.int P),.ro (.lst ((cL P m t k).map aR)),.ro (.int W),.ro (.lst (L.map D.int)),.ro (ao s),.no] ⟨W,_,rfl,W1,bA _,⟨1,(JH _).symm⟩,pW,λq hq=>by simp at hq⟩ (λj d Γ hd hI=>by
    obtain⟨n,x5,rfl,h1,h2,h3,h4,h5⟩:=hI
    rw[cf] at hd
    cases hj:L[j]? with
    | none=>rw[hj] at hd;cases hd
    | some q =>
      rw[hj] at hd
      injection hd with hd
      subst hd
      obtain⟨q1,q2⟩:=hL q (kN hj)
      obtain⟨q',rfl⟩:=sV (show 0<=q by lia)
      rw[gO] at h5
      obtain⟨n',a1,a2,a3,a4,a5,a6⟩:=YB (L:=L) (q:=q') (pre:=L.take j) (n:=n) p1 p2 hm ht hs so hk hW (by lia) (by lia) h1 h2 h4 h5
      refine⟨_,.inl a6,n',_,rfl,a1,by lia,SM a3 h3,a4,λz hz=>a5 z ?_⟩
      rw[gO,AL,hj] at hz
      rcases List.mem_append.mp hz with w | w
      ·exact bY _ w
      ·simp at w;rw[w];exact bV)
 refine⟨n,⟨h1,h2,h3,h4,λq hq=>h5 q ?_⟩,?_⟩
 ·rw[gO,bD,xc];exact hq
 ·refine yh (ds:=L.map D.int) (by walk_at "evs") e (cv ?_)
  walk_at "evs"
theorem yW{k r W:Nat}(p1:3<=P)(p2:P<=9973)(hm:m<=3)(ht:b0 P m t)(hs:s.length=m)(so:bX P s)(k1:1<=k)(hk:k<=150)(hW:r<2^k)(hr:ax P m t s (m+r)=ax P m t s m) :
 ∃i:Nat,i<=m/\ax P m t s (i+r)=ax P m t s i/\(∀j,j<i->¬ax P m t s (j+r)=ax P m t s j)/\Ge [.int P,.lst ((cL P m t k).map aR),.int r,ao s] = .ok (.int i):=by
 have hp:1<P:=by lia
 have nt:=vO (cL P m t k)
 suffices h:∃i:Nat,(i<=m/\ax P m t s (i+r)=ax P m t s i/\(∀j,j<i->¬ax P m t s (j+r)=ax P m t s j))/\Gd (gy 5 [.int P,.lst ((cL P m t k).map aR),.int r,ao s]) = .ok (.rt (.int i)) by
  obtain⟨i,⟨a,b,c⟩,g⟩:=h
  exact⟨i,a,b,c,cH rfl g⟩
 delta Gd
 have key:∃i:Nat,(i<=m/\ax P m t s (i+r)=ax P m t s i/\(∀j,j<i->¬ax P m t s (j+r)=ax P m t s j))/\df (gT (au ij (aI sr (ai (gV 0) (ai (gV 1) (ai (gV 2) (ai (gV 3) aB))))) (gV 3))) (aG (aV 3 (aL (aI kz (ai (gV 0) (ai (au aX (gV 1) (gC (.int 0))) (ai (gV 3) aB)))))) (aV 4 (aL (au cz (gV 4) (gC (.int 1)))))) 10 [.ro (.int P),.ro (.lst ((cL P m t k).map aR)),.ro (.int r),.ro (ao s),.ro (.int 0)] = .ok (.nx [.ro (.int P),.ro (.lst ((cL P m t k).map aR)),.ro (.int r),.ro (ao (ax P m t s i)),.ro (.int i)]):=by
  refine nK (λz Γ=>∃i:Nat,Γ=[.ro (.int P),.ro (.lst ((cL P m t k).map aR)),.ro (.int r),.ro (ao (ax P m t s i)),.ro (.int i)]/\i+z=m/\∀j,j<i->¬ax P m t s (j+r)=ax P m t s j)
   (λx=>∃i:Nat,(i<=m/\ax P m t s (i+r)=ax P m t s i/\(∀j,j<i->¬ax P m t s (j+r)=ax P m t s j))/\x = .ok (.nx [.ro (.int P),.ro (.lst ((cL P m t k).map aR)),.ro (.int r),.ro (ao (ax P m t s i)),.ro (.int i)])) ?_ 10 m _ (by lia) ⟨0,by rw[v8 hs so];rfl,by lia,λj hj=>by lia⟩
  rintro z Γ ⟨i,rfl,hz,hj⟩
  have ec:=ue (s:=ax P m t s i) (n:=r) p1 p2 hm ht (dP hp ht i) (qk (by lia) i) hk hW
  rw[eM hp ht hs] at ec
  have nr:=z0n (ax P m t s i)
  by_cases h:ax P m t s (i+r)=ax P m t s i
  ·refine .inl ⟨?_,i,⟨by lia,h,hj⟩,rfl⟩
   walk_at "evs"
   simp only[ec]
   walk_at "evs"
   simp[h]
  ·have zi:z≠0:=λw=>by
    rw[show i=m by lia] at h
    exact h hr
   refine .inr ⟨?_,.inl ⟨[.ro (.int P),.ro (.lst ((cL P m t k).map aR)),.ro (.int r),.ro (ao (ax P m t s (i+1))),.ro (.int ((i+1:Nat):Int))],z-1,by lia,.inl ?_,i+1,rfl,by lia,λj pC=>?_⟩⟩
   ·walk_at "evs"
    simp only[ec]
    walk_at "evs"
    simp[h]
   ·have et:=pz (P:=P) (ts:=bJ P m t (2^0)) (ss:=ax P m t s i) (by lia) (by lia) (by rw[dP hp ht];exact iO hp ht _) (by rw[dP hp ht];lia)
    have e2:cG P (bJ P m t (2^0)) (ax P m t s i)=ax P m t s (i+1):=by
     rw[<-eM hp ht hs];rfl
    rw[e2] at et
    have e0:cu ((cL P m t k).map aR) 0=some (aR (bJ P m t (2^0))):=by
     rw[show(0:Int)=((0:Nat):Int) from rfl,jK,cf]
     unfold cL
     rw[cf,l8 (by lia)];rfl
    have OF:=z0n (ax P m t s (i+1))
    refine b8 (d:=ao (ax P m t s (i+1))) ?_ (gW ?_)
    ·simp only[aR,ao] at et e0 OF ⊢
     walk_at "evs"
     simp only[e0]
     walk_at "evs"
     simp only[et]
     walk_at "evs"
    ·walk_at "evs"
     rw[a6u];rfl
   ·rcases dt j i with w | w
    ·exact hj j w
    ·rw[show j=i by lia];exact h
 obtain⟨i,hi,e⟩:=key
 refine⟨i,hi,?_⟩
 refine b8 (d:=.int 0) (by walk_at "evs") (eG e (cv ?_))
 walk_at "evs"
end
def gz(P:Int):Nat->Int
 | 0=>1
 | j+1=>gz P j*P+1
theorem OG(P:Int):∀j,(P-1)*gz P j=P^(j+1)-1
 | 0=>by rw[gz,j8,gO,jE,xk,jj]
 | j+1=>by
   have h:=OG P j
   rw[gz,jE P (j+1),uT,<-dN,h]
   grind
theorem OH{P:Int}(p1:3<=P)(p2:P<=9973){j:Nat}(hj:j<3):1<=gz P j/\gz P j<=100000000:=by
 have hc:j=0∨j=1∨j=2:=by lia
 rcases hc with rfl | rfl | rfl
 ·simp only[gz];lia
 ·simp only[gz];lia
 ·simp only[gz]
  have h1:(1*P+1)*P<=9974*9973:=jD (by lia) p2 (by lia) (by lia)
  have h2:1*1<=(1*P+1)*P:=jD (by lia) (by lia) (by lia) (by lia)
  lia
def fN(P:Int)(m:Nat):List Int:=(P-1)::(bL m).map (gz P)
def fP(P:Int)(m e:Nat):List Int:=fN P m++dI e P
theorem OI{P:Int}{m:Nat}(p1:3<=P)(p2:P<=9973)(m3:m<=3):∀x∈fN P m,1<=x/\x<=100000000:=λx hx=>by
 rcases List.mem_cons.mp hx with e | e
 ·lia
 ·obtain⟨j,hj,rfl⟩:=List.mem_map.mp e
  exact OH p1 p2 (by have:=List.mem_range.mp hj;lia)
theorem YC{P:Int}{m e:Nat}(p1:3<=P)(p2:P<=9973)(m3:m<=3):∀x∈fP P m e,1<=x/\x<=100000000:=λx hx=>by
 rcases List.mem_append.mp hx with h | h
 ·exact OI p1 p2 m3 x h
 ·rw[(List.mem_replicate.mp h).2];lia
theorem OJ(P:Int)(m e:Nat):(fP P m e).length=m+1+e:=by unfold fP fN;simp;lia
theorem YD{P:Int}{m:Nat}(p1:3<=P)(p2:P<=9973)(m1:1<=m)(m3:m<=3):∃e:Nat,e<=2/\(m:Int)+1<=P^e/\Ck [.int P,.int m] = .ok ((fP P m e).map D.int):=by
 have key:∃(e:Nat) (x4 x5:En),(e<=2/\(m:Int)+1<=P^e)/\df (gT (au mq (gV 5) (au cz (gV 1) (gC (.int 1))))) (aG (gd 2 (aL (gV 0))) (aV 5 (aL (au dX (gV 5) (gV 0))))) 10 [.ro (.int P),.ro (.int m),.own ((fN P m).map D.int),.ro (.int (gz P m)),x4,.ro (.int 1)] = .ok (.nx [.ro (.int P),.ro (.int m),.own ((fP P m e).map D.int),.ro (.int (gz P m)),x4,x5])/\Ck [.int P,.int m] = .ok ((fP P m e).map D.int):=by
  have wh:∀x4,∃(e:Nat) (x5:En),(e<=2/\(m:Int)+1<=P^e)/\df (gT (au mq (gV 5) (au cz (gV 1) (gC (.int 1))))) (aG (gd 2 (aL (gV 0))) (aV 5 (aL (au dX (gV 5) (gV 0))))) 10 [.ro (.int P),.ro (.int m),.own ((fN P m).map D.int),.ro (.int (gz P m)),x4,.ro (.int 1)] = .ok (.nx [.ro (.int P),.ro (.int m),.own ((fP P m e).map D.int),.ro (.int (gz P m)),x4,x5]):=by
   intro x4
   refine nK (λz Γ=>∃e:Nat,Γ=[.ro (.int P),.ro (.int m),.own ((fP P m e).map D.int),.ro (.int (gz P m)),x4,.ro (.int (P^e))]/\e+z=2)
    (λr=>∃(e:Nat) (x5:En),(e<=2/\(m:Int)+1<=P^e)/\r = .ok (.nx [.ro (.int P),.ro (.int m),.own ((fP P m e).map D.int),.ro (.int (gz P m)),x4,x5])) ?_ 10 2 _ (by lia) ⟨0,by unfold fP;simp,rfl⟩
   rintro z Γ ⟨e,rfl,hz⟩
   by_cases h:P^e<(m:Int)+1
   ·have e1:decide (P^e<(m:Int)+1)=true:=decide_eq_true h
    have he:e<2:=by
     rcases dt e 2 with w | w
     ·exact w
     ·have:e=2:=by lia
      subst this
      have:3*3<=P^2:=by rw[jE,jE,xk,jj];exact jD p1 p1 (by lia) (by lia)
      lia
    have pe:(P^e).natAbs<=9973:=by
     have hc:e=0∨e=1:=by lia
     rcases hc with rfl | rfl
     ·simp
     ·rw[jE,xk,jj];lia
    refine .inr ⟨by walk_at "evs";rw[e1],.inl ⟨[.ro (.int P),.ro (.int m),.own ((fP P m (e+1)).map D.int),.ro (.int (gz P m)),x4,.ro (.int (P^(e+1)))],z-1,by lia,.inl ?_,e+1,rfl,by lia⟩⟩
    refine eG (tL (d:=.int P) rfl (by walk_at "evs") (by rw[bD,OJ];lia)) ?_
    show aV 5 _ [.ro (.int P),.ro (.int m),.own ((fP P m e).map D.int++[.int P]),.ro (.int (gz P m)),x4,.ro (.int (P^e))]=_
    have ep:(fP P m e).map D.int++[D.int P]=(fP P m (e+1)).map D.int:=by
     unfold fP;rw[List.replicate_succ',<-AA];simp
    rw[ep]
    refine gW ?_
    rw[jE]
    walk_at "evs"
   ·have e1:decide (P^e<(m:Int)+1)=false:=decide_eq_false h
    exact .inl ⟨by walk_at "evs";rw[e1],e,_,⟨by lia,by lia⟩,rfl⟩
  have fr:∃x4,dA (aG (gd 2 (aL (gV 3))) (aV 3 (aL (au cz (au dX (gV 3) (gV 0)) (gC (.int 1)))))) 4 (gx 0 m) [.ro (.int P),.ro (.int m),.own [.int (P-1)],.ro (.int 1),.no,.no] = .ok (.nx [.ro (.int P),.ro (.int m),.own ((fN P m).map D.int),.ro (.int (gz P m)),x4,.no]):=by
   obtain⟨Γ',e,x4,rfl⟩:=vC (gb:=aG (gd 2 (aL (gV 3))) (aV 3 (aL (au cz (au dX (gV 3) (gV 0)) (gC (.int 1)))))) (i:=4) (λj Γ=>∃x4,Γ=[.ro (.int P),.ro (.int m),.own ((fN P j).map D.int),.ro (.int (gz P j)),x4,.no]) (gx 0 m) 0 [.ro (.int P),.ro (.int m),.own [.int (P-1)],.ro (.int 1),.no,.no] ⟨_,rfl⟩ (λj d Γ hd hI=>by
    obtain⟨x4,rfl⟩:=hI
    obtain⟨hj,rfl⟩:=E4 hd
    rw[gO]
    obtain⟨g1,g2⟩:=OH (P:=P) (j:=j) p1 p2 (by lia)
    refine⟨[.ro (.int P),.ro (.int m),.own ((fN P (j+1)).map D.int),.ro (.int (gz P (j+1))),.ro (.int (0+(j:Int))),.no],.inl ?_,_,rfl⟩
    refine eG (tL (d:=.int (gz P j)) rfl (by walk_at "evs") (by unfold fN;simp;lia)) ?_
    show aV 3 _ [.ro (.int P),.ro (.int m),.own ((fN P j).map D.int++[.int (gz P j)]),.ro (.int (gz P j)),.ro (.int (0+(j:Int))),.no]=_
    have ep:(fN P j).map D.int++[D.int (gz P j)]=(fN P (j+1)).map D.int:=by
     unfold fN;rw[uU];simp
    rw[ep]
    refine gW ?_
    rw[gz]
    walk_at "evs")
   rw[gO,o_] at e
   exact⟨x4,e⟩
  obtain⟨x4,e4⟩:=fr
  obtain⟨e,x5,he,ew⟩:=wh x4
  refine⟨e,x4,x5,he,ew,ph rfl ?_⟩
  delta Oj
  refine fy (ds:=[.int (P-1)]) (by have nl:D.bQ [D.int (P-1)]=true:=ko [P-1];walk_at "evs") ?_
  refine b8 (d:=.int 1) (by walk_at "evs") ?_
  refine yh (ds:=gx 0 m) (by walk_at "evs") e4 ?_
  refine b8 (d:=.int 1) (by walk_at "evs") ?_
  exact eG ew rfl
 obtain⟨e,_,_,⟨h1,h2⟩,_,h3⟩:=key
 exact⟨e,h1,h2,h3⟩
theorem Co:∀(a b:List Int),bK (a++b)=bK a*bK b
 | [],b=>by rw[Jy,bK,jj]
 | x::a,b=>by rw[Sv,bK,bK,Co a b,dN]
theorem Cp:∀(l:List Int),(∀x∈l,1<=x/\x<=100000000)->1<=bK l/\bK l<=100000000^l.length
 | [],_=>by rw[bK];simp
 | x::l,h=>by
   obtain⟨h1,h2⟩:=h x bV
   obtain⟨h3,h4⟩:=Cp l λy hy=>h y (bY _ hy)
   rw[bK,dE,jE,iH x]
   refine⟨?_,jD h4 h2 (by lia) (xp (by lia) h4)⟩
   have:=jD h3 h1 (by lia) (by lia)
   lia
theorem OK{x:Int}:∀{l:List Int},x∈l->x∣bK l
 | y::l,h=>by
   rw[bK]
   rcases List.mem_cons.mp h with e | e
   ·rw[e];exact Int.dvd_mul_right _ _
   ·exact a6w (OK e)
theorem Gm{q:Int}(hq:lG q):∀{l:List Int},q∣bK l->∃x∈l,q∣x
 | [],h=>by
   have:=JG (by rw[bK];lia) h
   rw[bK] at this
   have:=hq.1
   lia
 | y::l,h=>by
   rw[bK] at h
   rcases OB hq h with w | w
   ·exact⟨y,bV,w⟩
   ·obtain⟨x,hx,hd⟩:=Gm hq w
    exact⟨x,bY _ hx,hd⟩
theorem yX{l:List Int}(hl:l.length<=6)(hb:∀x∈l,1<=x/\x<=100000000):F_ [.lst (l.map D.int)] = .ok (.int (bK l)):=by
 refine cH rfl ?_
 delta Om
 refine b8 (d:=.int 1) (by walk_at "evs") ?_
 refine rX (ds:=l.map D.int) (λi Γ=>∃x2,Γ=[.ro (.lst (l.map D.int)),.ro (.int (bK (l.take i))),x2]) (by walk_at "evs") ⟨_,rfl⟩ ?_ ?_
 ·rintro i d Γ hd ⟨x2,rfl⟩
  rw[cf] at hd
  cases hi:l[i]? with
  | none=>rw[hi] at hd;cases hd
  | some x =>
    rw[hi] at hd
    injection hd with hd
    subst hd
    obtain⟨h1,h2⟩:=hb x (kN hi)
    obtain⟨h3,h4⟩:=Cp (l.take i) λy hy=>hb y (uW hy)
    have h5:bK (l.take i)<=100000000^6:=by
     have hi6:(l.take i).length<=6:=by rw[lX];lia
     have hc:(l.take i).length=0∨(l.take i).length=1∨(l.take i).length=2∨(l.take i).length=3∨(l.take i).length=4∨(l.take i).length=5∨(l.take i).length=6:=by lia
     rcases hc with e | e | e | e | e | e | e<;>rw[e] at h4<;>refine xp h4 (by decide)
    have e1:bK (l.take (i+1))=bK (l.take i)*x:=by
     rw[AL,hi,Co]
     show _*(x*1)=_
     rw[j8]
    have fit:yd (bK (l.take i)) x:=⟨LS (by lia),LS (by lia)⟩
    refine .nx (gW (d:=.int (bK (l.take (i+1)))) ?_) ⟨_,rfl⟩
    rw[e1]
    walk_at "evs"
 ·rintro Γ ⟨x2,rfl⟩
  rw[bD,xc]
  exact cv (by walk_at "evs")
noncomputable def Cq(x:Int):List Int:=Classical.epsilon λqs=>iR x 1 qs
theorem yY{x:Int}(h:1<=x):iR x 1 (Cq x):=Classical.epsilon_spec (Gh (x.toNat+1) x 1 h (by lia) (λe a b=>by lia))
noncomputable def jr(l:List Int):List Int:=(l.map Cq).flatten
theorem Cr:∀(l:List Int),(∀x∈l,1<=x/\x<=100000000)->(jr l).length<=10*l.length
 | [],_=>by simp[jr]
 | x::l,h=>by
   obtain⟨h1,h2⟩:=h x bV
   have h3:=(yY h1).few h2
   have h4:=Cr l λy hy=>h y (bY _ hy)
   unfold jr at *
   rw[cN,w0,hU,dE]
   lia
theorem Cs{l:List Int}(hb:∀x∈l,1<=x/\x<=100000000){q:Int}:q∈jr l↔lG q/\∃x∈l,q∣x:=by
 unfold jr
 rw[List.mem_flatten]
 constructor
 ·rintro⟨qs,Gi,hq⟩
  obtain⟨x,hx,rfl⟩:=List.mem_map.mp Gi
  obtain⟨a,b,_⟩:=(yY (hb x hx).1).prime q hq
  exact⟨a,x,hx,b⟩
 ·rintro⟨hq,x,hx,hd⟩
  exact⟨_,List.mem_map.mpr ⟨x,hx,rfl⟩,(yY (hb x hx).1).mem q hq hd⟩
theorem yZ{l:List Int}(hl:l.length<=6)(hb:∀x∈l,1<=x/\x<=100000000):F9 [.lst (l.map D.int)] = .ok ((fw (jr l)).map D.int):=by
 refine ph rfl ?_
 delta Ol
 refine fy (ds:=[]) (by walk_at "evs") ?_
 have hlen:=Cr l hb
 refine rX (ds:=l.map D.int) (λi Γ=>∃x2,Γ=[.ro (.lst (l.map D.int)),.own ((jr (l.take i)).map D.int),x2]) (by walk_at "evs") ⟨_,rfl⟩ ?_ ?_
 ·rintro i d Γ hd ⟨x2,rfl⟩
  rw[cf] at hd
  cases hi:l[i]? with
  | none=>rw[hi] at hd;cases hd
  | some x =>
    rw[hi] at hd
    injection hd with hd
    subst hd
    obtain⟨h1,h2⟩:=hb x (kN hi)
    have ep:=yT h1 h2 (yY h1)
    have h3:=(yY h1).few h2
    have h4:=Cr (l.take i) λy hy=>hb y (uW hy)
    have h5:(l.take i).length<=6:=by rw[lX];lia
    have e1:jr (l.take (i+1))=jr (l.take i)++Cq x:=by
     unfold jr
     rw[AL,hi];simp
    refine .nx (Wl (ds:=(jr (l.take i)).map D.int) (es:=(Cq x).map D.int) rfl (by walk_at "evs";simp only[ep];walk_at "evs") (by rw[bD,bD];lia)) ⟨_,by rw[e1,hV];rfl⟩
 ·rintro Γ ⟨x2,rfl⟩
  rw[bD,xc]
  exact yg (Wm (ns:=jr l) (by walk_at "evs") (by lia))
structure iS (P:Int) (m:Nat) (t:List (List Int)) (s:List Int) (i r:Nat) (L:List Int):Prop where
 tail:i<=m
 pos:1<=r
 bound:r<2^150
 comes:ax P m t s (i+r)=ax P m t s i
 first:∀j,j<i->¬ax P m t s (j+r)=ax P m t s j
 least:∀j k,ax P m t s (j+k)=ax P m t s j->r∣k
 up:L.Pairwise (·<·)
 prime:∀q∈L,lG q/\q<=100000000/\q∣(r:Int)
 all:∀q,lG q->q∣(r:Int)->q∈L
theorem YE{P:Int}{p m e:Nat}(ep:P=p)(p1:3<=P):∃M:Nat,bK (fP P m e)=((M*p^e:Nat):Int)/\∀k,1<=k->k<=m->(p^k-1)∣M:=by
 have hr:∀e,bK (dI e P)=P^e:=λe=>by
  induction e with
  | zero=>rw[JK,bK,xk]
  | succ e ih=>rw[pQ,bK,ih,jE,iH]
 have gn:∀j,1<=gz P j:=λj=>by
  induction j with
  | zero=>rw[gz];lia
  | succ j ih =>
    have:1*1<=gz P j*P:=jD ih (by lia) (by lia) (by lia)
    rw[gz];lia
 have hh:1<=bK (fN P m):=by
  have:∀l:List Int,(∀x∈l,1<=x)->1<=bK l:=λl=>by
   induction l with
   | nil=>intro _;rw[bK];lia
   | cons x l ih =>
     intro h
     have h1:=h x bV
     have h2:=ih λy hy=>h y (bY _ hy)
     have:1*1<=x*bK l:=jD h1 h2 (by lia) (by lia)
     rw[bK];lia
  refine this _ λx hx=>?_
  rcases List.mem_cons.mp hx with h | h
  ·lia
  ·obtain⟨j,_,rfl⟩:=List.mem_map.mp h
   exact gn j
 obtain⟨M,hM⟩:=sV (show 0<=bK (fN P m) by lia)
 refine⟨M,?_,λk k1 k2=>?_⟩
 ·unfold fP
  rw[Co,hr,hM,SN,DK,ep]
 ·refine Int.natCast_dvd_natCast.mp ?_
  have e1:((p^k-1:Nat):Int)=P^k-1:=by
   have:=SH (n:=k) (show 0<p by lia)
   rw[Int.natCast_sub this,DK,ep];rfl
  rw[e1]
  obtain⟨j,rfl⟩:∃j,k=j+1:=⟨k-1,by lia⟩
  rw[<-OG,show((M:Nat):Int)=bK (fN P m) from hM.symm]
  unfold fN
  rw[bK]
  exact Int.mul_dvd_mul (Sg _) (OK (List.mem_map.mpr ⟨j,List.mem_range.mpr (by lia),rfl⟩))
theorem y6{P:Int}{m:Nat}{t:List (List Int)}{s:List Int}(hD:cV P=false)(p1:3<=P)(p2:P<=9973)(m1:1<=m)(m3:m<=3)(ht:b0 P m t)(hs:s.length=m)(so:bX P s):∃i r L,iS P m t s i r L/\Cm [.int P,aR t,ao s] = .ok (.tup [.int ((i:Nat):Int),.int ((r:Nat):Int),.lst (L.map D.int)]):=by
 have hp:1<P:=by lia
 obtain⟨p,ep⟩:=sV (show 0<=P by lia)
 obtain⟨e,e2,eP,YF⟩:=YD (m:=m) p1 p2 m1 m3
 obtain⟨M,hW,hM⟩:=YE (m:=m) (e:=e) ep p1
 have hb:=YC (m:=m) (e:=e) p1 p2 m3
 have hl:(fP P m e).length<=6:=by rw[OJ];lia
 have OL:=yX hl hb
 have YG:=yZ hl hb
 obtain⟨w1,w2⟩:=Cp (fP P m e) hb
 rw[hW] at OL w1 w2
 generalize OM:M*p^e=W at *
 have W1:1<=W:=by lia
 have Wb:W<2^150:=by
  have h0:(W:Int)=bK (fN P m)*bK (dI e P):=by rw[<-hW,<-Co];rfl
  obtain⟨a1,a2⟩:=Cp (fN P m) (OI p1 p2 m3)
  have a3:bK (fN P m)<=100000000^4:=by
   have hc:(fN P m).length=2∨(fN P m).length=3∨(fN P m).length=4:=by unfold fN;simp;lia
   rcases hc with e | e | e<;>rw[e] at a2<;>refine xp a2 (by decide)
  have a4:bK (dI e P)<=9973*9973/\0<=bK (dI e P):=by
   have hc:e=0∨e=1∨e=2:=by lia
   rcases hc with rfl | rfl | rfl
   ·rw[JK,bK];lia
   ·rw[pQ,JK,bK,bK];lia
   ·rw[pQ,pQ,JK,bK,bK,bK,j8]
    exact⟨jD p2 p2 (by lia) (by lia),SO (by lia) (by lia)⟩
  have a5:(W:Int)<=100000000^4*(9973*9973):=by rw[h0];exact jD a3 a4.1 a4.2 (by lia)
  lia
 have mW:m<=W:=by
  have h6:0<p^e:=SH (by lia)
  have h7:M≠0:=λz=>by rw[z,Sy] at OM;lia
  have h8:1*p^e<=M*p^e:=u9 _ (by lia)
  have h9:((p^e:Nat):Int)=P^e:=by rw[DK,ep]
  lia
 have el:=vQ p1 p2 m3 ht Wb
 have hk:=Fd Wb
 have ON:W<2^d9 W:=by
  have:=ML W
  have h2:=AP W (Su (d9 W))
  lia
 have k1:1<=d9 W:=by
  rcases sU (d9 W) with z | z
  ·rw[z,AJ] at ON;lia
  ·exact z
 have hu:=dP (s:=s) hp ht m
 have uo:=qk (m:=m) (t:=t) (s:=s) (show 0<P by lia) m
 have eu:=ue (s:=s) (n:=m) p1 p2 m3 ht hs so hk (by lia)
 have OO:=λn hn=>Yt (s:=s) (j:=e) (M:=M) ep hD p1 p2 m3 ht hs hM (by
  have h9:((p^e:Nat):Int)=P^e:=by rw[DK,ep]
  lia) n hn
 rw[OM] at OO
 have pW:ax P m t (ax P m t s m) W=ax P m t s m:=by rw[eM hp ht hs];exact OO m (bA m)
 have hL:∀q∈fw (jr (fP P m e)),2<=q/\q<=100000000:=λq hq=>by
  obtain⟨a,x,hx,hd⟩:=(Cs hb).mp (vI.mp hq)
  have:=JG (by have:=(hb x hx).1;lia) hd
  exact⟨a.1,by have:=(hb x hx).2;lia⟩
 obtain⟨r,r1,rW,rd,pr,hr,er⟩:=yV (s:=ax P m t s m) p1 p2 m3 ht hu uo hk ON W1 pW hL
 rw[eM hp ht hs] at pr
 obtain⟨i,i1,i2,i3,ei⟩:=yW (s:=s) (W:=W) p1 p2 m3 ht hs so k1 hk (show r<2^d9 W by lia) pr
 have H:=Gk hp ht hu uo
 have YH:∀k,ax P m t (ax P m t s m) k=ax P m t s m->r∣k:=λk cQ=>by
  refine H.least r1 (by rw[eM hp ht hs];exact pr) (λq q1 q2=>hr q ?_ q2) cQ
  refine vI.mpr ((Cs hb).mpr ⟨q1,Gm q1 ?_⟩)
  rw[hW]
  exact Int.natCast_dvd_natCast.mpr (SM q2 rd)
 refine⟨i,r,(fw (jr (fP P m e))).filter (λq=>(r:Int)%q==0),⟨i1,r1,by lia,i2,i3,λj k YI=>?_,(EN _).filter _,λq hq=>?_,λq q1 q2=>?_⟩,?_⟩
 ·refine YH k ?_
  have h1:∀n,ax P m t (ax P m t s m) (r*n)=ax P m t s m:=λn=>H.mul (by rw[eM hp ht hs];exact pr) n
  have h2:ax P m t s (m+r*j)=ax P m t s m:=by rw[<-eM hp ht hs];exact h1 j
  have h3:j<=m+r*j:=by
   have:1*j<=r*j:=u9 j r1
   lia
  have h4:ax P m t s (m+r*j+k)=ax P m t s (m+r*j):=by
   rw[show m+r*j+k=(j+k)+(m+r*j-j) by lia,<-eM hp ht hs,YI,eM hp ht hs,show j+(m+r*j-j)=m+r*j by lia]
  rw[eM hp ht hs]
  have h5:=h4
  rw[<-eM hp ht hs,h2,eM hp ht hs] at h5
  exact h5
 ·obtain⟨h1,h2⟩:=List.mem_filter.mp hq
  obtain⟨a,_⟩:=(Cs hb).mp (vI.mp h1)
  exact⟨a,(hL q h1).2,u0 (by simpa using h2)⟩
 ·refine List.mem_filter.mpr ⟨vI.mpr ((Cs hb).mpr ⟨q1,Gm q1 ?_⟩),by simpa using xl q2⟩
  rw[hW]
  exact Int.dvd_trans q2 (Int.natCast_dvd_natCast.mpr rd)
 ·refine cH rfl ?_
  delta Oo
  have nt:=vO (cL P m t (d9 W))
  have nr:=z0n s
  have OF:=z0n (ax P m t s m)
  have tl:((t.length:Nat):Int)=(m:Int):=by rw[ht.1]
  refine b8 (d:=.int (m:Int)) (by simp only[aR];walk_at "evs";rw[tl]) ?_
  refine fy (ds:=(fP P m e).map D.int) (by walk_at "evs";simp only[YF];walk_at "evs") ?_
  refine b8 (d:=.int (W:Int)) (by walk_at "evs";simp only[OL];walk_at "evs") ?_
  refine fy (ds:=(fw (jr (fP P m e))).map D.int) (by walk_at "evs";simp only[YG];walk_at "evs") ?_
  refine fy (ds:=(cL P m t (d9 W)).map aR) (by walk_at "evs";simp only[el];walk_at "evs") ?_
  refine b8 (d:=.int (r:Int)) (by walk_at "evs";simp only[eu];walk_at "evs";simp only[er];walk_at "evs") ?_
  refine cv ?_
  have YJ:∀l:List Int,l.filterMap (λq=>if ((r:Int)%q==0)=true then some (D.int q) else none)=(l.filter (λq=>(r:Int)%q==0)).map D.int:=λl=>by
   induction l with
   | nil=>rfl
   | cons x l ih =>
     rw[wW,AK]
     cases h:((r:Int)%x==0) with
     | true=>simp only[if_true,cN];rw[ih]
     | false=>simp only[kf,if_false];exact ih
  have fl:=Cr _ hb
  have sl:∀l:List Int,(fw l).length<=l.length:=λl=>by
   induction l with
   | nil=>exact bA _
   | cons x l ih =>
     have:∀y:List Int,(nM x y).length<=y.length+1:=λy=>by
      induction y with
      | nil=>simp[nM]
      | cons z y ih=>unfold nM;split<;>simp;split<;>simp;exact ih
     rw[fw,dE]
     have:=this (fw l)
     lia
  have KD:=sl (jr (fP P m e))
  walk_at "evs"
  simp only[ei]
  walk_at "evs"
  rw[LM (k:=D.int) (h:=λq=>if ((r:Int)%q==0)=true then some (D.int q) else none) (λq hq=>?_),YJ]
  ·walk_at "evs"
  ·have q0:=(hL q hq).1
   walk_at "evs"
   cases h:((r:Int)%q==0) with
   | true=>walk_at "evs"
   | false=>rfl
theorem OP:∀(N:Nat) (f:Nat->Nat),(∀i,i<=N->f i<N)->∃i j,i<j/\j<=N/\f i=f j
 | 0,f,h=>absurd (h 0 (bA 0)) (rm _)
 | N+1,f,h=>by
   by_cases q:∃i,i<=N/\f i=f (N+1)
   ·obtain⟨i,h1,h2⟩:=q
    exact⟨i,N+1,by lia,by lia,h2⟩
   ·have q':∀i,i<=N->f i≠f (N+1):=λi h1 h2=>q ⟨i,h1,h2⟩
    obtain⟨i,j,h1,h2,h3⟩:=OP N (λi=>if f i=N then f (N+1) else f i) (λi hi=>by
     have a:=h i (by lia)
     have b:=h (N+1) (by lia)
     have c:=q' i hi
     show(if f i=N then f (N+1) else f i)<N
     split<;>lia)
    have a1:=q' i (by lia)
    have a2:=q' j (by lia)
    refine⟨i,j,h1,by lia,?_⟩
    have y7:(if f i=N then f (N+1) else f i)=(if f j=N then f (N+1) else f j):=h3
    split at y7<;>split at y7<;>lia
def gF(P:Int):List Int->Int
 | []=>0
 | x::xs=>x+P*gF P xs
theorem OQ{P:Int}(hp:0<P):∀{l:List Int},bX P l->0<=gF P l/\gF P l<P^l.length
 | [],_=>by simp[gF]
 | x::xs,h=>by
   obtain⟨a,b⟩:=OQ hp (l:=xs) λn hn=>h n (bY _ hn)
   obtain⟨c,d⟩:=h x bV
   have e:0<=P*gF P xs:=SO (by lia) a
   have f:P*(gF P xs+1)<=P*P^xs.length:=SI (by lia) (by lia)
   rw[uT,j8] at f
   rw[gF,dE,jE,iH (P^xs.length)]
   lia
theorem OR{P:Int}(hp:0<P):∀{a b:List Int},a.length=b.length->bX P a->bX P b->gF P a=gF P b->a=b
 | [],[],_,_,_,_=>rfl
 | [],_::_,h,_,_,_=>by simp at h
 | _::_,[],h,_,_,_=>by simp at h
 | x::xs,y::ys,h,ha,hb,e=>by
   rw[gF,gF] at e
   obtain⟨x0,x1⟩:=ha x bV
   obtain⟨y0,y1⟩:=hb y bV
   have ex:x=y:=by
    have h1:=congrArg (·%P) e
    simp only[Int.add_mul_emod_self_left] at h1
    rwa [ke x0 x1,ke y0 y1] at h1
   subst ex
   have e2:gF P xs=gF P ys:=Int.eq_of_mul_eq_mul_left (by lia) (show P*gF P xs=P*gF P ys by lia)
   rw[OR hp (by simpa using h) (λn hn=>ha n (bY _ hn)) (λn hn=>hb n (bY _ hn)) e2]
section
variable {P:Int}{m:Nat}{t:List (List Int)}{s:List Int}{i r:Nat}{L:List Int}
theorem iS.short(H:iS P m t s i r L)(hp:1<P)(ht:b0 P m t):(r:Int)<=P^m:=by
 rcases DN (P^m) (r:Int) with q | q
 ·exfalso
  have hP:0<P^m:=Int.pow_pos (by lia)
  obtain⟨N,eN⟩:=sV (show 0<=P^m by lia)
  have bd:=λn=>OQ (P:=P) (by lia) (qk (m:=m) (t:=t) (s:=s) (show 0<P by lia) n)
  obtain⟨a,b,h1,h2,h3⟩:=OP N (λn=>(gF P (ax P m t s n)).toNat) (λn _=>by
   have:=bd n
   rw[dP hp ht,eN] at this
   show(gF P (ax P m t s n)).toNat<N
   lia)
  have y7:(gF P (ax P m t s a)).toNat=(gF P (ax P m t s b)).toNat:=h3
  have e1:gF P (ax P m t s a)=gF P (ax P m t s b):=by
   have:=bd a
   have:=bd b
   lia
  have e2:=OR (P:=P) (by lia) (by rw[dP hp ht,dP hp ht]) (qk (by lia) a) (qk (by lia) b) e1
  have:=AO (by lia) (H.least a (b-a) (by rw[show a+(b-a)=b by lia,e2]))
  lia
 ·exact q
theorem iS.turns(H:iS P m t s i r L)(hp:1<P)(ht:b0 P m t)(hs:s.length=m):∀(c n:Nat),i<=n->ax P m t s (n+r*c)=ax P m t s n
 | 0,n,_=>rfl
 | c+1,n,h=>by
   have h1:ax P m t s (n+r)=ax P m t s n:=by
    have:=eM hp ht hs (i+r) (n-i)
    rw[H.comes,eM hp ht hs,show i+(n-i)=n by lia,show i+r+(n-i)=n+r by lia] at this
    exact this.symm
   rw[Nat.mul_succ,show n+(r*c+r)=n+r*c+r by lia]
   have h2:=H.turns hp ht hs c n h
   rw[<-eM hp ht hs,h2,eM hp ht hs,h1]
theorem iS.down(H:iS P m t s i r L)(hp:1<P)(ht:b0 P m t)(hs:s.length=m){n:Nat}(h:i<=n):ax P m t s (i+(n-i)%r)=ax P m t s n:=by
 have h1:=H.turns hp ht hs ((n-i)/r) (i+(n-i)%r) (by lia)
 have h2:=JF (n-i) r
 rw[show i+(n-i)%r+r*((n-i)/r)=n by lia] at h1
 exact h1.symm
variable {g:List Int}
theorem iS.off(H:iS P m t s i r L)(hp:1<P)(ht:b0 P m t)(hs:s.length=m)(h0:∀a,a<=i->ax P m t s a≠g)(h1:ax P m t g r≠g)(n:Nat):ax P m t s n≠g:=λz=>by
 rcases dt i n with q | q
 ·refine h1 ?_
  have:=H.turns hp ht hs 1 n (by lia)
  rw[JH,<-eM hp ht hs,z] at this
  exact this
 ·exact h0 n q z
theorem YK(k M:Nat)(hM:1<=M):k<=(k+M-1)/M*M/\(k+M-1)/M*M<k+M:=by
 have h1:=JF (k+M-1) M
 have h2:=AP (k+M-1) (show 0<M by lia)
 rw[uX M] at h1
 lia
theorem iS.lands(H:iS P m t s i r L)(hp:1<P)(ht:b0 P m t)(hs:s.length=m){M:Nat}(hM:1<=M){k:Nat}(k1:0<k)(k2:k<r)(e:ax P m t s (i+k)=g):∃l j,1<=l/\l<=(r+M-1)/M/\j<M/\l*M=k+j/\ax P m t g j=ax P m t s (i+l*M):=by
 obtain⟨a,b⟩:=YK k M hM
 refine⟨(k+M-1)/M,(k+M-1)/M*M-k,Nat.div_pos (by lia) (by lia),Nat.div_le_div_right (by lia),by lia,by lia,?_⟩
 rw[<-e,eM hp ht hs,show i+k+((k+M-1)/M*M-k)=i+(k+M-1)/M*M by lia]
theorem iS.apart(H:iS P m t s i r L)(hp:1<P)(ht:b0 P m t)(hs:s.length=m){M:Nat}(hM:1<=M)(h0:∀a,a<=i->ax P m t s a≠g)(h1:∀l j,1<=l->l<=(r+M-1)/M->j<M->ax P m t g j≠ax P m t s (i+l*M))(n:Nat):ax P m t s n≠g:=λz=>by
 rcases dt i n with q | q
 ·have e:=H.down hp ht hs (n:=n) (by lia)
  rw[z] at e
  have k2:=AP (n-i) (show 0<r from H.pos)
  have k1:0<(n-i)%r:=by
   rcases sU ((n-i)%r) with w | w
   ·rw[w] at e;exact absurd e (h0 i (bA i))
   ·exact w
  obtain⟨l,j,a,b,c,_,d⟩:=H.lands hp ht hs hM k1 k2 e
  exact h1 l j a b c d
 ·exact h0 n q z
theorem iS.found(H:iS P m t s i r L)(hp:1<P)(ht:b0 P m t)(hs:s.length=m)(hg:g.length=m)(go:bX P g){M:Nat}(hM:1<=M)(hr:M<=r)(h0:∀a,a<=i->ax P m t s a≠g)(h1:ax P m t g r=g)
 {l j:Nat} (l1:1<=l) (jM:j<M) (e:ax P m t g j=ax P m t s (i+l*M)) (fl:∀l' j',1<=l'->l'<l->j'<M->ax P m t g j'≠ax P m t s (i+l'*M)) (fj:∀j',j'<j->ax P m t g j'≠ax P m t s (i+l*M)) :
 ∃n:Nat,i+l*M=n+j/\n<=i+r/\ax P m t s n=g/\∀a,a<n->ax P m t s a≠g:=by
 have r1:=H.pos
 have hl:M<=l*M:=by have:=u9 M l1;lia
 have G:=Gk hp ht hg go
 have e1:ax P m t s (i+l*M+(r*j-j))=g:=by
  have hj:j<=r*j:=by have:=u9 j r1;lia
  rw[<-eM hp ht hs,<-e,eM hp ht hg,show j+(r*j-j)=r*j by lia]
  exact G.mul h1 j
 have e2:=H.down hp ht hs (n:=i+l*M+(r*j-j)) (by lia)
 rw[e1] at e2
 have k2:=AP (i+l*M+(r*j-j)-i) (show 0<r from r1)
 have k1:0<(i+l*M+(r*j-j)-i)%r:=by
  rcases sU ((i+l*M+(r*j-j)-i)%r) with w | w
  ·rw[w] at e2;exact absurd e2 (h0 i (bA i))
  ·exact w
 generalize (i+l*M+(r*j-j)-i)%r=k at e2 k1 k2
 have ej:∀b,ax P m t g b=ax P m t s (i+k+b):=λb=>by rw[<-e2,eM hp ht hs]
 have dv:∀a b,a<=b->ax P m t s a=ax P m t s b->r∣b-a:=λa b h z=>H.least a (b-a) (by rw[show a+(b-a)=b by lia,z])
 obtain⟨l0,j0,a0,_,c0,d0,f0⟩:=H.lands hp ht hs hM k1 k2 e2
 have ll:l<=l0:=by
  rcases dt l0 l with w | w
  ·exact absurd f0 (fl l0 j0 a0 w c0)
  ·exact w
 have lM:l*M<=l0*M:=u9 M ll
 have kl:k<=l*M:=by
  rcases dt (l*M) k with w | w
  ·have:=AO (by lia) (dv (i+l*M) (i+k+j) (by lia) (by rw[<-ej,e]))
   lia
  ·exact w
 have jl:j<=l*M-k:=by
  rcases dt (l*M-k) j with w | w
  ·exact absurd (by rw[ej,show i+k+(l*M-k)=i+l*M by lia]) (fj (l*M-k) w)
  ·exact w
 have jz:l*M-k-j=0:=by
  rcases sU (l*M-k-j) with w | w
  ·exact w
  ·have:=AO (by lia) (dv (i+k+j) (i+l*M) (by lia) (by rw[<-ej,e]))
   lia
 refine⟨i+k,by lia,by lia,e2,λa ha z=>?_⟩
 rcases dt i a with w | w
 ·have:=AO (by lia) (dv a (i+k) (by lia) (by rw[e2,z]))
  lia
 ·exact h0 a w z
end
end L3
namespace L3
open PySem
local macro_rules | `(tactic| walk_at "evs") => wkL " L3.z7u L3.z4j L3.s_on L3.z4s L3.z4t L3.z4u L3.z5g L3.z4h L3.z4v L3.z0n L3.z6e L3.y4v L3.y4u L3.y7e L3.Item.d L3.Item.ds_map L3.z8u L3.y5e L3.y5f L3.y1z L3.z7y L3.z6d L3.gZip L3.y4d L3.y0w L3.z8z L3.y8x L3.z8d L3.y7d L3.D.isNon L3.z8a L3.z9k L3.y8z"
theorem OS(n:Nat)(l:List (List Int)):D.lay (n+2) (.lst (l.map ao))=true:=by
 rw[VV,rj]
 rintro d hd
 obtain⟨x,_,rfl⟩:=List.mem_map.mp hd
 exact z5g n x
theorem OT(l:List (List Int))(x:List Int):kx (ao x) (.lst (l.map ao)) = .ok (.bl (decide (x∈l))):=by
 have e:((l.map ao).any λy=>bN y (ao x))=decide (x∈l):=by
  rw[SQ,Bool.eq_iff_iff,Sl,decide_eq_true_iff]
  constructor
  ·rintro⟨y,hy,h⟩
   have:y=x:=by simpa [z4h] using h
   exact this ▸ hy
  ·intro h
   exact⟨x,h,by simp[z4h]⟩
 unfold kx
 rw[<-e]
 exact e8 ⟨z5g 39 x,OS 38 l⟩
theorem OU(x:List Int):∀(l:List (List Int)),x∈l->∃j,(l.map ao).findIdx? (λy=>bN y (ao x))=some j/\l[j]? = some x/\∀j',j'<j->l[j']? ≠ some x
 | [],h=>by simp at h
 | y::l,h=>by
   by_cases q:y=x
   ·subst q
    refine⟨0,?_,rfl,λj' h=>absurd h (rm _)⟩
    rw[cN,JL,z4h]
    simp
   ·have hm:x∈l:=by
     rcases List.mem_cons.mp h with w | w
     ·exact absurd w.symm q
     ·exact w
    obtain⟨j,a,b,c⟩:=OU x l hm
    refine⟨j+1,?_,by simpa using b,λj' h=>?_⟩
    ·rw[cN,JL,z4h,a]
     simp[q]
    ·cases j' with
     | zero=>simpa using q
     | succ j'=>simpa using c j' (by lia)
theorem OV{l:List (List Int)}{x:List Int}(h:x∈l)(hl:l.length<=100000):∃j:Nat,tK (l.map ao) (ao x) = .ok (.int (j:Int))/\l[j]? = some x/\∀j',j'<j->l[j']? ≠ some x:=by
 obtain⟨j,a,b,c⟩:=OU x l h
 refine⟨j,?_,b,c⟩
 unfold tK
 rw[a]
 exact e8 ⟨z5g 39 x,OS 38 l,by rw[bD];exact hl⟩
section
variable {P:Int}{m:Nat}{t:List (List Int)}{s:List Int}
def cA(P:Int)(m:Nat)(t:List (List Int))(s:List Int)(n:Nat):List (List Int):=(bL n).map (ax P m t s)
theorem Ct{n j:Nat}(h:j<n):(cA P m t s n)[j]? = some (ax P m t s j):=by
 unfold cA
 rw[cf,l8 h]
 rfl
theorem OW{n j:Nat}{x:List Int}(h:(cA P m t s n)[j]? = some x):j<n/\x=ax P m t s j:=by
 have hj:j<n:=by
  have:=(List.getElem?_eq_some_iff.mp h).1
  simpa [cA] using this
 rw[Ct hj] at h
 exact⟨hj,(iZ h).symm⟩
theorem Gn{n:Nat}{x:List Int}:x∈cA P m t s n↔∃j,j<n/\ax P m t s j=x:=by
 unfold cA
 rw[uY]
 exact⟨λ⟨j,h,e⟩=>⟨j,List.mem_range.mp h,e⟩,λ⟨j,h,e⟩=>⟨j,List.mem_range.mpr h,e⟩⟩
theorem YL(n:Nat):(cA P m t s n).map ao++[ao (ax P m t s n)]=(cA P m t s (n+1)).map ao:=by
 unfold cA
 rw[uU,hV,hV]
 rfl
theorem Gp(n:Nat):(cA P m t s n).length=n:=by simp[cA]
theorem uf{n:Nat}(p1:3<=P)(p2:P<=9973)(hm:m<=3)(ht:b0 P m t)(hs:s.length=m)(so:bX P s)(hn:n<=90000):yP [.int P,aR t,ao s,.int n] = .ok ((cA P m t s n).map ao):=by
 have hp:1<P:=by lia
 refine ph rfl ?_
 delta Ot
 refine fy (ds:=[]) (by walk_at "evs") ?_
 refine rX (ds:=gx 0 n) (λj Γ=>j<=n/\∃x,Γ=[.ro (.int P),.ro (aR t),.ro (ao (ax P m t s j)),.ro (.int n),.own ((cA P m t s j).map ao),x]) (by walk_at "evs") ⟨ji n,.no,by rw[v8 hs so];rfl⟩ ?_ ?_
 ·rintro j d Γ hd ⟨hj,x,rfl⟩
  have pC:j<n:=by
   have:=(List.getElem?_eq_some_iff.mp hd).1
   rwa [o_] at this
  have et:=pz (P:=P) (ts:=t) (ss:=ax P m t s j) (by lia) (by lia) (by rw[dP hp ht];exact ht) (by rw[dP hp ht];lia)
  rw[<-yL hp ht hs] at et
  have n1:=z0n (ax P m t s j)
  have n2:=z0n (ax P m t s (j+1))
  refine .nx (eG (Γ':=[.ro (.int P),.ro (aR t),.ro (ao (ax P m t s j)),.ro (.int n),.own ((cA P m t s (j+1)).map ao),.ro d]) ((tL (d:=ao (ax P m t s j)) rfl (by walk_at "evs") (by rw[bD,Gp];lia)).trans (by rw[<-YL];rfl)) (gW (d:=ao (ax P m t s (j+1))) ?_)) ⟨pC,_,rfl⟩
  simp only[aR,ao] at et n2 ⊢
  walk_at "evs"
  simp only[et]
  walk_at "evs"
 ·rintro Γ ⟨hj,x,rfl⟩
  rw[o_]
  exact LX rfl
theorem YM{r:Nat}(r1:1<=r)(r2:r<=10000):∃M:Nat,1<=M/\M<=100/\M<=r/\r<=M*M/\(M-1)*(M-1)<r/\Gg [.int r] = .ok (.int M):=by
 have key:∃M:Nat,1<=M/\M<=100/\r<=M*M/\(M-1)*(M-1)<r/\df (gT (au mq (au dX (gV 1) (gV 1)) (gV 0))) (aV 1 (aL (au cz (gV 1) (gC (.int 1))))) 200 [.ro (.int r),.ro (.int 0)] = .ok (.nx [.ro (.int r),.ro (.int M)]):=by
  refine nK (λz Γ=>∃x:Nat,Γ=[.ro (.int r),.ro (.int x)]/\x+z=101/\(1<=x->(x-1)*(x-1)<r)) (λq=>∃M:Nat,1<=M/\M<=100/\r<=M*M/\(M-1)*(M-1)<r/\q = .ok (.nx [.ro (.int r),.ro (.int M)])) ?_ 200 101 _ (by lia) ⟨0,rfl,rfl,λh=>absurd h (by lia)⟩
  rintro z Γ ⟨x,rfl,hx,hl⟩
  have xm:(x:Int)*(x:Int)=((x*x:Nat):Int):=(SN x x).symm
  have a9t:x<=101:=by lia
  by_cases h:x*x<r
  ·have xb:x<100:=by
    rcases dt x 100 with w | w
    ·exact w
    ·have:=a6v w w
     lia
   have b1:decide ((x:Int)*(x:Int)<(r:Int))=true:=decide_eq_true (by rw[xm];lia)
   have e1:(x:Int)+1=((x+1:Nat):Int):=by lia
   refine .inr ⟨by walk_at "evs";rw[b1],.inl ⟨_,z-1,by lia,.inl (gW (d:=.int ((x+1:Nat):Int)) (by walk_at "evs";rw[e1])),x+1,rfl,by lia,λ_=>by simpa using h⟩⟩
  ·have b1:decide ((x:Int)*(x:Int)<(r:Int))=false:=decide_eq_false (by rw[xm];lia)
   have x1:1<=x:=by
    rcases sU x with w | w
    ·rw[w] at h;lia
    ·exact w
   have xb:x<=100:=by
    rcases dt x 101 with w | w
    ·lia
    ·have:=hl x1
     rw[show x-1=100 by lia] at this
     lia
   exact .inl ⟨by walk_at "evs";rw[b1],x,x1,xb,by lia,hl x1,rfl⟩
 obtain⟨M,a,b,c,d,e⟩:=key
 refine⟨M,a,b,?_,c,d,cH rfl ?_⟩
 ·obtain⟨k,rfl⟩:∃k,M=k+1:=⟨M-1,by lia⟩
  rw[Nat.add_sub_cancel] at d
  rcases sU k with w | w
  ·lia
  ·have:=u9 k w
   lia
 ·delta Ov
  refine b8 (d:=.int 0) (by walk_at "evs") ?_
  refine eG e (cv ?_)
  walk_at "evs"
def fC(P:Int)(m:Nat)(t:List (List Int))(e:List Int)(M c:Nat):List (List Int):=(bL c).map λj=>ax P m t e ((j+1)*M)
theorem YN{e:List Int}{M c j:Nat}{x:List Int}(h:(fC P m t e M c)[j]? = some x):j<c/\x=ax P m t e ((j+1)*M):=by
 have hj:j<c:=by
  have:=(List.getElem?_eq_some_iff.mp h).1
  simpa [fC] using this
 unfold fC at h
 rw[cf,l8 hj] at h
 exact⟨hj,(iZ h).symm⟩
theorem YO{e:List Int}{M c j:Nat}(hj:j<c):(fC P m t e M c)[j]? = some (ax P m t e ((j+1)*M)):=by
 unfold fC
 rw[cf,l8 hj]
 rfl
theorem YQ{M r:Nat}(p1:3<=P)(p2:P<=9973)(hm:m<=3)(ht:b0 P m t)(hs:s.length=m)(so:bX P s)(M1:1<=M)(M2:M<=100)(r2:r<=10000):Gf [.int P,aR t,.int M,.int r,ao s] = .ok ((fC P m t s M ((r+M-1)/M)).map ao):=by
 have hp:1<P:=by lia
 refine ph rfl ?_
 delta Ou
 have er:=t5 (n:=M) p1 p2 hm ht (by lia)
 have nt:=nO (bJ P m t M)
 refine b8 (d:=aR (bJ P m t M)) (by walk_at "evs";simp only[er];walk_at "evs") ?_
 refine yg ?_
 have OX:=iO hp ht M
 have et:=pz (P:=P) (ts:=bJ P m t M) (ss:=s) (by lia) (by lia) (by rw[hs];exact OX) (by lia)
 have ef:cG P (bJ P m t M) s=ax P m t s M:=rfl
 rw[ef] at et
 have hd:(r+M-1)/M<=90000:=dD (SK _ _) (by lia)
 have ew:=uf (P:=P) (m:=m) (t:=bJ P m t M) (s:=ax P m t s M) (n:=(r+M-1)/M) p1 p2 hm OX (dP hp ht M) (qk (by lia) M) hd
 have ez:cA P m (bJ P m t M) (ax P m t s M) ((r+M-1)/M)=fC P m t s M ((r+M-1)/M):=by
  unfold cA fC
  refine AH λj _=>?_
  show cG P (bJ P m (bJ P m t M) j) _=_
  rw[MJ hp ht,show cG P (bJ P m t (M*j)) (ax P m t s M)=ax P m t (ax P m t s M) (M*j) from rfl,eM hp ht hs,Nat.succ_mul,uX j M,AB]
 rw[ez] at ew
 have e1:((r:Int)+(M:Int)-1)/(M:Int)=(((r+M-1)/M:Nat):Int):=by
  rw[show(r:Int)+(M:Int)-1=((r+M-1:Nat):Int) by lia];rfl
 simp only[aR,ao] at et ew ⊢
 walk_at "evs"
 simp only[et]
 walk_at "evs"
 rw[e1]
 simp only[ew]
 exact e8 (iP _)
end
theorem OY{gb:G->R Fl}{i j:Nat}{I:G->Prop}{A:Nat->D->Prop}{B:Nat->D->D->Prop}:∀{xs:List D} {k:Nat} {Γ:G},I Γ->(∀(n:Nat) (a:D) (Γ:G),xs[n]? = some a->I Γ->(A (k+n) a/\∃Γ',gb ((Γ.set i (.ro (.int ((k+n:Nat):Int)))).set j (.ro a)) = .ok (.nx Γ')/\I Γ')∨∃v,B (k+n) a v/\gb ((Γ.set i (.ro (.int ((k+n:Nat):Int)))).set j (.ro a)) = .ok (.rt v))->((∀(n:Nat) (a:D),xs[n]? = some a->A (k+n) a)/\∃Γ',gD gb i j (dY k xs) Γ = .ok (.nx Γ')/\I Γ')∨∃(n:Nat) (a v:D),xs[n]? = some a/\(∀(n':Nat) (a':D),n'<n->xs[n']? = some a'->A (k+n') a')/\B (k+n) a v/\gD gb i j (dY k xs) Γ = .ok (.rt v)
 | [],k,Γ,h,_=>.inl ⟨λn a e=>by simp at e,Γ,rfl,h⟩
 | x::xs,k,Γ,h,q=>by
   rcases q 0 x Γ rfl h with ⟨r,Γ',e1,i1⟩ | ⟨v,r,e1⟩
   ·simp only[oO] at r e1
    rcases OY (xs:=xs) (k:=k+1) i1 (λn b Γ hb hI=>by have:=q (n+1) b Γ (by simpa using hb) hI;rw[show k+(n+1)=k+1+n by lia] at this;exact this) with ⟨r2,z⟩ | ⟨n,a,v,h1,h2,h3,z⟩
    ·refine .inl ⟨λn a ha=>?_,?_⟩
     ·cases n with
      | zero=>simp at ha;subst ha;simpa using r
      | succ n=>rw[show k+(n+1)=k+1+n by lia];exact r2 n a (by simpa using ha)
     ·rw[dY,gD,e1];exact z
    ·refine .inr ⟨n+1,a,v,by simpa using h1,λn' a' hn ha=>?_,by rw[show k+(n+1)=k+1+n by lia];exact h3,by rw[dY,gD,e1];exact z⟩
     cases n' with
     | zero=>simp at ha;subst ha;simpa using r
     | succ n'=>rw[show k+(n'+1)=k+1+n' by lia];exact h2 n' a' (by lia) (by simpa using ha)
   ·simp only[oO] at r e1
    exact .inr ⟨0,x,v,rfl,λn' _ hn=>absurd hn (rm _),by simpa using r,by rw[dY,gD,e1]⟩
theorem Gq(n:Nat):D.lay n (.str (bt "after"))=true:=by rw[rS];decide +kernel
theorem OZ(n:Nat):D.lay n (.str (bt "off"))=true:=by rw[rS];decide +kernel
theorem O0(n:Nat):D.lay n (.str (bt "apart"))=true:=by rw[rS];decide +kernel
section
variable {P:Int}{m:Nat}{t:List (List Int)}{s g:List Int}{i r:Nat}{L:List Int}
def Told(P:Int)(m:Nat)(t:List (List Int))(s g:List Int)(i r:Nat)(d:D):Prop :=
 (∃n:Nat,d = .tup [.str (bt "after"),.int n]/\n<=i+r/\ax P m t s n=g/\∀a,a<n->ax P m t s a≠g) ∨
 ((∀n,ax P m t s n≠g)/\ax P m t g r≠g/\d = .tup [.str (bt "off"),.int i,.int r]) ∨
 ((∀n,ax P m t s n≠g)/\ax P m t g r=g/\∃M:Nat,1<=M/\M<=100/\r<=M*M/\(M-1)*(M-1)<r/\(∀x,x∈fC P m t (ax P m t s i) M ((r+M-1)/M)->¬x∈cA P m t g M) /\
   d = .tup [.str (bt "apart"),.int i,.int r,.lst ((cA P m t g M).map ao),.lst ((fC P m t (ax P m t s i) M ((r+M-1)/M)).map ao)])
theorem y8(H:iS P m t s i r L)(p1:3<=P)(p2:P<=9973)(hm:m<=3)(ht:b0 P m t)(hs:s.length=m)(hg:g.length=m)(go:bX P g)(r2:r<=10000)(h0:∀a,a<=i->ax P m t s a≠g)(h1:ax P m t g r=g) :
 ∃d,Told P m t s g i r d/\yQ [.int P,aR t,.int i,.int r,ao (ax P m t s i),ao g] = .ok d:=by
 have hp:1<P:=by lia
 obtain⟨M,M1,M2,Mr,M3,M4,em⟩:=YM H.pos r2
 have en:=uf (P:=P) (m:=m) (t:=t) (s:=g) (n:=M) p1 p2 hm ht hg go (by lia)
 have ef:=YQ (P:=P) (m:=m) (t:=t) (s:=ax P m t s i) (M:=M) (r:=r) p1 p2 hm ht (dP hp ht i) (qk (by lia) i) M1 M2 r2
 have n1:=iP (cA P m t g M)
 have n2:=iP (fC P m t (ax P m t s i) M ((r+M-1)/M))
 have fz:∀{j:Nat} {x:List Int},(fC P m t (ax P m t s i) M ((r+M-1)/M))[j]? = some x->j<(r+M-1)/M/\x=ax P m t s (i+(j+1)*M):=λh=>by
  obtain⟨a,b⟩:=YN h
  exact⟨a,by rw[b,eM hp ht hs]⟩
 have im:=H.tail
 have body:∀(k:Nat) (x:List Int),k<=20000->(¬x∈cA P m t g M/\(cF (gT (au kx (gV 10) (gV 7))) (bu (dW (ai (gC (.str "after")) (ai (au ig (au cz (gV 2) (au dX (gV 9) (gV 6))) (z9k (gV 7) (gV 10))) aB)))) c5) ([.ro (.int P),.ro (aR t),.ro (.int i),.ro (.int r),.ro (ao (ax P m t s i)),.ro (ao g),.ro (.int M),.own ((cA P m t g M).map ao),.ro (.lst ((fC P m t (ax P m t s i) M ((r+M-1)/M)).map ao)),.ro (.int (k:Int)),.ro (ao x)]) = .ok (.nx ([.ro (.int P),.ro (aR t),.ro (.int i),.ro (.int r),.ro (ao (ax P m t s i)),.ro (ao g),.ro (.int M),.own ((cA P m t g M).map ao),.ro (.lst ((fC P m t (ax P m t s i) M ((r+M-1)/M)).map ao)),.ro (.int (k:Int)),.ro (ao x)]))) ∨
  ∃j:Nat,(cA P m t g M)[j]? = some x/\(∀j',j'<j->(cA P m t g M)[j']? ≠ some x)/\(cF (gT (au kx (gV 10) (gV 7))) (bu (dW (ai (gC (.str "after")) (ai (au ig (au cz (gV 2) (au dX (gV 9) (gV 6))) (z9k (gV 7) (gV 10))) aB)))) c5) ([.ro (.int P),.ro (aR t),.ro (.int i),.ro (.int r),.ro (ao (ax P m t s i)),.ro (ao g),.ro (.int M),.own ((cA P m t g M).map ao),.ro (.lst ((fC P m t (ax P m t s i) M ((r+M-1)/M)).map ao)),.ro (.int (k:Int)),.ro (ao x)]) = .ok (.rt (.tup [.str (bt "after"),.int ((i:Int)+(k:Int)*(M:Int)-(j:Int))])):=λk x hk=>by
  have ei:=OT (cA P m t g M) x
  have nx:=z0n x
  by_cases q:x∈cA P m t g M
  ·obtain⟨j,e,a,b⟩:=OV q (by rw[Gp];lia)
   refine .inr ⟨j,a,b,ky ?_ (cv ?_)⟩
   ·rw[decide_eq_true q] at ei
    walk_at "evs"
    simp only[ei]
    walk_at "evs"
   ·walk_at "evs"
    simp only[e]
    walk_at "evs"
  ·refine .inl ⟨q,rV ?_⟩
   rw[decide_eq_false q] at ei
   walk_at "evs"
   simp only[ei]
   walk_at "evs"
 have loop:=OY (gb:=(cF (gT (au kx (gV 10) (gV 7))) (bu (dW (ai (gC (.str "after")) (ai (au ig (au cz (gV 2) (au dX (gV 9) (gV 6))) (z9k (gV 7) (gV 10))) aB)))) c5)) (i:=9) (j:=10) (I:=λΓ=>∃x9 Cu,Γ=[.ro (.int P),.ro (aR t),.ro (.int i),.ro (.int r),.ro (ao (ax P m t s i)),.ro (ao g),.ro (.int M),.own ((cA P m t g M).map ao),.ro (.lst ((fC P m t (ax P m t s i) M ((r+M-1)/M)).map ao)),x9,Cu]) (A:=λ_ d=>∃x,d=ao x/\¬x∈cA P m t g M)
  (B:=λk d v=>∃(x:List Int) (j:Nat),d=ao x/\(cA P m t g M)[j]? = some x/\(∀j',j'<j->(cA P m t g M)[j']? ≠ some x)/\v = .tup [.str (bt "after"),.int ((i:Int)+(k:Int)*(M:Int)-(j:Int))])
  (xs:=(fC P m t (ax P m t s i) M ((r+M-1)/M)).map ao) (k:=1) (Γ:=[.ro (.int P),.ro (aR t),.ro (.int i),.ro (.int r),.ro (ao (ax P m t s i)),.ro (ao g),.ro (.int M),.own ((cA P m t g M).map ao),.ro (.lst ((fC P m t (ax P m t s i) M ((r+M-1)/M)).map ao)),.no,.no]) ⟨_,_,rfl⟩ (by
  rintro n a Γ ha ⟨x9,Cu,rfl⟩
  rw[cf] at ha
  obtain⟨x,hx,rfl⟩:=Option.map_eq_some_iff.mp ha
  obtain⟨hn,_⟩:=fz hx
  have hc:(r+M-1)/M<=10100:=dD (SK _ _) (by lia)
  rcases body (1+n) x (by lia) with ⟨q,e⟩ | ⟨j,q1,q2,e⟩
  ·exact .inl ⟨⟨x,rfl,q⟩,_,e,_,_,rfl⟩
  ·exact .inr ⟨_,⟨x,j,rfl,q1,q2,rfl⟩,e⟩)
 have start:∀d,aG (yf 8 (vG 9 10 (y8z (dF 8)) (cF (gT (au kx (gV 10) (gV 7))) (bu (dW (ai (gC (.str "after")) (ai (au ig (au cz (gV 2) (au dX (gV 9) (gV 6))) (z9k (gV 7) (gV 10))) aB)))) c5))) (bu (dW (ai (gC (.str "apart")) (ai (gV 2) (ai (gV 3) (ai (gV 7) (ai (gV 8) aB))))))) [.ro (.int P),.ro (aR t),.ro (.int i),.ro (.int r),.ro (ao (ax P m t s i)),.ro (ao g),.ro (.int M),.own ((cA P m t g M).map ao),.own ((fC P m t (ax P m t s i) M ((r+M-1)/M)).map ao),.no,.no] = .ok (.rt d) ->
  yQ [.int P,aR t,.int i,.int r,ao (ax P m t s i),ao g] = .ok d:=λd h=>by
  refine cH rfl ?_
  delta Ow
  refine b8 (d:=.int M) (by walk_at "evs";simp only[em];walk_at "evs") ?_
  refine fy (ds:=(cA P m t g M).map ao) (by walk_at "evs";simp only[en];walk_at "evs") ?_
  refine fy (ds:=(fC P m t (ax P m t s i) M ((r+M-1)/M)).map ao) (by walk_at "evs";simp only[ef];walk_at "evs") ?_
  exact h
 have fr:vH 8 [.ro (.int P),.ro (aR t),.ro (.int i),.ro (.int r),.ro (ao (ax P m t s i)),.ro (ao g),.ro (.int M),.own ((cA P m t g M).map ao),.own ((fC P m t (ax P m t s i) M ((r+M-1)/M)).map ao),.no,.no]=[.ro (.int P),.ro (aR t),.ro (.int i),.ro (.int r),.ro (ao (ax P m t s i)),.ro (ao g),.ro (.int M),.own ((cA P m t g M).map ao),.ro (.lst ((fC P m t (ax P m t s i) M ((r+M-1)/M)).map ao)),.no,.no]:=rfl
 have get:∀l,1<=l->l<=(r+M-1)/M->(fC P m t (ax P m t s i) M ((r+M-1)/M))[l-1]? = some (ax P m t s (i+l*M)):=λl a b=>by
  rw[YO (by lia),eM hp ht hs,show l-1+1=l by lia]
 rcases loop with ⟨hA,Γ',eL,x9,Cu,rfl⟩ | ⟨n,a,v,hx,hA,⟨x,j,rfl,q1,q2,rfl⟩,eL⟩
 ·have O1:∀x,x∈fC P m t (ax P m t s i) M ((r+M-1)/M)->¬x∈cA P m t g M:=λx hx=>by
   obtain⟨n,hn⟩:=AN hx
   obtain⟨x',e,q⟩:=hA n (ao x) (by rw[cf,hn];rfl)
   rw[vL e]
   exact q
  refine⟨_,.inr (.inr ⟨H.apart hp ht hs M1 h0 λl j a b c z=>?_,h1,M,M1,M2,M3,M4,O1,rfl⟩),start _ ?_⟩
  ·refine O1 _ (kN (get l a b)) (Gn.mpr ⟨j,c,z⟩)
  ·refine eG (Γ':=[.ro (.int P),.ro (aR t),.ro (.int i),.ro (.int r),.ro (ao (ax P m t s i)),.ro (ao g),.ro (.int M),.own ((cA P m t g M).map ao),.ro (.lst ((fC P m t (ax P m t s i) M ((r+M-1)/M)).map ao)),x9,Cu]) ?_ (cv ?_)
   ·unfold yf vG
    rw[fr]
    walk_at "evs"
    exact eL
   ·walk_at "evs"
 ·rw[cf] at hx
  obtain⟨y,hy,ey⟩:=Option.map_eq_some_iff.mp hx
  obtain rfl:=vL ey
  obtain⟨hn,e1⟩:=fz hy
  obtain⟨jM,e2⟩:=OW q1
  obtain⟨n0,a1,a2,a3,a4⟩:=H.found hp ht hs hg go M1 Mr h0 h1 (l:=1+n) (j:=j) (by lia) jM (by rw[<-e2,e1,AB n 1]) (λl' j' b1 b2 b3 z=>by
   obtain⟨x',e3,q⟩:=hA (l'-1) (ao (ax P m t s (i+l'*M))) (by lia) (by rw[cf,get l' b1 (by lia)];rfl)
   rw[<-vL e3] at q
   exact q (Gn.mpr ⟨j',b3,z⟩)) (λj' b1 z=>q2 j' b1 (by rw[Ct (by lia),z,e1,AB n 1]))
  refine⟨_,.inl ⟨n0,rfl,a2,a3,a4⟩,start _ (pf ?_)⟩
  have ev:(i:Int)+((1+n:Nat):Int)*(M:Int)-(j:Int)=(n0:Int):=by
   rw[<-SN];lia
  rw[ev] at eL
  unfold yf vG
  rw[fr]
  walk_at "evs"
  exact eL
theorem YR{its:List Item}(hD:cV P=false)(p1:3<=P)(p2:P<=9973)(m1:1<=m)(m3:m<=3)(hd:Item.fM its<=3)(ho:Item.fA P m its)(hs:s.length=m)(so:bX P s)(hg:g.length=m)(go:bX P g) :
 ∃(i r:Nat) (L:List Int),iS P m (Item.tabs P m its) s i r L/\Cm [.int P,aR (Item.tabs P m its),ao s] = .ok (.tup [.int (i:Int),.int (r:Int),.lst (L.map D.int)])/\(r<=10000->∃d,Told P m (Item.tabs P m its) s g i r d/\yR [.int P,.int m,.tup (its.map Item.d),ao s,ao g] = .ok d):=by
 have hp:1<P:=by lia
 have ht:=Item.tabs_ok hp its ho
 have et:=r9 (P:=P) (m:=m) p1 p2 m3 12 its (by lia) ho
 generalize Item.tabs P m its=t at *
 obtain⟨i,r,L,H,eR⟩:=y6 hD p1 p2 m1 m3 ht hs so
 refine⟨i,r,L,H,eR,λr2=>?_⟩
 have im:=H.tail
 have r1:=H.pos
 have ew:=uf (P:=P) (m:=m) (t:=t) (s:=s) (n:=i+1) p1 p2 m3 ht hs so (by lia)
 have er:=t5 (n:=r) p1 p2 m3 ht (by lia)
 have eg:=pz (P:=P) (ts:=bJ P m t r) (ss:=g) (by lia) (by lia) (by rw[hg];exact iO hp ht r) (by lia)
 have YS:cG P (bJ P m t r) g=ax P m t g r:=rfl
 rw[YS] at eg
 have nI:=BO its
 have nt:=nO t
 have nw:=iP (cA P m t s (i+1))
 have ns:=z0n s
 have ng:=z0n g
 have e1:(i:Int)+1=((i+1:Nat):Int):=by lia
 have b1:decide ((r:Int)>10000)=false:=decide_eq_false (by lia)
 have start:∀d,(aG (cF (gT (au kx (gV 4) (gV 9))) (bu (dW (ai (gC (.str "after")) (ai (z9k (gV 9) (gV 4)) aB)))) c5)
 (aG (cF (gT (au ij (aI kz (ai (gV 0) (ai (aI vP (ai (gV 0) (ai (gV 5) (ai (gV 8) aB)))) (ai (gV 4) aB)))) (gV 4))) (bu (dW (ai (gC (.str "off")) (ai (gV 7) (ai (gV 8) aB))))) c5)
 (bu (z8a yQ (ai (dF 0) (ai (dF 5) (ai (dF 7) (ai (dF 8) (ai (aL (au aX (gV 9) (gV 7))) (ai (dF 4) aB)))))))))) [.ro (.int P),.ro (.int m),.ro (.tup (its.map Item.d)),.ro (ao s),.ro (ao g),.ro (aR t),.ro (.tup [.int (i:Int),.int (r:Int),.lst (L.map D.int)]),.ro (.int i),.ro (.int r),.own ((cA P m t s (i+1)).map ao)] = .ok (.rt d)->yR [.int P,.int m,.tup (its.map Item.d),ao s,ao g] = .ok d:=λd h=>by
  refine cH rfl ?_
  delta Ox
  refine b8 (d:=aR t) (by walk_at "evs";simp only[et];walk_at "evs") ?_
  refine b8 (d:=.tup [.int (i:Int),.int (r:Int),.lst (L.map D.int)]) (by walk_at "evs";simp only[eR]) ?_
  refine b8 (d:=.int (i:Int)) (by walk_at "evs") ?_
  refine b8 (d:=.int (r:Int)) (by walk_at "evs") ?_
  refine mD (by walk_at "evs";rw[b1]) ?_
  refine fy (ds:=(cA P m t s (i+1)).map ao) (by walk_at "evs";rw[e1];simp only[ew];walk_at "evs") ?_
  exact h
 have ei:=OT (cA P m t s (i+1)) g
 by_cases q:g∈cA P m t s (i+1)
 ·obtain⟨j,e,a,b⟩:=OV q (by rw[Gp];lia)
  obtain⟨jn,e3⟩:=OW a
  refine⟨_,.inl ⟨j,rfl,by lia,e3.symm,λa ha z=>b a ha (by rw[Ct (by lia),z])⟩,start _ (pf (ky ?_ (cv ?_)))⟩
  ·rw[decide_eq_true q] at ei
   walk_at "evs"
   simp only[ei]
   walk_at "evs"
  ·walk_at "evs"
   simp only[e]
   walk_at "evs"
 ·have h0:∀a,a<=i->ax P m t s a≠g:=λa ha z=>q (Gn.mpr ⟨a,by lia,z⟩)
  rw[decide_eq_false q] at ei
  have O2:(cF (gT (au kx (gV 4) (gV 9))) (bu (dW (ai (gC (.str "after")) (ai (z9k (gV 9) (gV 4)) aB)))) c5) [.ro (.int P),.ro (.int m),.ro (.tup (its.map Item.d)),.ro (ao s),.ro (ao g),.ro (aR t),.ro (.tup [.int (i:Int),.int (r:Int),.lst (L.map D.int)]),.ro (.int i),.ro (.int r),.own ((cA P m t s (i+1)).map ao)] = .ok (.nx [.ro (.int P),.ro (.int m),.ro (.tup (its.map Item.d)),.ro (ao s),.ro (ao g),.ro (aR t),.ro (.tup [.int (i:Int),.int (r:Int),.lst (L.map D.int)]),.ro (.int i),.ro (.int r),.own ((cA P m t s (i+1)).map ao)]):=rV (by
   walk_at "evs"
   simp only[ei]
   walk_at "evs")
  by_cases q2:ax P m t g r=g
  ·obtain⟨d,hT,eO⟩:=y8 H p1 p2 m3 ht hs hg go r2 h0 q2
   refine⟨d,hT,start _ (eG O2 (mD ?_ (cv ?_)))⟩
   ·rw[q2] at eg
    simp only[aR,ao] at er eg ⊢
    walk_at "evs"
    simp only[er]
    walk_at "evs"
    simp only[eg]
    walk_at "evs"
    try simp
   ·have YT:cu ((cA P m t s (i+1)).map ao) (i:Int)=some (ao (ax P m t s i)):=by
     rw[jK,cf,Ct (by lia)]
     rfl
    have nsi:=z0n (ax P m t s i)
    walk_at "evs"
    simp only[YT]
    walk_at "evs"
    simp only[eO]
  ·refine⟨_,.inr (.inl ⟨H.off hp ht hs h0 q2,q2,rfl⟩),start _ (eG O2 (pf (ky ?_ (cv ?_))))⟩
   ·simp only[aR,ao] at er eg ⊢
    walk_at "evs"
    simp only[er]
    walk_at "evs"
    simp only[eg]
    walk_at "evs"
    try simp[q2]
    rw[e8 ⟨xX 39 _,xX 39 _⟩]
    rfl
   ·walk_at "evs"
theorem y9{its:List Item}(hD:cV P=false)(p1:3<=P)(p2:P<=9973)(m1:1<=m)(m3:m<=3)(hP:P^m<=10000)(hd:Item.fM its<=3)(ho:Item.fA P m its)(hs:s.length=m)(so:bX P s)(hg:g.length=m)(go:bX P g) :
 ∃i r L d,iS P m (Item.tabs P m its) s i r L/\r<=10000/\Told P m (Item.tabs P m its) s g i r d/\yR [.int P,.int m,.tup (its.map Item.d),ao s,ao g] = .ok d:=by
 have hp:1<P:=by lia
 obtain⟨i,r,L,H,_,h⟩:=YR hD p1 p2 m1 m3 hd ho hs so hg go
 have r2:r<=10000:=by have:=H.short hp (Item.tabs_ok hp its ho);lia
 obtain⟨d,hT,e⟩:=h r2
 exact⟨i,r,L,d,H,r2,hT,e⟩
end
local macro_rules | `(tactic| walk_at "ev") => wkL ""
theorem YU{n c:Int}{x:En}(Γ:G):gT (aI p_ (ai (gL (dM (yb (gC (.int 2)) (gC (.int 100))) (pa (gT (au mq (gV 0) (gV 3))) (aL (au dJ (au dn (gV 3) (gV 0)) (gC (.int 0))))))) aB)) (.ro (.int c)::x :: .ro (.int n)::Γ) = .ok (cV n):=by
 walk_at "ev"
 rw[Wv (h:=λ(i:Nat)=>if 2+(i:Int)<n then some (n%(2+(i:Int))==0) else none)]
 ·walk_at "ev";rfl
 ·intro i hi
  walk_at "ev"
  by_cases q:2+(i:Int)<n
  ·simp only[decide_eq_true q,if_pos q]
   walk_at "ev"
  ·simp only[decide_eq_false q,if_neg q]
   rfl
theorem YV(c:Int){m:Nat}(m1:1<=m)(m3:m<=3):∃p:Int,Cn [.int c,.int m] = .ok (.int p)/\3<=p/\p<=9973/\p^m<=10000/\cV p=false:=by
 have key:∀B:Int,3<=B->B<=9973->cV B=false->∀(n k:Nat) (Γ:G),k<n->(∃z:Int,Γ=[.ro (.int c),.ro (.int m),.ro (.int z)]/\3<=z/\z<=B/\(B-z).toNat=k) ->
  ∃z:Int,df (gT (aI p_ (ai (gL (dM (yb (gC (.int 2)) (gC (.int 100))) (pa (gT (au mq (gV 0) (gV 3))) (aL (au dJ (au dn (gV 3) (gV 0)) (gC (.int 0))))))) aB))) (aV 2 (aL (au cz (gV 2) (gC (.int 1))))) n Γ = .ok (.nx [.ro (.int c),.ro (.int m),.ro (.int z)])/\3<=z/\z<=B/\cV z=false:=λB b1 b2 b3=>by
  refine nK _ (λr=>∃z:Int,r = .ok (.nx [.ro (.int c),.ro (.int m),.ro (.int z)])/\3<=z/\z<=B/\cV z=false) ?_
  rintro k Γ ⟨z,rfl,h1,h2,h3⟩
  rw[YU]
  cases q:cV z with
  | false=>exact .inl ⟨rfl,z,rfl,h1,h2,q⟩
  | true =>
    have hz:z≠B:=λe=>by rw[e,b3] at q;cases q
    refine .inr ⟨rfl,.inl ⟨[.ro (.int c),.ro (.int m),.ro (.int (z+1))],(B-(z+1)).toNat,by lia,.inl ?_,z+1,rfl,by lia,by lia,rfl⟩⟩
    walk_at "ev"
 have fin:∀(B K:Int),B=K+2->1<=K->B<=9973->cV B=false->(au aX (gL (gS (Ez [9971,95,17]))) (au ig (gV 1) (gC (.int 1)))) [.ro (.int c),.ro (.int m),.no] = .ok (.int K)->∃p:Int,Cn [.int c,.int m] = .ok (.int p)/\3<=p/\p<=B/\cV p=false:=λB K e k1 b2 b3 hK=>by
  have h0:=k_ (w:=c) (show 0<K by lia)
  have h1:=lh (w:=c) (show 0<K by lia)
  obtain⟨z,ez,z1,z2,z3⟩:=key B (by lia) b2 b3 10000 (B-(3+c%K)).toNat [.ro (.int c),.ro (.int m),.ro (.int (3+c%K))] (by lia) ⟨_,rfl,by lia,by lia,rfl⟩
  refine⟨z,cH rfl ?_,z1,z2,z3⟩
  delta Oq
  refine b8 (d:=.int (3+c%K)) ?_ (eG ez (cv ?_))
  ·have e3:∀g:G->R D,g [.ro (.int c),.ro (.int m),.no] = .ok (.int K)->(aL (au cz (gC (.int 3)) (au dn (gV 0) g))) [.ro (.int c),.ro (.int m),.no] = .ok (.int (3+c%K)):=λg hg=>by
    walk_at "ev"
    simp only[hg]
    walk_at "ev"
   exact e3 _ hK
  ·walk_at "ev"
 have pw:∀(B p:Int),3<=p->p<=B->p^m<=B^m:=λB p h1 h2=>by
  have:m=1∨m=2∨m=3:=by lia
  have hh:p*p<=B*B:=jD h2 h2 (by lia) (by lia)
  rcases this with rfl | rfl | rfl
  ·simpa [jE] using h2
  ·simpa [jE] using hh
  ·have:=jD hh h2 (by lia) (SO (by lia) (by lia))
   simpa [jE] using this
 have hc:m=1∨m=2∨m=3:=by lia
 rcases hc with rfl | rfl | rfl
 ·obtain⟨p,e,a,b,d⟩:=fin 9973 9971 rfl (by decide) (by decide) (by decide +kernel) (by walk_at "ev")
  exact⟨p,e,a,b,xp (pw 9973 p a b) (by decide),d⟩
 ·obtain⟨p,e,a,b,d⟩:=fin 97 95 rfl (by decide) (by decide) (by decide +kernel) (by walk_at "ev")
  exact⟨p,e,a,by lia,xp (pw 97 p a b) (by decide),d⟩
 ·obtain⟨p,e,a,b,d⟩:=fin 19 17 rfl (by decide) (by decide) (by decide +kernel) (by walk_at "ev")
  exact⟨p,e,a,by lia,xp (pw 19 p a b) (by decide),d⟩
end L3
namespace L3
open PySem
local macro_rules | `(tactic| walk_at "evs") => wkL " L3.z7u L3.z4j L3.s_on L3.z4s L3.z4t L3.z4u L3.z5g L3.z4h L3.z4v L3.z0n L3.z6e L3.y4v L3.y4u L3.y7e L3.Item.d L3.Item.ds_map L3.z8u L3.y5e L3.y5f L3.y1z L3.z7y L3.z6d L3.gZip L3.y4d L3.y0w L3.z8z L3.y8x L3.z8d L3.y7d L3.D.isNon L3.z8a L3.z9k L3.y8z L3.y9d"
noncomputable section
def Gr:G->R Fl :=
 (aG (aV 1 (aL (au cz (gC (.int 1)) (au dn (aI rY (ai (gV 0) (ai (gC (.int 1)) aB))) (gC (.int 3))))))
 (aG (aV 2 (aL (aI Cn (ai (aI rY (ai (gV 0) (ai (gC (.int 0)) aB))) (ai (gV 1) aB)))))
 (aG (aV 3 (aL (aI tM (ai (aI rY (ai (gV 0) (ai (gC (.int 2)) aB))) (ai (gV 2) (ai (gV 1) aB))))))
 (aG (aV 4 (aL (aI tM (ai (aI rY (ai (gV 0) (ai (gC (.int 3)) aB))) (ai (gV 2) (ai (gV 1) aB))))))
 (aG (aV 5 (aL (aI BH (ai (kq (gV 0) (jL (gC (.int 4))) (jL (gC (.int 62)))) (ai (gV 2) (ai (gV 1) (ai (gC (.int 1)) aB)))))))
 (aG (aV 6 (aL (au dn (au gu (aI rY (ai (gV 0) (ai (gC (.int 1)) aB))) (gC (.int 3))) (gC (.int 6)))))
 (aG (cF (gT (au rR (gV 6) (gC (.int 2)))) (aV 5 (aL (kq (gV 5) kX (jL (au ig (gV 6) (gC (.int 2))))))) c5)
 (aG (aV 7 (z8a yR (ai (dF 2) (ai (dF 1) (ai (dF 5) (ai (dF 3) (ai (dF 4) aB)))))))
 (aG (aV 8 (aL (aI vY (ai (gV 2) (ai (gV 1) (ai (gV 5) (ai (gV 3) (ai (gV 4) aB))))))))
 (aG (cF (mi (gT (au dJ (au aX (gV 8) (gC (.int 0))) (gC (.str "shut")))) (gT (au dJ (au aX (gV 7) (gC (.int 0))) (gC (.str "after"))))) (bu (gC (.bl false))) c5)
 (aG (cF (mi (gT (au ij (au aX (gV 8) (gC (.int 0))) (gC (.str "shut")))) (gT (au ij (au dn (aI tI (ai (au aX (gV 8) (gC (.int 1))) aB)) (gV 2)) (gC (.int 1))))) (bu (gC (.bl false))) c5)
 (aG (fL 9 (my (gL (gU B6 (ai (gV 2) (ai (gV 1) (ai (gV 5) aB))))))
 (cF (mi (gT (au ij (aI vK (ai (gV 2) (ai (gV 9) (ai (gV 3) aB)))) (aI vK (ai (gV 2) (ai (gV 9) (ai (gV 4) aB)))))) (gT (au dJ (au aX (gV 7) (gC (.int 0))) (gC (.str "after"))))) (bu (gC (.bl false))) c5))
 (bu (au kx (au aX (gV 7) (gC (.int 0))) (dW (ai (gC (.str "after")) (ai (gC (.str "off")) (ai (gC (.str "apart")) aB))))))))))))))))))
def Cv:List D->R D:=b6 1 10 Gr
end
theorem O3{P:Int}{m:Nat}{t:List (List Int)}{f s:List Int}(hp:1<P)(ht:b0 P m t)(h:e9 P t f=f)(hs:s.length=m):∀k,cg P (cw f (cG P (bJ P m t k) s)) (cw f s)
 | 0=>by
   show cg P (cw f (cG P (gf m) s)) _
   rw[Mx (by lia) hs]
   exact Mv
 | k+1=>by
   show cg P (cw f (cG P (d8 P (bJ P m t k) t) s)) _
   rw[qg (iO hp ht k).1 hs]
   exact(X4 ht.1 h (by rw[r6];exact(iO hp ht k).1)).trans (O3 hp ht h hs k)
theorem YW:Wz Cv:=by
 intro ns hn
 obtain⟨m,em,m1,m3⟩:=Xd (gE ns 1)
 obtain⟨P,eP,p1,p2,hP,hD⟩:=YV (gE ns 0) m1 m3
 have hp:1<P:=by lia
 have p0:0<P:=by lia
 refine cH rfl ?_
 unfold Gr
 refine b8 (d:=.int m) (by walk_at "evs";rw[em]) ?_
 refine b8 (d:=.int P) (by walk_at "evs";simp only[eP];walk_at "evs") ?_
 have sl:=BD P m (gE ns 2)
 have so:=BE (P:=P) p0 m (gE ns 2)
 refine b8 (d:=ao (kA P m (gE ns 2))) (by walk_at "evs";rfl) ?_
 generalize kA P m (gE ns 2)=s at sl so
 have lg:=BD P m (gE ns 3)
 have og:=BE (P:=P) p0 m (gE ns 3)
 refine b8 (d:=ao (kA P m (gE ns 3))) (by walk_at "evs";rfl) ?_
 generalize kA P m (gE ns 3)=g at lg og
 obtain⟨qp,ei,Gs,Gu,YX⟩:=WW (cs:=iM ns (some 4) (some 62)) (many:=m) (ag:=1) p1 p2 (by lia) (by lia) (dD (Xc ns _ _) hn)
 have YY:=BO qp
 refine b8 (d:=.tup (qp.map Item.d)) (by walk_at "evs";rw[Xb];simp only[ei];walk_at "evs") ?_
 have f0:=k_ (w:=gE ns 1/3) (show(0:Int)<6 by decide)
 have f1:=lh (w:=gE ns 1/3) (show(0:Int)<6 by decide)
 refine b8 (d:=.int (gE ns 1/3%6)) (by walk_at "evs") ?_
 generalize gE ns 1/3%6=few at f0 f1
 obtain⟨its,ho,hd,O4⟩:∃its:List Item,Item.fA P m its/\Item.fM its<=3/\(cF (gT (au rR (gV 6) (gC (.int 2)))) (aV 5 (aL (kq (gV 5) kX (jL (au ig (gV 6) (gC (.int 2))))))) c5) [.ro (.lst (ns.map D.int)),.ro (.int m),.ro (.int P),.ro (ao s),.ro (ao g),.ro (.tup (qp.map Item.d)),.ro (.int few),.no,.no,.no] = .ok (.nx [.ro (.lst (ns.map D.int)),.ro (.int m),.ro (.int P),.ro (ao s),.ro (ao g),.ro (.tup (its.map Item.d)),.ro (.int few),.no,.no,.no]):=by
  by_cases q:few>2
  ·have bq:decide (few>2)=true:=decide_eq_true q
   obtain⟨k,hk⟩:=sV (show 0<=few-2 by lia)
   have nI:=BO (qp.take k)
   refine⟨qp.take k,Item.MS Gs k,Item.tY.mpr λa ha=>Item.tY.mp Gu a (uW ha),ky (by walk_at "evs";rw[bq]) (gW ?_)⟩
   have c3:iM (qp.map Item.d) none (some (few-2))=(qp.take k).map Item.d:=by
    have:=xZ (qp.map Item.d) k
    rw[<-w8] at this
    rw[hk]
    exact this
   walk_at "evs"
   rw[c3]
   walk_at "evs"
  ·have bq:decide (few>2)=false:=decide_eq_false q
   exact⟨qp,Gs,Gu,rV (by walk_at "evs";rw[bq])⟩
 refine eG O4 ?_
 clear O4 ei YY Gs Gu YX em eP
 have nY:=Item.tabs_ok hp its ho
 have nI:=BO its
 obtain⟨i,r,L,d,H,r2,hT,eR⟩:=y9 hD p1 p2 m1 m3 hP hd ho sl so lg og
 obtain⟨n,ws,Hu,eH⟩:=yN hD p1 p2 m3 hd ho sl so
 have PL:=yO hD p1 p2 m3 ho lg Hu eH
 obtain⟨S,hS,eK⟩:=yK hD p1 p2 m3 hd ho
 generalize Item.tabs P m its=t at *
 have n1:=Hu.n1
 have n4:=Hu.n4
 have pE:∀j,(ax P m t s j).length=m:=λj=>dP hp nY j
 have YZ:∀j,Span P (c8 P m t s n) (vec (cI (ax P m t s j))):=NN hp nY sl n1 (Ye Hu.sum)
 have s0:=v8 (t:=t) sl so
 refine b8 (d:=d) (by walk_at "evs";simp only[eR]) ?_
 obtain⟨tg,ds,ed,ht,O5⟩:∃(tg:String) (ds:List D),d = .tup (.str (bt tg)::ds)/\(tg="after"∨tg="off"∨tg="apart")/\(tg="after"->∃a,ax P m t s a=g):=by
  rcases hT with ⟨a,rfl,_,h2,_⟩ | ⟨_,_,rfl⟩ | ⟨_,_,M,_,_,_,_,_,rfl⟩
  ·exact⟨"after",_,rfl,.inl rfl,λ_=>⟨a,h2⟩⟩
  ·exact⟨"off",_,rfl,.inr (.inl rfl),λh=>absurd h (by decide)⟩
  ·exact⟨"apart",_,rfl,.inr (.inr rfl),λh=>absurd h (by decide)⟩
 subst ed
 clear hT eR
 have hT:=BZ (NI nY.1) hS
 have Cw:=hT.steps
 rw[ua] at Cw
 generalize pD (m+1) S=T at eK hT Cw
 have lT:=Ni Cw
 have nT:=iP T
 have Gv:=Gq 40
 have lsum:=NR 40
 have ug:=FR 40
 have Cy:D.lay 40 (.str (bt tg))=true:=by
  rcases ht with rfl | rfl | rfl
  ·exact Gq 40
  ·exact OZ 40
  ·exact O0 40
 have Y0:bN (.str (bt tg)) (.str (bt "after"))=decide (tg="after"):=by
  rw[z8u]
  rcases ht with rfl | rfl | rfl<;>decide +kernel
 have itg:dJ (.str (bt tg)) (.str (bt "after")) = .ok (.bl (decide (tg="after"))):=by
  show R.guard _ (R.ok (D.bl (bN (.str (bt tg)) (.str (bt "after")))))=_
  rw[Y0]
  exact e8 ⟨Cy,Gv⟩
 have ix0:aX (.tup (.str (bt tg)::ds)) (.int 0) = .ok (.str (bt tg)):=by
  unfold aX
  simp only[show cu (D.str (bt tg)::ds) 0=some (.str (bt tg)) from jK 0]
 obtain⟨w,v,Y1,hw⟩:∃(w:String) (v:List Int),vY [.int P,.int m,.tup (its.map Item.d),ao s,ao g] = .ok (.tup [.str (bt w),ao v])/\((w="sum"/\v.sum%P=1)∨(w="shut"/\tg≠"after")):=by
  rcases PL with ⟨vs,eV,lv,ov,hv⟩ | ⟨f,eV,lf,of,Y2,O6,p7⟩
  ·refine⟨"sum",vs,eV,.inl ⟨rfl,?_⟩⟩
   have:=hv m
   rw[lE lg,if_neg (dS m),if_pos rfl,Yd hp nY lv] at this
   exact FT this.symm (by lia) (by lia)
  ·refine⟨"shut",f,eV,.inr ⟨rfl,λz=>?_⟩⟩
   obtain⟨a,ha⟩:=O5 z
   have wg:cw f g%P=1:=by
    rw[NQ lg lf] at O6
    exact FT O6 (by lia) (by lia)
   have h1:=Nx (w:=m+1) (g:=vec f) (YZ a) λr hr=>by
    have:=Y2 r hr
    rw[vW (by rw[yM hp nY n r hr,lf]),yM hp nY n r hr] at this
    exact this
   have h2:cg P (eh (cI (ax P m t s a)) f) 0:=by
    rw[vW (by rw[ub (pE a),lf]),ub (pE a)];exact h1
   rw[NQ (pE a) lf] at h2
   have h3:cw f (ax P m t s a)%P=0:=FT h2 (by lia) (by lia)
   rw[ha,wg] at h3
   lia
 have nv:(D.tup [.str (bt w),ao v]).cK=true:=by rw[Bp];simp only[D.bQ,D.cK,z0n];rfl
 refine b8 (d:=.tup [.str (bt w),ao v]) (by walk_at "evs";simp only[Y1];walk_at "evs") ?_
 have lw:D.lay 40 (.str (bt w))=true:=by
  rcases hw with ⟨rfl,_⟩ | ⟨rfl,_⟩
  ·exact lsum
  ·exact ug
 have es:(bt tg==bt "after")=decide (tg="after"):=by
  rcases ht with rfl | rfl | rfl<;>decide +kernel
 have l3:D.lay 40 (.tup [.str (bt "after"),.str (bt "off"),.str (bt "apart")])=true:=by
  rw[ED]
  simp only[List.all_cons,List.all_nil,Gq,OZ,O0,Bool.and_self]
 have a3:([D.str (bt "after"),.str (bt "off"),.str (bt "apart")].any λy=>bN y (.str (bt tg)))=true:=by
  rw[Sl]
  rcases ht with rfl | rfl | rfl
  ·exact⟨_,by simp,EG (by simp[D.pl])⟩
  ·exact⟨.str (bt "off"),by simp,EG (by simp[D.pl])⟩
  ·exact⟨.str (bt "apart"),by simp,EG (by simp[D.pl])⟩
 have Y3:kx (.str (bt tg)) (.tup [.str (bt "after"),.str (bt "off"),.str (bt "apart")]) = .ok (.bl true):=by
  show R.guard _ (R.ok (D.bl ([D.str (bt "after"),.str (bt "off"),.str (bt "apart")].any λy=>bN y (.str (bt tg)))))=_
  rw[a3]
  exact e8 ⟨Cy,l3⟩
 have ix:cu (.str (bt tg)::ds) 0=some (.str (bt tg)):=jK 0
 have rest:∀pd:D,(aG (fL 9 (my (gL (gU B6 (ai (gV 2) (ai (gV 1) (ai (gV 5) aB))))))
 (cF (mi (gT (au ij (aI vK (ai (gV 2) (ai (gV 9) (ai (gV 3) aB)))) (aI vK (ai (gV 2) (ai (gV 9) (ai (gV 4) aB)))))) (gT (au dJ (au aX (gV 7) (gC (.int 0))) (gC (.str "after"))))) (bu (gC (.bl false))) c5))
 (bu (au kx (au aX (gV 7) (gC (.int 0))) (dW (ai (gC (.str "after")) (ai (gC (.str "off")) (ai (gC (.str "apart")) aB))))))) [.ro (.lst (ns.map D.int)),.ro (.int m),.ro (.int P),.ro (ao s),.ro (ao g),.ro (.tup (its.map Item.d)),.ro (.int few),.ro (.tup (.str (bt tg)::ds)),.ro pd,.no] = .ok (.rt (.bl true)):=λpd=>by
  refine rX (ds:=T.map ao) (λ_ Γ=>∃x9,Γ=[.ro (.lst (ns.map D.int)),.ro (.int m),.ro (.int P),.ro (ao s),.ro (ao g),.ro (.tup (its.map Item.d)),.ro (.int few),.ro (.tup (.str (bt tg)::ds)),.ro pd,x9]) (by walk_at "evs";simp only[eK];walk_at "evs") ⟨_,rfl⟩ ?_ ?_
  ·rintro j dd Γ fR ⟨x9,rfl⟩
   obtain⟨f,hf,rfl⟩:=List.mem_map.mp (kN fR)
   obtain⟨r1,O7,_,_⟩:=Cw.row f hf
   have Y4:pv P m f:=⟨O7,r1⟩
   have ah:=(X5 p0 nY.1 Y4 hT).mp (Span.nR hf)
   have fr:=O7.fits (show P<18446744073709551616 by lia)
   have w1:=MB (P:=P) (fs:=f) (ss:=s) p0 fr (by lia) (by lia)
   have w2:=MB (P:=P) (fs:=f) (ss:=g) p0 fr (by lia) (by lia)
   have same:tg="after"->cw f s%P=cw f g%P:=λz=>by
    obtain⟨a,ha⟩:=O5 z
    have:=O3 hp nY ah sl a
    rw[show cG P (bJ P m t a) s=g from ha] at this
    exact(show cw f g%P=cw f s%P from this).symm
   refine .nx (rV ?_) ⟨_,rfl⟩
   simp only[dZ f,dZ s,dZ g]
   walk_at "evs"
   simp only[w1]
   walk_at "evs"
   simp only[w2]
   walk_at "evs"
   by_cases q:cw f s%P=cw f g%P
   ·simp only[q]
    walk_at "evs"
   ·have z:tg≠"after":=λz=>q (same z)
    have b9:(cw f s%P==cw f g%P)=false:=by simp[q]
    rw[b9]
    walk_at "evs"
    try simp only[e8 (ni Cy Gv),es,decide_eq_false z]
    walk_at "evs"
    try rfl
  ·rintro Γ ⟨x9,rfl⟩
   refine cv ?_
   walk_at "evs"
   simp only[Y3]
 rcases hw with ⟨rfl,hv⟩ | ⟨rfl,aU⟩
 ·have e1:(bt "sum"==bt "shut")=false:=by decide +kernel
  have b1:(v.sum%P==1)=true:=by simp[hv]
  refine mD (by
   walk_at "evs"
   simp only[e8 (ni lsum ug),e1]
   walk_at "evs"
   try rfl) (mD (by
   walk_at "evs"
   simp only[e8 (ni lsum ug),e1]
   walk_at "evs"
   simp only[dZ v]
   walk_at "evs"
   rw[b1]
   try rfl) (rest _))
 ·have e1:(bt "shut"==bt "shut")=true:=by decide +kernel
  refine mD (by
   walk_at "evs"
   try simp only[e8 (ni ug ug),e1]
   walk_at "evs"
   try simp only[e8 (ni Cy Gv),es,decide_eq_false aU]
   walk_at "evs"
   try rfl) (mD (by
   walk_at "evs"
   try simp only[e8 (ni ug ug),e1]
   walk_at "evs"
   try rfl) (rest _))
end L3
namespace L3
open PySem PySem.Spec PyProof.Rows L2
abbrev St:=L2.St
instance:Monad R where
 pure:=R.ok
 bind:=R.bind
mutual
def Is(K:aK)(H:Hp):D->V->Prop
 | .bS,v=>v = .bS
 | .bl b,v=>v = .bl b
 | .int i,v=>v = .int i
 | .str x,v=>v = .str x
 | .tup ds,v=>∃a xs,v = .ref a/\cE K H a xs/\aC K H ds xs
 | .lst ds,v=>∃a xs,v = .ref a/\bW K H a xs/\aC K H ds xs
 | .kn,v=>∃a ob,v = .ref a/\H a=some (.iK ob (.own 0))/\ob.cls = .type "dict"
 | .exc c,v=>∃e oe C,v = .ref e/\H e=some (.iK oe (.own 0))/\oe.cls = .ref C/\nj K dU c.nm=some (some (.ref C))
def aC(K:aK)(H:Hp):List D->List V->Prop
 | [],xs=>xs=[]
 | d::ds,xs=>∃x r,xs=x::r/\Is K H d x/\aC K H ds r
end
structure Sub (K:aK) (H H':Hp):Prop where
 t:∀a xs,cE K H a xs->cE K H' a xs
 l:∀a xs,bW K H a xs->bW K H' a xs
 x:∀a o u,H a=some (.iK o u)->H' a=some (.iK o u)
theorem wc{K:aK}{H H':Hp}{a:Addr}{xs:List V}(e:aW H H')(h:cE K H a xs):cE K H' a xs:=by
 rcases h with (h | ⟨o,h⟩) | h
 ·exact .inl (.inl (e _ _ h))
 ·exact .inl (.inr ⟨o,e _ _ h⟩)
 ·exact .inr h
theorem Sub.of_same{K:aK}{H H':Hp}(e:aW H H'):Sub K H H':=⟨λ_ _ h=>wc e h,λ_ _ h=>e.seq h,λ_ _ _ h=>e _ _ h⟩
mutual
theorem Is.sub{K:aK}{H H':Hp}(s:Sub K H H'):∀(d:D) (v:V),Is K H d v->Is K H' d v
 | .bS,_,h=>h
 | .bl _,_,h=>h
 | .int _,_,h=>h
 | .str _,_,h=>h
 | .tup ds,v,h=>by
   unfold Is at h ⊢
   obtain⟨a,xs,e,h1,h2⟩:=h
   exact⟨a,xs,e,s.t a xs h1,aC.sub s ds xs h2⟩
 | .lst ds,v,h=>by
   unfold Is at h ⊢
   obtain⟨a,xs,e,h1,h2⟩:=h
   exact⟨a,xs,e,s.l a xs h1,aC.sub s ds xs h2⟩
 | .kn,v,h=>by
   unfold Is at h ⊢
   obtain⟨a,ob,e,h1,h2⟩:=h
   exact⟨a,ob,e,s.x a ob _ h1,h2⟩
 | .exc c,v,h=>by
   unfold Is at h ⊢
   obtain⟨a,oe,C,e,h1,h2⟩:=h
   exact⟨a,oe,C,e,s.x a oe _ h1,h2⟩
theorem aC.sub{K:aK}{H H':Hp}(s:Sub K H H'):∀(ds:List D) (xs:List V),aC K H ds xs->aC K H' ds xs
 | [],_,h=>h
 | d::ds,xs,h=>by
   unfold aC at h ⊢
   obtain⟨x,r,e,h1,h2⟩:=h
   exact⟨x,r,e,Is.sub s d x h1,aC.sub s ds r h2⟩
end
theorem Is.same{K:aK}{H H':Hp}{d:D}{v:V}(h:Is K H d v)(e:aW H H'):Is K H' d v:=Is.sub (.of_same e) d v h
theorem aC.same{K:aK}{H H':Hp}{ds:List D}{xs:List V}(h:aC K H ds xs)(e:aW H H'):aC K H' ds xs:=aC.sub (.of_same e) ds xs h
theorem Is.bT{K:aK}{H:Hp}{i:Int}{v:V}:Is K H (.int i) v↔v = .int i:=by unfold Is;rfl
theorem Is.jt{K:aK}{H:Hp}{b:Bool}{v:V}:Is K H (.bl b) v↔v = .bl b:=by unfold Is;rfl
theorem Is.O8{K:aK}{H:Hp}{x:Str}{v:V}:Is K H (.str x) v↔v = .str x:=by unfold Is;rfl
theorem Is.y_{K:aK}{H:Hp}{v:V}:Is K H .bS v↔v = .bS:=by unfold Is;rfl
theorem Is.eQ{K:aK}{H:Hp}{ds:List D}{v:V}:Is K H (.tup ds) v↔∃a xs,v = .ref a/\cE K H a xs/\aC K H ds xs:=by conv=>lhs;unfold Is
theorem Is.fb{K:aK}{H:Hp}{ds:List D}{v:V}:Is K H (.lst ds) v↔∃a xs,v = .ref a/\bW K H a xs/\aC K H ds xs:=by conv=>lhs;unfold Is
theorem aC.jI{K:aK}{H:Hp}{xs:List V}:aC K H [] xs↔xs=[]:=by unfold aC;rfl
theorem aC.ju{K:aK}{H:Hp}{d:D}{ds:List D}{xs:List V}:aC K H (d::ds) xs↔∃x r,xs=x::r/\Is K H d x/\aC K H ds r:=by conv=>lhs;unfold aC
theorem aC.nil{K:aK}{H:Hp}:aC K H [] []:=aC.jI.mpr rfl
theorem aC.cons{K:aK}{H:Hp}{d:D}{ds:List D}{x:V}{xs:List V}(h:Is K H d x)(t:aC K H ds xs):aC K H (d::ds) (x::xs):=aC.ju.mpr ⟨x,xs,rfl,h,t⟩
theorem aC.length{K:aK}{H:Hp}:∀{ds:List D} {xs:List V},aC K H ds xs->ds.length=xs.length
 | [],xs,h=>by rw[aC.jI.mp h];rfl
 | d::ds,xs,h=>by
   obtain⟨x,r,rfl,_,t⟩:=aC.ju.mp h
   rw[dE,dE,aC.length t]
theorem aC.get{K:aK}{H:Hp}:∀{ds:List D} {xs:List V} {i:Nat} {d:D},aC K H ds xs->ds[i]? = some d->∃x,xs[i]? = some x/\Is K H d x
 | [],_,_,_,_,e=>by simp at e
 | d::ds,xs,0,d',h,e=>by
   obtain⟨x,r,rfl,hx,t⟩:=aC.ju.mp h
   simp at e;subst e
   exact⟨x,rfl,hx⟩
 | d::ds,xs,i+1,d',h,e=>by
   obtain⟨x,r,rfl,hx,t⟩:=aC.ju.mp h
   obtain⟨y,e1,hy⟩:=aC.get (i:=i) t (by simpa using e)
   exact⟨y,by simpa using e1,hy⟩
theorem aC.uh{K:aK}{H:Hp}{ds:List D}{xs:List V}{i:Nat}{x:V}(h:aC K H ds xs)(e:xs[i]? = some x):∃d,ds[i]? = some d/\Is K H d x:=by
 have hi:i<xs.length:=(List.getElem?_eq_some_iff.mp e).1
 have hd:i<ds.length:=by rw[h.length];exact hi
 obtain⟨y,e1,hy⟩:=h.get (cD hd)
 rw[e] at e1;cases e1
 exact⟨_,cD hd,hy⟩
theorem aC.append{K:aK}{H:Hp}:∀{ds es:List D} {xs ys:List V},aC K H ds xs->aC K H es ys->aC K H (ds++es) (xs++ys)
 | [],_,_,_,h,t=>by rw[aC.jI.mp h];exact t
 | d::ds,es,xs,ys,h,t=>by
   obtain⟨x,r,rfl,hx,tr⟩:=aC.ju.mp h
   exact aC.cons hx (aC.append tr t)
theorem aC.drop{K:aK}{H:Hp}:∀{ds:List D} {xs:List V} (n:Nat),aC K H ds xs->aC K H (ds.drop n) (xs.drop n)
 | _,_,0,h=>h
 | [],xs,n+1,h=>by rw[aC.jI.mp h];exact aC.nil
 | d::ds,xs,n+1,h=>by
   obtain⟨x,r,rfl,hx,tr⟩:=aC.ju.mp h
   exact aC.drop n tr
theorem aC.take{K:aK}{H:Hp}:∀{ds:List D} {xs:List V} (n:Nat),aC K H ds xs->aC K H (ds.take n) (xs.take n)
 | _,_,0,_=>by rw[SJ,SJ];exact aC.nil
 | [],xs,n+1,h=>by rw[aC.jI.mp h];exact aC.nil
 | d::ds,xs,n+1,h=>by
   obtain⟨x,r,rfl,hx,tr⟩:=aC.ju.mp h
   exact aC.cons hx (aC.take n tr)
theorem aC.set{K:aK}{H:Hp}{d':D}{x':V}(q:Is K H d' x'):∀{ds:List D} {xs:List V} (n:Nat),aC K H ds xs->aC K H (ds.set n d') (xs.set n x')
 | [],xs,n,h=>by rw[aC.jI.mp h];exact aC.nil
 | d::ds,xs,0,h=>by
   obtain⟨x,r,rfl,hx,tr⟩:=aC.ju.mp h
   exact aC.cons q tr
 | d::ds,xs,n+1,h=>by
   obtain⟨x,r,rfl,hx,tr⟩:=aC.ju.mp h
   exact aC.cons hx (aC.set q n tr)
theorem aC.ints{K:aK}{H:Hp}:∀ns:List Int,aC K H (ns.map D.int) (ns.map V.int)
 | []=>aC.nil
 | n::ns=>aC.cons (Is.bT.mpr rfl) (aC.ints ns)
theorem aC.wd{K:aK}{H:Hp}:∀{ns:List Int} {xs:List V},aC K H (ns.map D.int) xs->xs=ns.map V.int
 | [],xs,h=>aC.jI.mp h
 | n::ns,xs,h=>by
   obtain⟨x,r,rfl,hx,tr⟩:=aC.ju.mp h
   rw[Is.bT.mp hx,aC.wd tr];rfl
def aS(F:List Addr)(H:Hp):Hp:=λb=>if b∈F then none else H b
theorem za{F:List Addr}{H:Hp}{b:Addr}(h:b∈F):aS F H b=none:=by unfold aS;rw[if_pos h]
theorem fc{F:List Addr}{H:Hp}{b:Addr}(h:b ∉ F):aS F H b=H b:=by unfold aS;rw[if_neg h]
theorem kD{F:List Addr}{H:Hp}{b:Addr}{o:HO}(h:aS F H b=some o):b ∉ F/\H b=some o:=by
 unfold aS at h
 by_cases q:b∈F
 ·rw[if_pos q] at h;cases h
 ·rw[if_neg q] at h;exact⟨q,h⟩
def cn(H:Hp)(F:List Addr):Prop:=∀b∈F,∃xs,H b=some (.lst xs)
theorem cn.same{H H':Hp}{F:List Addr}(h:cn H F)(e:aW H H'):cn H' F:=λb hb=>let ⟨xs,q⟩:=h b hb;⟨xs,e _ _ q⟩
theorem cn.nil{H:Hp}:cn H []:=λb hb=>by simp at hb
theorem cn.cons{H:Hp}{F:List Addr}{a:Addr}{xs:List V}(h:cn H F)(e:H a=some (.lst xs)):cn H (a::F):=λb hb=>by
 rcases List.mem_cons.mp hb with z | z
 ·subst z;exact⟨xs,e⟩
 ·exact h b z
theorem Y5{H:Hp}{F:List Addr}{a:Addr}:aW (aS (a::F) H) (aS F H):=λb o h=>by
 obtain⟨h1,h2⟩:=kD h
 rw[fc λz=>h1 (bY _ z)];exact h2
theorem O9{H H':Hp}{F:List Addr}{a:Addr}(e:aW H H')(hn:H a=none):aW (aS F H) (aS (a::F) H'):=λb o h=>by
 obtain⟨h1,h2⟩:=kD h
 rw[fc λz=>(List.mem_cons.mp z).elim (λq=>by rw[q,hn] at h2;cases h2) h1]
 exact e _ _ h2
theorem gG{H H':Hp}{F:List Addr}(e:aW H H'):aW (aS F H) (aS F H'):=λb o h=>by
 obtain⟨h1,h2⟩:=kD h
 rw[fc h1];exact e _ _ h2
theorem lH{H:Hp}{F:List Addr}:aW (aS F H) H:=λb o h=>(kD h).2
theorem O_{K:aK}{H:Hp}{F:List Addr}{a:Addr}{xs:List V}(fo:cn H F)(h:cE K H a xs):cE K (aS F H) a xs:=by
 rcases h with (h1 | ⟨o,h1⟩) | h1
 ·refine .inl (.inl ?_)
  rw[fc λq=>by obtain⟨ys,z⟩:=fo a q;rw[h1] at z;cases z];exact h1
 ·refine .inl (.inr ⟨o,?_⟩)
  rw[fc λq=>by obtain⟨ys,z⟩:=fo a q;rw[h1] at z;cases z];exact h1
 ·exact .inr h1
mutual
theorem Is.aS{K:aK}{H:Hp}{F:List Addr}(fo:cn H F):∀(d:D) (v:V),d.cK=true->Is K H d v->Is K (aS F H) d v
 | .bS,_,_,h=>h
 | .bl _,_,_,h=>h
 | .int _,_,_,h=>h
 | .str _,_,_,h=>h
 | .tup ds,v,n,h=>by
   obtain⟨a,xs,e,h1,h2⟩:=Is.eQ.mp h
   exact Is.eQ.mpr ⟨a,xs,e,O_ fo h1,aC.aS fo ds xs (by simpa [D.cK] using n) h2⟩
 | .lst ds,v,n,h=>by simp[D.cK] at n
 | .kn,v,n,h=>by simp[D.cK] at n
 | .exc c,v,n,h=>by
   unfold Is at h ⊢
   obtain⟨a,oe,C,e,h1,h2⟩:=h
   refine⟨a,oe,C,e,?_,h2⟩
   rw[fc λq=>by obtain⟨ys,z⟩:=fo a q;rw[h1] at z;cases z];exact h1
theorem aC.aS{K:aK}{H:Hp}{F:List Addr}(fo:cn H F):∀(ds:List D) (xs:List V),D.bQ ds=true->aC K H ds xs->aC K (aS F H) ds xs
 | [],_,_,h=>h
 | d::ds,xs,n,h=>by
   obtain⟨x,r,e,h1,h2⟩:=aC.ju.mp h
   have n':d.cK=true/\D.bQ ds=true:=by simpa [D.bQ] using n
   exact aC.ju.mpr ⟨x,r,e,Is.aS fo d x n'.1 h1,aC.aS fo ds r n'.2 h2⟩
end
structure Rel (K:aK) (H:Hp) (F:List Addr) (Γ:G) (σ:St):Prop where
 len:Γ.length=σ.length
 ro:∀(i:Nat) d,Γ[i]? = some (.ro d)->∃v,σ[i]? = some (some v)/\Is K (aS F H) d v
 own:∀(i:Nat) ds,Γ[i]? = some (.own ds)->∃a xs,σ[i]? = some (some (.ref a))/\a∈F/\H a=some (.lst xs)/\aC K (aS F H) ds xs
 inj:∀(i j:Nat) ds es a,Γ[i]? = some (.own ds)->Γ[j]? = some (.own es)->σ[i]? = some (some (.ref a))->σ[j]? = some (some (.ref a))->i=j
theorem Rel.same{K:aK}{H H':Hp}{F:List Addr}{Γ:G}{σ:St}(r:Rel K H F Γ σ)(e:aW H H'):Rel K H' F Γ σ :=
 ⟨r.len,λi d h=>let ⟨v,h1,h2⟩:=r.ro i d h;⟨v,h1,h2.same (gG e)⟩,λi ds h=>let ⟨a,xs,h1,h2,h3,h4⟩:=r.own i ds h;⟨a,xs,h1,h2,e _ _ h3,h4.same (gG e)⟩,r.inj⟩
theorem Rel.look{K:aK}{H:Hp}{F:List Addr}{Γ:G}{σ:St}(r:Rel K H F Γ σ){i:Nat}{d:D}(h:lk Γ i = .ok d):∃v,σ[i]? = some (some v)/\Is K H d v:=by
 unfold lk at h
 cases e:Γ[i]? with
 | none=>rw[e] at h;cases h
 | some en =>
   rw[e] at h
   cases en with
   | no=>cases h
   | ro d'=>cases h;obtain⟨v,h1,h2⟩:=r.ro i d e;exact⟨v,h1,h2.same lH⟩
   | own ds =>
     cases h
     obtain⟨a,xs,h1,h2,h3,h4⟩:=r.own i ds e
     exact⟨.ref a,h1,Is.fb.mpr ⟨a,xs,rfl,bW.of h3,h4.same lH⟩⟩
theorem Rel.Y6{K:aK}{H:Hp}{F:List Addr}{Γ:G}{σ:St}(r:Rel K H F Γ σ){i:Nat}{d:D}(h:o7 Γ i = .ok d):∃v,σ[i]? = some (some v)/\Is K (aS F H) d v:=by
 unfold o7 at h
 cases e:Γ[i]? with
 | none=>rw[e] at h;cases h
 | some en =>
   rw[e] at h
   cases en with
   | no=>cases h
   | ro d'=>cases h;exact r.ro i d e
   | own ds=>cases h
structure Ext (H:Hp) (F:List Addr) (H':Hp) (F':List Addr):Prop where
 keep:∀b o,b ∉ F->H b=some o->H' b=some o
 old:∀b,b∈F'->b∈F∨H b=none
theorem Ext.refl{H:Hp}{F:List Addr}:Ext H F H F:=⟨λ_ _ _ h=>h,λ_ h=>.inl h⟩
theorem Ext.of_same{H H':Hp}{F:List Addr}(e:aW H H'):Ext H F H' F:=⟨λ_ _ _ h=>e _ _ h,λ_ h=>.inl h⟩
theorem Ext.trans{H H1 H2:Hp}{F F1 F2:List Addr}(a:Ext H F H1 F1)(b:Ext H1 F1 H2 F2):Ext H F H2 F2 where
 keep:=λc o hc h=>b.keep c o (λz=>(a.old c z).elim hc λn=>by rw[h] at n;cases n) (a.keep c o hc h)
 old:=λc hc=>by
  rcases b.old c hc with h | h
  ·exact a.old c h
  ·by_cases q:c∈F
   ·exact .inl q
   ·refine .inr ?_
    cases e:H c with
    | none=>rfl
    | some o=>rw[a.keep c o q e] at h;cases h
theorem Ext.same{H H':Hp}{F':List Addr}(e:Ext H [] H' F'):aW H H':=λb o h=>e.keep b o (by simp) h
theorem Ext.aS{H H':Hp}{F F':List Addr}(e:Ext H F H' F'):aW (aS F H) (aS F' H'):=λb o h=>by
 obtain⟨h1,h2⟩:=kD h
 have h3:=e.keep b o h1 h2
 rw[fc λz=>(e.old b z).elim h1 λn=>by rw[h2] at n;cases n]
 exact h3
def ui(X:Cx)(pins:List (Addr×Obj))(σ:St)(H:Hp)(c:Er)(x:ae)(s:aq):Prop :=
 Inv X pins σ H s/\∃(e C:Addr) (oe:Obj) (vs:Array ae),x = .ref e/\X.mg c.nm=some (.ref C)/\H e=none/\X.s₀.heap.get? e=none/\e≠X.env.locals/\(∀y k,X.env.cells.lookup y=some k->k≠e)/\(∀p∈X.pn++pins,p.1≠e) /\
  s.heap.get? e=some oe/\oe.cls = .ref C/\oe.data = .fields vs/\(∃a0,vs[0]? = some a0) /\
  (vs[1]? = some .none∨∃(T:Addr) (oT:Obj) (ts:Array ae),vs[1]? = some (.ref T)/\H T=none/\X.s₀.heap.get? T=none/\T≠X.env.locals/\(∀y k,X.env.cells.lookup y=some k->k≠T)/\(∀p∈X.pn++pins,p.1≠T)/\T≠e /\
    s.heap.get? T=some oT/\oT.data = .fields ts/\(ts[3]? = some .none∨∃L,X.env.frame=some L/\ts[3]? = some (rawInt L)))
def fD(X:Cx)(pins:List (Addr×Obj))(σ:St)(H:Hp)(r:R D)(u:ae)(s':aq):Prop :=
 ∃d v H',r = .ok d/\Inv X pins σ H' s'/\RelV v u/\aW H H'/\Is X.K H' d v
def cb{α:Type}(X:Cx)(pins:List (Addr×Obj))(σ:St)(H:Hp)(r:R α)(x:ae)(s':aq):Prop :=
 ∃c H',r = .er c/\aW H H'/\ui X pins σ H' c x s'
theorem cb.bind{α β:Type}{X:Cx}{pins:List (Addr×Obj)}{σ:St}{H:Hp}{r:R α}{x:ae}{s':aq}(h:cb X pins σ H r x s')(k:α->R β):cb X pins σ H (r>>=k) x s':=by
 obtain⟨c,H',e,h1,h2⟩:=h
 exact⟨c,H',R.stop e k,h1,h2⟩
theorem cb.later{α β:Type}{X:Cx}{pins:List (Addr×Obj)}{σ:St}{H H1:Hp}{r:R α}{a:α}{k:α->R β}{x:ae}{s':aq}(e:r = .ok a)(s:aW H H1)(h:cb X pins σ H1 (k a) x s'):cb X pins σ H (r>>=k) x s':=by
 obtain⟨c,H',e1,h1,h2⟩:=h
 exact⟨c,H',(R.step e k).trans e1,s.trans h1,h2⟩
structure PD (X:Cx) (e:Expr) (g:G->R D):Prop where
 run:∀(pins:List (Addr×Obj)) (s:aq) (σ:St) (H:Hp) (F:List Addr) (Γ:G),Inv X pins σ H s->cn H F->Rel X.K H F Γ σ->g Γ ≠ .no ->
  az (aJ X.prog X.w) X.A (eval e X.env) (fD X pins σ H (g Γ)) (cb X pins σ H (g Γ)) s
structure gY (X:Cx) (e:Expr) (g:G->R D):Prop where
 run:∀(pins:List (Addr×Obj)) (s:aq) (σ:St) (H:Hp) (F:List Addr) (Γ:G),Inv X pins σ H s->cn H F->Rel X.K H F Γ σ->g Γ ≠ .no ->
  az (aJ X.prog X.w) X.A (eval e X.env) (λu s'=>∃d v H',g Γ = .ok d/\Inv X pins σ H' s'/\RelV v u/\aW H H'/\Is X.K (aS F H') d v) (cb X pins σ H (g Γ)) s
structure PF (X:Cx) (e:Expr) (g:G->R (List D)):Prop where
 run:∀(pins:List (Addr×Obj)) (s:aq) (σ:St) (H:Hp) (F:List Addr) (Γ:G),Inv X pins σ H s->cn H F->Rel X.K H F Γ σ->g Γ ≠ .no ->
  az (aJ X.prog X.w) X.A (eval e X.env) (λu s'=>∃ds a xs H',g Γ = .ok ds/\Inv X pins σ H' s'/\u = .ref a/\aW H H'/\H a=none/\H' a=some (.lst xs)/\aC X.K (aS (a::F) H') ds xs) (cb X pins σ H (g Γ)) s
structure jU (X:Cx) (e:Expr) (g:G->R Bool):Prop where
 run:∀(pins:List (Addr×Obj)) (s:aq) (σ:St) (H:Hp) (F:List Addr) (Γ:G),Inv X pins σ H s->cn H F->Rel X.K H F Γ σ->g Γ ≠ .no ->
  az (aJ X.prog X.w) X.A (rn e X.env (eval e X.env)) (λb s'=>∃H',g Γ = .ok b/\Inv X pins σ H' s'/\aW H H') (cb X pins σ H (g Γ)) s
structure jV (X:Cx) (e:Expr) (g:G->R Bool):Prop where
 run:∀(whole:Sem ae) (pins:List (Addr×Obj)) (s:aq) (σ:St) (H:Hp) (F:List Addr) (Γ:G),Inv X pins σ H s->cn H F->Rel X.K H F Γ σ->g Γ ≠ .no ->
  az (aJ X.prog X.w) X.A (rn e X.env whole) (λb s'=>∃H',g Γ = .ok b/\Inv X pins σ H' s'/\aW H H') (cb X pins σ H (g Γ)) s
theorem jV.pt{X:Cx}{e:Expr}{g:G->R Bool}(h:jV X e g):jU X e g:=⟨h.run _⟩
structure n6 (X:Cx) (es:List Expr) (g:G->R (List D)):Prop where
 run:∀(pos:Pos) (pins:List (Addr×Obj)) (s:aq) (σ:St) (H:Hp) (F:List Addr) (Γ:G),Inv X pins σ H s->cn H F->Rel X.K H F Γ σ->g Γ ≠ .no ->
  az (aJ X.prog X.w) X.A (h_ (de pos (bR es X.env))) (λus s'=>∃ds vs H',g Γ = .ok ds/\Inv X pins σ H' s'/\Vals vs us/\aW H H'/\aC X.K H' ds vs) (cb X pins σ H (g Γ)) s
section
variable {X:Cx}{e a b c:Expr}{g ga gb gc:G->R D}{pos:Pos}
theorem gY.pd(h:gY X e g):PD X e g:=⟨λpins s σ H F Γ I fo rl hg =>
 fm (h.run pins s σ H F Γ I fo rl hg) λ_ _ ⟨d,v,H',e1,I',r,S,i⟩=>⟨d,v,H',e1,I',r,S,i.same lH⟩⟩
theorem PD.ro(h:PD X e g):gY X e (aL g):=⟨λpins s σ H F Γ I fo rl hg =>
 aH (h.run pins s σ H F Γ I fo rl (R.left hg)) (λ_ _ ⟨d,v,H',e1,I',r,S,i⟩=>by
  have eU:=R.next hg e1
  obtain⟨n,e2⟩:=R.dz eU
  exact⟨d,v,H',(R.step e1 _).trans e2,I',r,S,Is.aS (fo.same S) d v n i⟩) λ_ _ x=>x.bind _⟩
theorem PF.ro{g:G->R (List D)}(h:PF X e g):gY X e (gL g):=⟨λpins s σ H F Γ I fo rl hg =>
 aH (h.run pins s σ H F Γ I fo rl (R.left hg)) (λ_ _ ⟨ds,p,xs,H',e1,I',eu,S,hn,hp,i⟩=>by
  have hF:p ∉ F:=λz=>by obtain⟨ys,q⟩:=fo p z;rw[hn] at q;cases q
  exact⟨.lst ds,.ref p,H',(R.step e1 _),I',eu,S,Is.fb.mpr ⟨p,xs,rfl,bW.of (by rw[fc hF];exact hp),i.same Y5⟩⟩) λ_ _ x=>x.bind _⟩
theorem PF.pd{g:G->R (List D)}(h:PF X e g):PD X e (gL g):=h.ro.pd
theorem PD.of{t:TE}(h:PE X.bZ e t)(hq:∀σ H F Γ,cn H F->Rel X.K H F Γ σ->g Γ ≠ .no->t σ H λv H'=>∃d,g Γ = .ok d/\aW H H'/\Is X.K H' d v):PD X e g:=⟨λpins s σ H F Γ I fo rl hg =>
 aH (h pins s σ H _ (I.dw _) (hq σ H F Γ fo rl hg)) (λ_ _ ⟨v,H',I',r,d,e1,S,i⟩=>⟨d,v,H',e1,I'.fJ,r,S,i⟩) λ_ _ z=>di z⟩
theorem af(i:Nat){x:Str}(hN:X.N[i]? = some x:=by rfl)(hv:ny X.env.scope x:=by first | exact iJ rfl | exact fF (iJ rfl) | exact fF (fF rfl))(hd:(x==("__debug__":Str))=false:=by decide)
 (fq:(x==("__classdict__":Str))=false:=by decide):PD X (.Name x pos) (gV i) :=
 PD.of (t:=KJ i) (vj (X:=X.bZ) hN hv hd fq) λσ H F Γ fo rl hg=>by
  obtain⟨d,e⟩:=VJ hg
  obtain⟨v,h1,h2⟩:=rl.look e
  exact⟨v,h1,d,e,.refl _,h2⟩
theorem fW(i:Nat){x:Str}(hN:X.N[i]? = some x:=by rfl)(hv:ny X.env.scope x:=by first | exact iJ rfl | exact fF (iJ rfl) | exact fF (fF rfl))(hd:(x==("__debug__":Str))=false:=by decide)
 (fq:(x==("__classdict__":Str))=false:=by decide):gY X (.Name x pos) (dF i):=by
 refine⟨λpins s σ H F Γ I fo rl hg=>?_⟩
 obtain⟨d,e⟩:=VL hg
 obtain⟨v,h1,h2⟩:=rl.Y6 e
 exact aH (vj (X:=X.bZ) hN hv hd fq pins s σ H (λv' H'=>v'=v/\H'=H) (I.dw _) ⟨v,h1,rfl,rfl⟩) (λ_ _ ⟨v',H',I',r,e1,e2⟩=>by
  subst e1 e2
  exact⟨d,v',H',e,I'.fJ,r,.refl _,h2⟩) λ_ _ z=>di z
theorem aN{i:Int}{j}:PD X (.Constant (.int i) j pos) (gC (.int i)):=PD.of (t:=tC (.int i)) Ug λ_ _ _ _ _ _ _=>⟨_,rfl,.refl _,Is.bT.mpr rfl⟩
theorem Gw{b:Bool}{j}:PD X (.Constant (.bool b) j pos) (gC (.bl b)):=PD.of (t:=tC (.bl b)) Uh λ_ _ _ _ _ _ _=>⟨_,rfl,.refl _,Is.jt.mpr rfl⟩
theorem zb{j}:PD X (.Constant .none j pos) (gC .bS):=PD.of (t:=tC .bS) Ui λ_ _ _ _ _ _ _=>⟨_,rfl,.refl _,Is.y_.mpr rfl⟩
theorem iw{x:Str}{j}:PD X (.Constant (.str x) j pos) (gC (.str x)):=PD.of (t:=tC (.str x)) Uj λ_ _ _ _ _ _ _=>⟨_,rfl,.refl _,Is.O8.mpr rfl⟩
theorem Y7{x:Str}{d:D}{v:V}{u:ae}(hg:Gl X x)(hm:X.mg x=some u)(r:RelV v u)(i:∀H,Is X.K H d v)(hd:(x==("__debug__":Str))=false:=by decide):PD X (.Name x pos) (gC d) :=
 PD.of (t:=tC v) (Uk (X:=X.bZ) hg hm r hd) λ_ H _ _ _ _ _=>⟨_,rfl,.refl _,i H⟩
def fX(X:Cx)(f:ae->ae->Sem ae)(g:D->D->R D):Prop:=∃r:R2,eE X.bZ f r/\∀H x y dx dy,Is X.K H dx x->Is X.K H dy y->g dx dy ≠ .no->r x y H λz H'=>∃d,g dx dy = .ok d/\aW H H'/\Is X.K H' d z
theorem fX.run{f:ae->ae->Sem ae}{g:D->D->R D}(h:fX X f g){pins:List (Addr×Obj)}{s:aq}{σ:St}{H:Hp}{x y:V}{v u:ae}{dx dy:D}(I:Inv X pins σ H s)(rx:RelV x v)(ry:RelV y u)
 (ix:Is X.K H dx x) (iy:Is X.K H dy y) (hg:g dx dy ≠ .no) {E:ae->aq->Prop}:az (aJ X.prog X.w) X.A (f v u) (fD X pins σ H (g dx dy)) E s:=by
 obtain⟨r,ho,hr⟩:=h
 exact aH (ho pins s σ H x y v u _ (I.dw _) rx ry (hr H x y dx dy ix iy hg)) (λ_ _ ⟨z,H',I',rz,d,e,S,i⟩=>⟨d,z,H',e,I'.fJ,rz,S,i⟩) λ_ _ z=>di z
theorem fD.bind{pins:List (Addr×Obj)}{σ:St}{H H1:Hp}{α:Type}{r:R α}{k:α->R D}{a:α}{u:ae}{s':aq}(e:r = .ok a)(S:aW H H1)(h:fD X pins σ H1 (k a) u s'):fD X pins σ H (r>>=k) u s':=by
 obtain⟨d,v,H',e1,I,rv,S1,i⟩:=h
 exact⟨d,v,H',(R.step e k).trans e1,I,rv,S.trans S1,i⟩
theorem Gx{g2:D->D->R D}{f:ae->ae->Sem ae}(ho:fX X f g2)(ha:PD X a ga)(hb:PD X b gb){pins:List (Addr×Obj)}{s:aq}{σ:St}{H:Hp}{F:List Addr}{Γ:G}(I:Inv X pins σ H s)(fo:cn H F)(rl:Rel X.K H F Γ σ)(hg:au g2 ga gb Γ ≠ .no) :
 az (aJ X.prog X.w) X.A (eval a X.env) (λv cy=>az (aJ X.prog X.w) X.A (eval b X.env) (λu aA=>az (aJ X.prog X.w) X.A (f v u) (fD X pins σ H (au g2 ga gb Γ)) (cb X pins σ H (au g2 ga gb Γ)) aA) (cb X pins σ H (au g2 ga gb Γ)) cy) (cb X pins σ H (au g2 ga gb Γ)) s:=by
 refine aH (ha.run pins s σ H F Γ I fo rl (R.left hg)) (λv s1 ⟨dx,x,H1,e1,I1,r1,S1,i1⟩=>?_) λ_ _ x=>x.bind _
 have a9:=R.next hg e1
 refine aH (hb.run pins s1 σ H1 F Γ I1 (fo.same S1) (rl.same S1) (R.left a9)) (λu s2 ⟨dy,y,H2,e2,I2,r2,S2,i2⟩=>?_) λ_ _ x=>cb.later e1 S1 (x.bind _)
 have dg:=R.next a9 e2
 exact fm (ho.run I2 r1 r2 (i1.same S2) i2 dg) λ_ _ q=>fD.bind e1 S1 (fD.bind e2 S2 q)
theorem aZ{op:Operator}{g2:D->D->R D}(ho:fX X (hJ op) g2)(ha:PD X a ga)(hb:PD X b gb):PD X (.BinOp a op b pos) (au g2 ga gb):=⟨λpins s σ H F Γ I fo rl hg=>SR (Gx ho ha hb I fo rl hg)⟩
theorem Pa{op:CmpOp}{g2:D->D->R D}(ho:fX X (m8 op) g2)(ha:PD X a ga)(hb:PD X b gb)(hm:Jk op b=false):PD X (.Compare a [op] [b] pos) (au g2 ga gb):=⟨λpins s σ H F Γ I fo rl hg=>wpAny_Compare1 (Gx ho ha hb I fo rl hg) hm⟩
theorem Pb{pins:List (Addr×Obj)}{σ:St}{H:Hp}{r:R D}{u:ae}{s':aq}(h:fD X pins σ H r u s')(hg:(r>>=vv) ≠ .no):∃b H',u = .bool b/\(r>>=vv) = .ok b/\Inv X pins σ H' s'/\aW H H':=by
 obtain⟨d,v,H',e1,I,rv,S,i⟩:=h
 obtain⟨b,rfl,e2⟩:=VR (R.next hg e1)
 rw[Is.jt.mp i] at rv
 exact⟨b,H',rv,(R.step e1 _).trans e2,I,S⟩
theorem cW{op:CmpOp}{g2:D->D->R D}(ho:fX X (m8 op) g2)(ha:PD X a ga)(hb:PD X b gb)(hm:Jk op b=false):jU X (.Compare a [op] [b] pos) (gT (au g2 ga gb)):=by
 refine⟨λpins s σ H F Γ I fo rl hg=>?_⟩
 refine wpAny_isTrue_Compare1 (aH (Gx ho ha hb I fo rl (R.left hg)) (λv s1 h1=>aH h1 (λu s2 h2=>aH h2 (λz s3 h3=>?_) λ_ _ x=>x.bind _) λ_ _ x=>x.bind _) λ_ _ x=>x.bind _) hm
 obtain⟨b,H',rfl,e,I',S⟩:=Pb h3 hg
 exact SS ⟨H',e,I',S⟩
theorem Pc(ha:PD X a ga)(he:∀whole,rn a X.env whole=(do let v <-whole;SU a.pos;AQ [v] (truthy v)):=by intro _;rfl):jU X a (gT ga):=by
 refine⟨λpins s σ H F Γ I fo rl hg=>?_⟩
 refine isTrue_plain (aH (ha.run pins s σ H F Γ I fo rl (R.left hg)) (λv s1 h3=>?_) λ_ _ x=>x.bind _) (he _)
 obtain⟨b,H',rfl,e,I',S⟩:=Pb h3 hg
 exact SS ⟨H',e,I',S⟩
variable {gA gB:G->R Bool}{rest:List Expr}
theorem we(ha:jU X a gA):jV X (.BoolOp .And [a] pos) gA:=by
 refine⟨λwh pins s σ H F Γ I fo rl hg=>?_⟩
 refine isTrue_and (fm (ha.run pins s σ H F Γ I fo rl hg) λc s1 e=>?_)
 cases c with
 | true=>exact isTrue_and_nil e
 | false=>exact e
theorem Y8(ha:jU X a gA):jV X (.BoolOp .Or [a] pos) gA:=by
 refine⟨λwh pins s σ H F Γ I fo rl hg=>?_⟩
 refine isTrue_or (fm (ha.run pins s σ H F Γ I fo rl hg) λc s1 e=>?_)
 cases c with
 | false=>exact isTrue_or_nil e
 | true=>exact e
theorem uj(ha:jU X a gA)(hb:jV X (.BoolOp .And (b::rest) pos) gB):jV X (.BoolOp .And (a::b::rest) pos) (mi gA gB):=by
 refine⟨λwh pins s σ H F Γ I fo rl hg=>?_⟩
 refine isTrue_and (aH (ha.run pins s σ H F Γ I fo rl (R.left hg)) (λc s1 ⟨H1,e1,I1,S1⟩=>?_) λ_ _ x=>x.bind _)
 have a9:=R.next hg e1
 cases c with
 | true=>exact aH (hb.run wh pins s1 σ H1 F Γ I1 (fo.same S1) (rl.same S1) a9) (λ_ _ ⟨H2,e2,I2,S2⟩=>⟨H2,(R.step e1 _).trans e2,I2,S1.trans S2⟩) λ_ _ x=>cb.later e1 S1 x
 | false=>exact⟨H1,R.step e1 _,I1,S1⟩
theorem Y9(ha:jU X a gA)(hb:jV X (.BoolOp .Or (b::rest) pos) gB):jV X (.BoolOp .Or (a::b::rest) pos) (Ew gA gB):=by
 refine⟨λwh pins s σ H F Γ I fo rl hg=>?_⟩
 refine isTrue_or (aH (ha.run pins s σ H F Γ I fo rl (R.left hg)) (λc s1 ⟨H1,e1,I1,S1⟩=>?_) λ_ _ x=>x.bind _)
 have a9:=R.next hg e1
 cases c with
 | false=>exact aH (hb.run wh pins s1 σ H1 F Γ I1 (fo.same S1) (rl.same S1) a9) (λ_ _ ⟨H2,e2,I2,S2⟩=>⟨H2,(R.step e1 _).trans e2,I2,S1.trans S2⟩) λ_ _ x=>cb.later e1 S1 x
 | true=>exact⟨H1,R.step e1 _,I1,S1⟩
theorem Pd(ha:jU X a gA):jU X (.UnaryOp .Not a pos) (Br gA):=⟨λpins s σ H F Γ I fo rl hg =>
 isTrue_not (aH (ha.run pins s σ H F Γ I fo rl (R.left hg)) (λc s1 ⟨H1,e1,I1,S1⟩=>⟨H1,R.step e1 _,I1,S1⟩) λ_ _ x=>x.bind _)⟩
theorem Cz(ha:PD X a ga):PD X (.UnaryOp .USub a pos) (tD ga):=by
 refine⟨λpins s σ H F Γ I fo rl hg=>?_⟩
 refine UnaryOp_ (aH (ha.run pins s σ H F Γ I fo rl (R.left hg)) (λv s1 ⟨d,x,H1,e1,I1,r1,S1,i1⟩=>?_) λ_ _ x=>x.bind _)
 have a9:=R.next hg e1
 cases d with
 | int i =>
   rw[Is.bT.mp i1] at r1
   obtain⟨t,rfl⟩:=r1
   exact neg_int (fD.bind e1 S1 ⟨.int (-i),.int (-i),H1,rfl,I1.tok _,⟨_,rfl⟩,.refl _,Is.bT.mpr rfl⟩)
 | _=>exact absurd rfl a9
theorem Y_(hc:jU X c gA)(ha:PD X a ga)(hb:PD X b gb):PD X (.IfExp c a b pos) (Ey gA ga gb):=by
 refine⟨λpins s σ H F Γ I fo rl hg=>?_⟩
 refine wpAny_IfExp (aH (hc.run pins s σ H F Γ I fo rl (R.left hg)) (λk s1 ⟨H1,e1,I1,S1⟩=>?_) λ_ _ x=>x.bind _)
 have a9:=R.next hg e1
 cases k with
 | true=>exact aH (ha.run pins s1 σ H1 F Γ I1 (fo.same S1) (rl.same S1) a9) (λ_ _ q=>fD.bind e1 S1 q) λ_ _ q=>cb.later e1 S1 q
 | false=>exact aH (hb.run pins s1 σ H1 F Γ I1 (fo.same S1) (rl.same S1) a9) (λ_ _ q=>fD.bind e1 S1 q) λ_ _ q=>cb.later e1 S1 q
variable {es:List Expr}{gs:G->R (List D)}
theorem aE:n6 X [] aB:=⟨λpos pins s σ H F Γ I fo rl hg=>l9 ⟨[],[],H,rfl,I,.nil,.refl _,aC.nil⟩⟩
theorem ar(ha:PD X e g)(hr:n6 X es gs)(hs:bR (e::es) X.env=(false,eval e X.env)::bR es X.env:=by rfl):n6 X (e::es) (ai g gs):=by
 refine⟨λpos pins s σ H F Γ I fo rl hg=>?_⟩
 rw[hs]
 show az _ _ (h_ ((false,eval e X.env)::de pos (bR es X.env))) _ _ s
 refine jk (aH (ha.run pins s σ H F Γ I fo rl (R.left hg)) (λu s1 ⟨d,x,H1,e1,I1,r1,S1,i1⟩=>?_) λ_ _ x=>x.bind _)
 have a9:=R.next hg e1
 refine aH (hr.run pos pins s1 σ H1 F Γ I1 (fo.same S1) (rl.same S1) (R.left a9)) (λus s2 ⟨ds,vs,H2,e2,I2,r2,S2,i2⟩=>?_) λ_ _ x=>cb.later e1 S1 (x.bind _)
 exact⟨d::ds,x::vs,H2,(R.step e1 _).trans (R.step e2 _),I2,.cons r1 r2,S1.trans S2,aC.cons (i1.same S2) i2⟩
theorem uk{n:Nat}(h:n<=1000):n<=cq:=uM (VA h)
theorem iA{H:Hp}{p:Addr}(h:H p=none)(o:HO):aW H (upd H p o):=λb u q=>by rw[bP (fI q h)];exact q
theorem lI{x1}(h:n6 X es gs):PD X (.Tuple es x1 pos) (dW gs):=by
 refine⟨λpins s σ H F Γ I fo rl hg=>?_⟩
 refine wpAny_Tuple_spliced (aH (h.run pos pins s σ H F Γ I fo rl (R.left hg)) (λus s1 ⟨ds,vs,H1,e1,I1,r1,S1,i1⟩=>?_) λ_ _ x=>x.bind _)
 have eU:=R.next hg e1
 obtain⟨hl,e2⟩:=R.dz eU
 have hz:vs.length<=cq:=by rw[<-i1.length];exact uk hl
 refine⟨by rw[<-r1.length];exact hz,?_⟩
 have hf:H1 s1.heap.objs.size=none:=I1.aQ.fresh (bA _)
 have S2:=iA hf (.tup vs)
 refine fD.bind e1 S1 ⟨.tup ds,.ref s1.heap.objs.size,upd H1 s1.heap.objs.size (.tup vs),e2,I1.laid (t':=s1.toks) (λb u e=>bB _ e) (bA _) ?_,rfl,S2,Is.eQ.mpr ⟨_,vs,rfl,cE.of dq,i1.same S2⟩⟩
 exact⟨hz,us,r1,⟨_,c_ _ rfl,rfl,_,rfl⟩⟩
theorem jv(h:n6 X es gs):PF X (.List es pos) (gS gs):=by
 refine⟨λpins s σ H F Γ I fo rl hg=>?_⟩
 refine wpAny_List_spliced (aH (h.run pos pins s σ H F Γ I fo rl (R.left hg)) (λus s1 ⟨ds,vs,H1,e1,I1,r1,S1,i1⟩=>?_) λ_ _ x=>x.bind _)
 have eU:=R.next hg e1
 obtain⟨⟨hl,hn⟩,e2⟩:=R.dz eU
 have hz:vs.length<=cq:=by rw[<-i1.length];exact uk hl
 refine⟨by rw[<-r1.length];exact hz,?_⟩
 have hf:H1 s1.heap.objs.size=none:=I1.aQ.fresh (bA _)
 have S2:=iA hf (.lst vs)
 have hH:H s1.heap.objs.size=none:=S1.free hf
 refine⟨ds,s1.heap.objs.size,vs,upd H1 s1.heap.objs.size (.lst vs),(R.step e1 _).trans e2,I1.laid (t':=s1.toks) (λb u e=>bB _ e) (bA _) ?_,rfl,S1.trans S2,hH,dq,?_⟩
 ·exact⟨hz,us,0,r1,c_ _ rfl⟩
 ·exact aC.aS (((fo.same S1).same S2).cons dq) ds vs hn (i1.same S2)
end
section
variable {X:Cx}{e a b c:Expr}{g ga gb gc:G->R D}{pos:Pos}
theorem zc{f:ae->ae->Sem ae}{C:Int->Int->Prop}[∀i j,Decidable (C i j)]{v:Int->Int->V}{d:Int->Int->D}(hd:∀K H i j,Is K H (d i j) (v i j))(ho:eE X.bZ f (rI C v)) :
 fX X f (λx y=>match x,y with | .int i,.int j=>R.guard (C i j) (.ok (d i j)) | _,_=>.no):=by
 refine⟨_,ho,λH x y dx dy ix iy hg=>?_⟩
 cases dx with
 | int i =>
   cases dy with
   | int j =>
     obtain⟨hc,e⟩:=R.dz (show R.guard (C i j) (.ok (d i j)) ≠ .no from hg)
     exact⟨i,j,Is.bT.mp ix,Is.bT.mp iy,hc,d i j,e,.refl _,hd _ _ _ _⟩
   | _=>exact absurd rfl hg
 | _=>exact absurd rfl hg
theorem CA{f:ae->ae->Sem ae}{v:Int->Int->V}{d:Int->Int->D}(hd:∀K H i j,Is K H (d i j) (v i j))(ho:eE X.bZ f (rO v)) :
 fX X f (λx y=>match x,y with | .int i,.int j=>.ok (d i j) | _,_=>.no):=by
 refine⟨_,ho,λH x y dx dy ix iy hg=>?_⟩
 cases dx with
 | int i =>
   cases dy with
   | int j=>exact⟨i,j,Is.bT.mp ix,Is.bT.mp iy,d i j,rfl,.refl _,hd _ _ _ _⟩
   | _=>exact absurd rfl hg
 | _=>exact absurd rfl hg
theorem n9:fX X (hJ .Sub) ig:=CA (d:=λi j=>.int (i-j)) (λ_ _ _ _=>Is.bT.mpr rfl) Ux
theorem kE:fX X (hJ .FloorDiv) gu:=zc (d:=λi j=>.int (i/j)) (λ_ _ _ _=>Is.bT.mpr rfl) (C:=λi j=>0<j/\j<1073741824) Uz
theorem fY:fX X (hJ .Mod) dn:=zc (d:=λi j=>.int (i%j)) (λ_ _ _ _=>Is.bT.mpr rfl) (C:=λi j=>0<j) UA
theorem Za:fX X (hJ .Pow) EB:=zc (d:=λi j=>.int (i^j.toNat)) (λ_ _ _ _=>Is.bT.mpr rfl) (C:=λi j=>0<=j/\j<=1000000/\i.natAbs<18446744073709551616) UB
theorem zd:fX X (m8 .Lt) mq:=CA (d:=λi j=>.bl (decide (i<j))) (λ_ _ _ _=>Is.jt.mpr rfl) UD
theorem Zb:fX X (m8 .LtE) xW:=CA (d:=λi j=>.bl (decide (i<=j))) (λ_ _ _ _=>Is.jt.mpr rfl) UE
theorem ze:fX X (m8 .Gt) rR:=CA (d:=λi j=>.bl (decide (j<i))) (λ_ _ _ _=>Is.jt.mpr rfl) UG
def Zc(K:aK):R2:=λx y H Q=>∃a b xs ys,x = .ref a/\y = .ref b/\cE K H a xs/\cE K H b ys/\xs.length+ys.length<=cq /\
 (xs=[]->Q (.ref b) H)/\(xs≠[]->ys=[]->Q (.ref a) H)/\(xs≠[]->ys≠[]->∀p,H p=none->Q (.ref p) (upd H p (.tup (xs++ys))))
theorem Zd:eE X (hJ .Add) (Zc X.K):=by
 intro pins s σ H x y v u Q I rx ry h
 obtain⟨a,b,xs,ys,rfl,rfl,ha,hb,hz,q0,q1,q2⟩:=h
 by_cases hx:xs=[]
 ·cases rx
  cases ry
  obtain⟨its,r1,p1,_⟩:=I.tuple ha
  obtain⟨kU,r2,p2,_⟩:=I.tuple hb
  have hi:its=[]:=r1.jI.mpr hx
  obtain⟨⟨cls,dd,data,sl⟩,ho,hc,n,hd⟩:=id p1
  obtain⟨⟨UQ,Bj,data2,Bk⟩,p5,nE,n2,hd2⟩:=id p2
  simp only at hc hd nE hd2
  subst hc hd nE hd2
  exact Jo ⟨_,ho,rfl⟩ ⟨_,p5,rfl⟩ RZ R1 R3 R4 (R5 _ _)
   (tuple_addW0 a b its.toArray kU.toArray n n2 dd Bj sl Bk (by rw[hi];rfl)) ⟨ho,p5,⟨.ref b,H,I,rfl,q0 hx⟩⟩
 ·exact U1 pins s σ H _ _ v u Q I rx ry ⟨a,b,xs,ys,rfl,rfl,ha,hb,hx,hz,q1 hx,q2 hx⟩
theorem dQ:fX X (hJ .Add) cz:=by
 refine⟨_,eE.or (Uw (X:=X.bZ)) (Zd (X:=X.bZ)),λH x y dx dy ix iy hg=>?_⟩
 cases dx with
 | int i =>
   cases dy with
   | int j=>exact .inl ⟨i,j,Is.bT.mp ix,Is.bT.mp iy,.int (i+j),rfl,.refl _,Is.bT.mpr rfl⟩
   | _=>exact absurd rfl hg
 | tup ds =>
   cases dy with
   | tup es =>
     obtain⟨hc,e⟩:=R.dz (show R.guard (ds.length+es.length<=1000) (R.ok (D.tup (ds++es)))≠R.no from hg)
     obtain⟨a,xs,rfl,h1,h2⟩:=Is.eQ.mp ix
     obtain⟨b,ys,rfl,h3,h4⟩:=Is.eQ.mp iy
     refine .inr ⟨a,b,xs,ys,rfl,rfl,h1,h3,by rw[<-h2.length,<-h4.length];exact uk hc,λz=>?_,λz z'=>?_,λz z' p hp=>?_⟩
     ·refine⟨.tup (ds++es),e,.refl _,Is.eQ.mpr ⟨b,ys,rfl,h3,?_⟩⟩
      have:ds=[]:=List.length_eq_zero_iff.mp (by rw[h2.length,z];rfl)
      rw[this];exact h4
     ·refine⟨.tup (ds++es),e,.refl _,Is.eQ.mpr ⟨a,xs,rfl,h1,?_⟩⟩
      have:es=[]:=List.length_eq_zero_iff.mp (by rw[h4.length,z'];rfl)
      rw[this,oJ];exact h2
     ·have S:=iA hp (.tup (xs++ys))
      exact⟨.tup (ds++es),e,S,Is.eQ.mpr ⟨p,xs++ys,rfl,cE.of dq,(h2.append h4).same S⟩⟩
   | _=>exact absurd rfl hg
 | _=>exact absurd rfl hg
theorem Ze(l:Addr)(items:Array ae)(n:Nat)(dd:Option Addr)(sl:Array (Option ae))(k:Int)(u:Tok)(h1:(decide (k < -(2^63))||decide (k≥2^63))=false)(hc:(items.isEmpty||k==1)=true) :
 AR (gr.«tuple.__mul__» ⟨[.ref l,.int k u],[]⟩) (λ_ Q s=>s.heap.get? l=some { cls:=.type "tuple",dict:=dd,data:=.seq items n,slots:=sl }/\Q (.ok (.ret (gJ l))) s) :=
 .of_wp λprog w A Q s h=>by obtain⟨hp,g,d,tk,os⟩:=s;obtain⟨hl,h⟩:=h;have f1:=SV;wp_walk using wpAny_loadPart' hl;refine JM (by rw[h1];rfl) ?_;wp_walk using wpAny_loadPart' hl;exact⟨_,rfl,h⟩
theorem Zf(l:Addr)(items:Array ae)(n:Nat)(dd:Option Addr)(sl:Array (Option ae))(k:Int)(u:Tok)(h1:(decide (k < -(2^63))||decide (k≥2^63))=false)(hc:(items.isEmpty||k==1)=false)(nE:(decide (k<=0)||items.isEmpty)=true) :
 AR (gr.«tuple.__mul__» ⟨[.ref l,.int k u],[]⟩) (λ_ Q s=>s.heap.get? l=some { cls:=.type "tuple",dict:=dd,data:=.seq items n,slots:=sl }/\Q (.ok (.ret (gJ s.heap.objs.size))) { s with heap:=s.heap.push { cls:=.type "tuple",data:=.seq #[] } }) :=
 .of_wp λprog w A Q s h=>by obtain⟨hp,g,d,tk,os⟩:=s;obtain⟨hl,h⟩:=h;have f1:=SV;wp_walk using wpAny_loadPart' hl;refine JM (by rw[h1];rfl) ?_;wp_walk using wpAny_loadPart' hl;exact⟨_,rfl,h⟩
theorem Zg(l:Addr)(items:Array ae)(n:Nat)(dd:Option Addr)(sl:Array (Option ae))(k:Int)(u:Tok)(h1:(decide (k < -(2^63))||decide (k≥2^63))=false)(hc:(items.isEmpty||k==1)=false)(nE:(decide (k<=0)||items.isEmpty)=false)(Fc:¬((items.size:Int)*k>(2^63-1)/8))(hc4:a6x ((items.size:Int)*k)=false)(hc5:¬((dI k.toNat items).foldl (λx1 x2=>x1++x2) #[]).size>cq) :
 AR (gr.«tuple.__mul__» ⟨[.ref l,.int k u],[]⟩) (λ_ Q s=>s.heap.get? l=some { cls:=.type "tuple",dict:=dd,data:=.seq items n,slots:=sl }/\Q (.ok (.ret (gJ s.heap.objs.size))) { s with heap:=s.heap.push { cls:=.type "tuple",data:=.seq ((dI k.toNat items).foldl (·++·) #[]) } }) :=
 .of_wp λprog w A Q s h=>by obtain⟨hp,g,d,tk,os⟩:=s;obtain⟨hl,h⟩:=h;have f1:=SV;wp_walk using wpAny_loadPart' hl;refine JM (by rw[h1];rfl) ?_;wp_walk using wpAny_loadPart' hl;refine JM (decide_eq_false Fc) ?_;wp_walk using wpAny_loadPart' hl;exact⟨_,rfl,h⟩
theorem Zh:fillsNumberSlot (.type "tuple") "mul"=pure false :=
 PySem.fillsNumberSlot_seq (id:="tuple.__mul__") (r:=some (.builtin "tuple.__rmul__")) F.slot_tuple_mul.lookup (by decide +kernel) F.slot_tuple_rmul.lookup (by decide +kernel)
theorem Zi:seqRepeat? (.type "tuple")=pure (some (.builtin "tuple.__mul__")):=by
 unfold seqRepeat?
 rw[a6y (T:="tuple") (name:="__mul__") (id:="tuple.__mul__") F.slot_tuple_mul.lookup (by decide +kernel),a6y (T:="tuple") (name:="__rmul__") (id:="tuple.__rmul__") F.slot_tuple_rmul.lookup (by decide +kernel)]
 rfl
theorem Zj(a:Int)(t:Tok)(l:Addr)(items:Array ae)(n:Nat)(dd:Option Addr)(sl:Array (Option ae)) :
 AR (gr.«int.__rmul__» ⟨[.int a t,.ref l],[]⟩) (λ_ Q s=>s.heap.get? l=some { cls:=.type "tuple",dict:=dd,data:=.seq items n,slots:=sl }/\Q (.ok (.ret Value.notImplemented)) s) :=
 .of_wp λprog w A Q s h=>by obtain⟨hp,g,d,tk,os⟩:=s;obtain⟨hl,h⟩:=h;wp_walk;exact⟨_,rfl,h⟩
def Zk(K:aK):R2:=λx y H Q=>∃l k xs,x = .ref l/\y = .int k/\cE K H l xs/\0<=k/\k<1000000/\xs.length*k.toNat<=1000 /\
 ((xs=[]∨k=1)->Q (.ref l) H)/\(xs≠[]->k≠1->∀p,H p=none->Q (.ref p) (upd H p (.tup (dI k.toNat xs).flatten)))
theorem Zl:eE X (hJ .Mult) (Zk X.K):=by
 intro pins s σ H x y v u Q I rx ry h
 obtain⟨l,k,xs,rfl,rfl,hH,h1,h2,hz,q0,q1⟩:=h
 cases rx
 obtain⟨t,rfl⟩:=ry
 obtain⟨its,r,p1,Gy⟩:=I.tuple hH
 have hl:its.length=xs.length:=r.length.symm
 obtain⟨⟨cls,dd,data,sl⟩,ho,hc,n,hd⟩:=id p1
 simp only at hc hd
 subst hc hd
 have hb:(decide (k < -(2^63))||decide (k≥2^63))=false:=by
  rw[decide_eq_false (by lia),decide_eq_false (by lia)];rfl
 refine wpAny_binaryOp_repeat_ref (T:="tuple") (U:="int") (by decide) ⟨_,ho,rfl⟩ (λs'=>typeIs_int s' k t) Zh F.fills_int_mul a6z Zi F.slot_int_index.lookup
  (w6 a6z (typeIs_int s k t) F.entry_int_rmul (F.args_int_rmul_2 _ _) (Zj k t l its.toArray n dd sl) ⟨ho,rfl,⟨_,ho,rfl⟩,?_⟩)
 by_cases c1:xs=[]∨k=1
 ·have pA:(its.toArray.isEmpty||k==1)=true:=by
   rcases c1 with c | c
   ·have:its=[]:=List.length_eq_zero_iff.mp (by rw[hl,c];rfl)
    rw[this];rfl
   ·rw[c];simp
  exact w6 SW ⟨_,ho,rfl⟩ SX (SY _ _) (Ze l its.toArray n dd sl k t hb pA) ⟨ho,⟨.ref l,H,I,rfl,q0 c1⟩⟩
 ·have hx:xs≠[]:=λe=>c1 (.inl e)
  have Gz:k≠1:=λe=>c1 (.inr e)
  have aU:its≠[]:=λe=>hx (List.length_eq_zero_iff.mp (by rw[<-hl,e];rfl))
  have he:its.toArray.isEmpty=false:=by cases its with | nil=>exact absurd rfl aU | cons a b=>rfl
  have pA:(its.toArray.isEmpty||k==1)=false:=by rw[he];simpa using Gz
  by_cases c2:k<=0
  ·have Zm:k=0:=by lia
   refine w6 SW ⟨_,ho,rfl⟩ SX (SY _ _) (Zf l its.toArray n dd sl k t hb pA (by rw[decide_eq_true c2];rfl)) ⟨ho,?_⟩
   have e0:(dI k.toNat xs).flatten=[]:=by rw[Zm];rfl
   refine⟨.ref s.heap.objs.size,_,I.laid (t':=s.toks) (o:=.tup (dI k.toNat xs).flatten) (λb ob q=>bB _ q) (bA _) ?_,rfl,q1 hx Gz _ (I.aQ.fresh (bA _))⟩
   rw[e0]
   exact⟨by decide,[],.nil,⟨_,c_ _ rfl,rfl,_,rfl⟩⟩
  ·have f0:∀m:Nat,List.foldl (λx1 x2=>x1++x2) #[] (dI m its.toArray)=(dI m its).flatten.toArray:=λm=>by
    have:=Le its m []
    rw[Jy] at this
    exact this
   have Zn:(dI k.toNat its).flatten.length<=1000:=by rw[Lh,hl,uX];exact hz
   have km:(its.toArray.size:Int)*k<=1000:=by
    rw[dj,hl,show k=((k.toNat:Nat):Int) by lia]
    exact_mod_cast hz
   refine w6 SW ⟨_,ho,rfl⟩ SX (SY _ _) (Zg l its.toArray n dd sl k t hb pA (by rw[decide_eq_false c2,he];rfl) (by lia) ?_ ?_) ⟨ho,?_⟩
   ·unfold a6x
    have:(1000:Int)<=(cq:Int):=by decide
    exact decide_eq_false (by lia)
   ·rw[f0,dj]
    have:=uk Zn
    lia
   ·rw[f0]
    refine⟨.ref s.heap.objs.size,_,I.laid (t':=s.toks) (o:=.tup (dI k.toNat xs).flatten) (λb ob q=>bB _ q) (bA _) ?_,rfl,q1 hx Gz _ (I.aQ.fresh (bA _))⟩
    exact⟨by rw[Lh,uX];exact uk hz,_,r.rep k.toNat,⟨_,c_ _ rfl,rfl,_,rfl⟩⟩
theorem aC.rep{K:aK}{H:Hp}{ds:List D}{xs:List V}(h:aC K H ds xs):∀n:Nat,aC K H (dI n ds).flatten (dI n xs).flatten
 | 0=>aC.nil
 | n+1=>by rw[pQ,w0,pQ,w0];exact h.append (aC.rep h n)
theorem mP:fX X (hJ .Mult) dX:=by
 refine⟨_,eE.or (Uy (X:=X.bZ)) (Zl (X:=X.bZ)),λH x y dx dy ix iy hg=>?_⟩
 cases dx with
 | int i =>
   cases dy with
   | int j =>
     obtain⟨hc,e⟩:=R.dz (show R.guard (tE i j) (R.ok (D.int (i*j)))≠R.no from hg)
     refine .inl ⟨i,j,Is.bT.mp ix,Is.bT.mp iy,?_,.int (i*j),e,.refl _,Is.bT.mpr rfl⟩
     unfold tE mj at hc
     show(-(2^64)<i/\i<2^64)∨(-(2^64)<j/\j<2^64)
     lia
   | _=>exact absurd rfl hg
 | tup ds =>
   cases dy with
   | int j =>
     obtain⟨⟨pA,nE⟩,e⟩:=R.dz (show R.guard (0<=j/\j<1000000/\ds.length*j.toNat<=1000) (R.ok (D.tup (dI j.toNat ds).flatten))≠R.no from hg)
     obtain⟨a,xs,rfl,h1,h2⟩:=Is.eQ.mp ix
     have lJ:=h2.length
     refine .inr ⟨a,j,xs,rfl,Is.bT.mp iy,h1,pA,nE.1,by rw[<-lJ];exact nE.2,λc=>?_,λz z' p hp=>?_⟩
     ·refine⟨_,e,.refl _,Is.eQ.mpr ⟨a,xs,rfl,h1,?_⟩⟩
      rcases c with c | c
      ·have:ds=[]:=List.length_eq_zero_iff.mp (by rw[lJ,c];rfl)
       rw[this,c]
       have e2:∀m:Nat,(dI m ([]:List D)).flatten=[]:=λm=>by simp
       rw[e2];exact aC.nil
      ·subst c
       show aC X.K H (dI 1 ds).flatten xs
       rw[show(dI 1 ds).flatten=ds by simp];exact h2
     ·have S:=iA hp (.tup (dI j.toNat xs).flatten)
      exact⟨_,e,S,Is.eQ.mpr ⟨p,_,rfl,cE.of dq,(h2.rep _).same S⟩⟩
   | _=>exact absurd rfl hg
 | _=>exact absurd rfl hg
mutual
def D.py:D->PyData
 | .bS=>.none
 | .bl b=>.bool b
 | .int i=>.int i
 | .str x=>.str x
 | .tup ds=>.tuple (D.c9 ds)
 | .lst ds=>.list (D.c9 ds)
 | .kn=>.dict []
 | .exc _=>.dict []
def D.c9:List D->List PyData
 | []=>[]
 | d::ds=>d.py::D.c9 ds
end
mutual
theorem pG:∀(n:Nat) (d:D),D.lay n d=true->d.py.canLay0=true/\d.py.depth<=n
 | n,.bS,_=>by simp[D.py,sW,AS]
 | n,.bl _,_=>by simp[D.py,sW,AS]
 | n,.int _,_=>by simp[D.py,sW,AS]
 | n,.str x,h=>by
   have h':PyData.strOk x=true:=by have:=h;rw[rS] at this;exact this
   simp[D.py,sW,AS,h']
 | 0,.tup ds,h=>by simp[D.lay] at h
 | 0,.lst ds,h=>by simp[D.lay] at h
 | n+1,.tup ds,h=>by
   have q:=GA n ds (by simpa [D.lay] using h)
   constructor
   ·simpa [D.py,sW] using q.1
   ·have:=q.2
    simp only[D.py,AS];lia
 | n+1,.lst ds,h=>by
   have q:=GA n ds (by simpa [D.lay] using h)
   constructor
   ·simpa [D.py,sW] using q.1
   ·have:=q.2
    simp only[D.py,AS];lia
 | n,.kn,h=>by cases n<;>simp[D.lay] at h
 | n,.exc _,h=>by cases n<;>simp[D.lay] at h
theorem GA:∀(n:Nat) (ds:List D),D.mr n ds=true->AU (D.c9 ds)=true/\AV (D.c9 ds)<=n
 | n,[],_=>by simp[D.c9,AU,AV]
 | n,d::ds,h=>by
   have h':D.lay n d=true/\D.mr n ds=true:=by simpa [D.mr] using h
   have q1:=pG n d h'.1
   have q2:=GA n ds h'.2
   constructor
   ·simp[D.c9,AU,q1.1,q2.1]
   ·have:=q1.2;have:=q2.2
    simp only[D.c9,AV];lia
end
mutual
theorem pH{pins:List (Addr×Obj)}{σ:St}{H:Hp}{s:aq}(I:Inv X pins σ H s):∀(n:Nat) (d:D) (v:V) (u:ae),D.lay n d=true->Is X.K H d v->RelV v u->∃as,Reads s.heap u d.py as
 | _,.bS,v,u,_,i,r=>by
   rw[Is.y_.mp i] at r;cases (show u=lU from r)
   exact⟨_,.none⟩
 | _,.bl b,v,u,_,i,r=>by
   rw[Is.jt.mp i] at r;cases (show u=RS b from r)
   exact⟨_,.bool b⟩
 | _,.int k,v,u,_,i,r=>by
   rw[Is.bT.mp i] at r
   obtain⟨t,rfl⟩:=(show ∃t,u=kM k t from r)
   exact⟨_,.int k t⟩
 | _,.str x,v,u,_,i,r=>by
   rw[Is.O8.mp i] at r
   obtain⟨t,rfl⟩:=(show ∃t,u=RQ x t from r)
   exact⟨_,.str x t⟩
 | 0,.tup ds,v,u,h,_,_=>by simp[D.lay] at h
 | 0,.lst ds,v,u,h,_,_=>by simp[D.lay] at h
 | n+1,.tup ds,v,u,h,i,r=>by
   obtain⟨a,xs,rfl,h1,h2⟩:=Is.eQ.mp i
   cases (show u=gJ a from r)
   obtain⟨its,rv,⟨o,ho,hc,m,hd⟩,_⟩:=I.tuple h1
   obtain⟨as,ra⟩:=GB I n ds xs its (by simpa [D.lay] using h) h2 rv
   exact⟨as,by unfold D.py;exact .tuple ho hc hd (by simpa using ra)⟩
 | n+1,.lst ds,v,u,h,i,r=>by
   obtain⟨a,xs,rfl,h1,h2⟩:=Is.fb.mp i
   cases (show u=gJ a from r)
   obtain⟨its,rv,⟨o,m,ho,hc,_,hd⟩,_⟩:=I.list h1
   obtain⟨as,ra⟩:=GB I n ds xs its (by simpa [D.lay] using h) h2 rv
   exact⟨a::as,by unfold D.py;exact .list ho hc hd (by simpa using ra)⟩
 | n,.kn,v,u,h,_,_=>by cases n<;>simp[D.lay] at h
 | n,.exc _,v,u,h,_,_=>by cases n<;>simp[D.lay] at h
theorem GB{pins:List (Addr×Obj)}{σ:St}{H:Hp}{s:aq}(I:Inv X pins σ H s):∀(n:Nat) (ds:List D) (xs:List V) (us:List ae),D.mr n ds=true->aC X.K H ds xs->Vals xs us->∃as,ReadsAll s.heap us (D.c9 ds) as
 | n,[],xs,us,_,i,r=>by
   rw[aC.jI.mp i] at r
   cases r
   exact⟨_,by unfold D.c9;exact .nil⟩
 | n,d::ds,xs,us,h,i,r=>by
   obtain⟨x,r',rfl,h1,h2⟩:=aC.ju.mp i
   have h':D.lay n d=true/\D.mr n ds=true:=by simpa [D.mr] using h
   cases r with
   | cons q1 q2 =>
     obtain⟨as,ra⟩:=pH I n d x _ h'.1 h1 q1
     obtain⟨bs,rb⟩:=GB I n ds r' _ h'.2 h2 q2
     exact⟨as++bs,by unfold D.c9;exact .cons ra rb⟩
end
mutual
theorem zf:∀x y:D,bN x y=pT x.py y.py
 | .bS,y=>by cases y<;>simp[bN,D.py,pT]
 | .bl _,y=>by cases y<;>simp[bN,D.py,pT]
 | .int _,y=>by cases y<;>simp[bN,D.py,pT]
 | .str _,y=>by cases y<;>simp[bN,D.py,pT]
 | .kn,y=>by cases y<;>simp[bN,D.py,pT]
 | .exc _,y=>by cases y<;>simp[bN,D.py,pT]
 | .tup xs,y=>by
   cases y with
   | tup ys=>rw[bN,D.py,D.py,pT,GC xs ys]
   | _=>simp[bN,D.py,pT]
 | .lst xs,y=>by
   cases y with
   | lst ys=>rw[bN,D.py,D.py,pT,GC xs ys]
   | _=>simp[bN,D.py,pT]
theorem GC:∀xs ys:List D,kW xs ys=DR (D.c9 xs) (D.c9 ys)
 | [],[]=>by simp[kW,D.c9,DR]
 | [],_::_=>by simp[kW,D.c9,DR]
 | _::_,[]=>by simp[kW,D.c9,DR]
 | x::xs,y::ys=>by rw[kW,D.c9,D.c9,DR,zf x y,GC xs ys]
end
theorem i9(hu:X.A.units+64<j9):fX X (m8 .Eq) dJ:=by
 refine⟨λx y H Q=>∃dx dy,Is X.K H dx x/\Is X.K H dy y/\D.lay 40 dx=true/\D.lay 40 dy=true/\Q (.bl (bN dx dy)) H,?_,λH x y dx dy ix iy hg=>?_⟩
 ·intro pins s σ H x y v u Q I rx ry h
  obtain⟨dx,dy,ix,iy,l1,l2,q⟩:=h
  obtain⟨as,ra⟩:=pH I 40 dx x v l1 ix rx
  obtain⟨bs,rb⟩:=pH I 40 dy y u l2 iy ry
  have p1:=pG 40 dx l1
  have p2:=pG 40 dy l2
  have Cj:X.A.units+64<j9:=hu
  refine PySem.SeqAt.compareEq_reads ra rb p1.1 p2.1 (show X.A.units+min dx.py.depth dy.py.depth<j9 by lia) ⟨.bl (bN dx dy),H,I,by rw[zf];rfl,q⟩
 ·obtain⟨⟨l1,l2⟩,e⟩:=R.dz hg
  exact⟨dx,dy,ix,iy,l1,l2,.bl (bN dx dy),e,.refl _,Is.jt.mpr rfl⟩
theorem su(hu:X.A.units+64<j9):fX X (m8 .NotEq) ij:=by
 refine⟨λx y H Q=>∃dx dy,Is X.K H dx x/\Is X.K H dy y/\D.lay 40 dx=true/\D.lay 40 dy=true/\Q (.bl (!bN dx dy)) H,?_,λH x y dx dy ix iy hg=>?_⟩
 ·intro pins s σ H x y v u Q I rx ry h
  obtain⟨dx,dy,ix,iy,l1,l2,q⟩:=h
  obtain⟨as,ra⟩:=pH I 40 dx x v l1 ix rx
  obtain⟨bs,rb⟩:=pH I 40 dy y u l2 iy ry
  have p1:=pG 40 dx l1
  have p2:=pG 40 dy l2
  have Cj:X.A.units+64<j9:=hu
  refine PySem.SeqAt.compareNe_reads ra rb p1.1 p2.1 (show X.A.units+min dx.py.depth dy.py.depth<j9 by lia) ⟨.bl (!bN dx dy),H,I,by rw[zf];rfl,q⟩
 ·obtain⟨⟨l1,l2⟩,e⟩:=R.dz hg
  exact⟨dx,dy,ix,iy,l1,l2,.bl (!bN dx dy),e,.refl _,Is.jt.mpr rfl⟩
theorem aC.cu{K:aK}{H:Hp}{ds:List D}{xs:List V}{i:Int}{d:D}(h:aC K H ds xs)(e:cu ds i=some d):∃x,L2.cu xs i=some x/\Is K H d x:=by
 unfold L2.cu
 unfold L3.cu at e
 rw[<-h.length]
 show ∃x,((L3.i6 ds.length i).bind λj=>xs[j]?)=some x/\Is K H d x
 cases q:L3.i6 ds.length i with
 | none=>rw[q] at e;cases e
 | some j =>
   rw[q] at e
   exact h.get (by simpa using e)
theorem cx(ha:PD X a ga)(hb:PD X b gb)(hs:K_ b:=by intro _ _;rfl):PD X (.Subscript a b pos) (au aX ga gb):=by
 refine⟨λpins s σ H F Γ I fo rl hg=>?_⟩
 refine S4 (aH (ha.run pins s σ H F Γ I fo rl (R.left hg)) (λv s1 ⟨dx,x,H1,e1,I1,r1,S1,i1⟩=>?_) λ_ _ x=>x.bind _)
 have a9:=R.next hg e1
 refine aH (hb.run pins s1 σ H1 F Γ I1 (fo.same S1) (rl.same S1) (R.left a9)) (λu s2 ⟨dy,y,H2,e2,I2,r2,S2,i2⟩=>?_) λ_ _ x=>cb.later e1 S1 (x.bind _)
 have dg:=R.next a9 e2
 have qq:=i1.same S2
 have fin:∀(d:D) (z:V),aX dx dy = .ok d->Is X.K H2 d z->∀(w':ae) (s':aq),EP X.bZ pins σ (λz' H'=>z'=z/\H'=H2) w' s'->fD X pins σ H (au aX ga gb Γ) w' s':=λd z ed iz w' s' ⟨z',H',I',rz,ez,eH⟩=>by
  subst ez eH
  exact fD.bind e1 S1 (fD.bind e2 S2 ⟨d,z',H',ed,I'.fJ,rz,.refl _,iz⟩)
 cases dx with
 | tup ds =>
   cases dy with
   | int i =>
     obtain⟨p,xs,rfl,h1,h2⟩:=Is.eQ.mp qq
     cases q:cu ds i with
     | none=>exact absurd (show aX (.tup ds) (.int i) = .no by simp only[aX,q]) dg
     | some d =>
       obtain⟨z,ez,iz⟩:=h2.cu q
       exact aH (Lc (X:=X.bZ) a b pins s2 σ H2 _ y v u _ (I2.dw _) r1 r2 ⟨p,xs,i,z,rfl,Is.bT.mp i2,h1,ez,rfl,rfl⟩ (hs _ _)) (λw' s' h=>fin d z (by show aX (.tup ds) (.int i) = .ok d;simp only[aX,q]) iz w' s' h) λ_ _ z=>di z
   | _=>exact absurd rfl dg
 | lst ds =>
   cases dy with
   | int i =>
     obtain⟨p,xs,rfl,h1,h2⟩:=Is.fb.mp qq
     cases q:cu ds i with
     | none=>exact absurd (show aX (.lst ds) (.int i) = .no by simp only[aX,q]) dg
     | some d =>
       obtain⟨z,ez,iz⟩:=h2.cu q
       exact aH (Lb (X:=X.bZ) a b pins s2 σ H2 _ y v u _ (I2.dw _) r1 r2 ⟨p,xs,i,z,rfl,Is.bT.mp i2,h1,ez,rfl,rfl⟩ (hs _ _)) (λw' s' h=>fin d z (by show aX (.lst ds) (.int i) = .ok d;simp only[aX,q]) iz w' s' h) λ_ _ z=>di z
   | _=>exact absurd rfl dg
 | _=>exact absurd rfl dg
variable {x:Str}{p:Pos}{es:List Expr}{gs:G->R (List D)}{Pe T:String}
def mQ(X:Cx)(f:ae)(g:List D->R D):Prop:=∃r:List V->Hp->VK->Prop,jo X.bZ f r/\∀H xs ds,aC X.K H ds xs->g ds ≠ .no->r xs H λz H'=>∃d,g ds = .ok d/\aW H H'/\Is X.K H' d z
theorem mQ.run{f:ae}{g:List D->R D}(h:mQ X f g){pins:List (Addr×Obj)}{s:aq}{σ:St}{H:Hp}{xs:List V}{us:List ae}{ds:List D}(I:Inv X pins σ H s)(r:Vals xs us)(i:aC X.K H ds xs)(hg:g ds ≠ .no){E:ae->aq->Prop} :
 az (aJ X.prog X.w) X.A (call f us) (fD X pins σ H (g ds)) E s:=by
 obtain⟨r',ho,hr⟩:=h
 exact aH (ho pins s σ H xs us _ (I.dw _) r (hr H xs ds i hg)) (λ_ _ ⟨z,H',I',rz,d,e,S,i⟩=>⟨d,z,H',e,I'.fJ,rz,S,i⟩) λ_ _ z=>di z
theorem fQ{g:List D->R D}(hc:mQ X (.builtin Pe) g)(hm:X.mg x=none)(hv:qY x=some (.builtin Pe))(ha:n6 X (e::es) gs)(hg:Gl X x:=by rfl)(hn:x≠"__name__":=by decide)(jW:(x==("__debug__":Str))=false:=by decide)
 (he:bR (e::es) X.env=(false,eval e X.env)::bR es X.env:=by rfl) (jH:(de pos (bR es X.env)).any (·.1)=false:=by rfl):PD X (.Call (.Name x p) (e::es) [] pos) (aI g gs):=by
 refine⟨λpins s σ H F Γ I fo rl cM=>?_⟩
 refine rp (nB I hg hm hv ?_ hn jW)
 refine a7a (aH (ha.run pos pins s σ H F Γ I fo rl (R.left cM)) (λus s1 ⟨ds,vs,H1,e1,I1,r1,S1,i1⟩=>?_) λ_ _ x=>x.bind _) he jH
 exact fm (hc.run I1 r1 i1 (R.next cM e1)) λ_ _ q=>fD.bind e1 S1 q
theorem jw{g:List D->R D}(hc:mQ X (.type T) g)(hm:X.mg x=none)(hv:qY x=some (.type T))(ha:n6 X (e::es) gs)(hg:Gl X x:=by rfl)(hn:x≠"__name__":=by decide)(jW:(x==("__debug__":Str))=false:=by decide)
 (he:bR (e::es) X.env=(false,eval e X.env)::bR es X.env:=by rfl) (jH:(de pos (bR es X.env)).any (·.1)=false:=by rfl):PD X (.Call (.Name x p) (e::es) [] pos) (aI g gs):=by
 refine⟨λpins s σ H F Γ I fo rl cM=>?_⟩
 refine rp (nB I hg hm hv ?_ hn jW)
 refine u_ (aH (ha.run pos pins s σ H F Γ I fo rl (R.left cM)) (λus s1 ⟨ds,vs,H1,e1,I1,r1,S1,i1⟩=>?_) λ_ _ x=>x.bind _) he jH
 exact fm (hc.run I1 r1 i1 (R.next cM e1)) λ_ _ q=>fD.bind e1 S1 q
theorem n_{K:aK}{H:Hp}{d:D}{xs:List V}(h:aC K H [d] xs):∃v,xs=[v]/\Is K H d v:=by
 obtain⟨x,r,rfl,h1,h2⟩:=aC.ju.mp h
 rw[aC.jI.mp h2]
 exact⟨x,rfl,h1⟩
theorem Pf{K:aK}{H:Hp}{d d':D}{xs:List V}(h:aC K H [d,d'] xs):∃v v',xs=[v,v']/\Is K H d v/\Is K H d' v':=by
 obtain⟨x,r,rfl,h1,h2⟩:=aC.ju.mp h
 obtain⟨v,rfl,h3⟩:=n_ h2
 exact⟨x,v,rfl,h1,h3⟩
theorem kF:mQ X (.builtin "len") i7:=by
 refine⟨_,Vb (X:=X.bZ),λH xs ds i hg=>?_⟩
 unfold i7 at hg
 split at hg
 ·rename_i ys
  obtain⟨v,rfl,h⟩:=n_ i
  obtain⟨a,zs,rfl,h1,h2⟩:=Is.eQ.mp h
  exact⟨a,zs,rfl,.inr h1,.int ys.length,rfl,.refl _,Is.bT.mpr (by rw[h2.length])⟩
 ·rename_i ys
  obtain⟨v,rfl,h⟩:=n_ i
  obtain⟨a,zs,rfl,h1,h2⟩:=Is.fb.mp h
  exact⟨a,zs,rfl,.inl h1,.int ys.length,rfl,.refl _,Is.bT.mpr (by rw[h2.length])⟩
 ·exact absurd rfl hg
theorem jx:mQ X (.type "tuple") ik:=by
 refine⟨_,Vd (X:=X.bZ),λH xs ds i hg=>?_⟩
 unfold ik at hg
 split at hg
 ·rename_i ys
  obtain⟨v,rfl,h⟩:=n_ i
  obtain⟨a,zs,rfl,h1,h2⟩:=Is.eQ.mp h
  exact⟨a,zs,rfl,.inr ⟨h1,.tup ys,rfl,.refl _,h⟩⟩
 ·rename_i ys
  obtain⟨v,rfl,h⟩:=n_ i
  obtain⟨a,zs,rfl,h1,h2⟩:=Is.fb.mp h
  refine⟨a,zs,rfl,.inl ⟨h1,λl hl=>?_⟩⟩
  have S:=iA hl (.tup zs)
  exact⟨.tup ys,rfl,S,Is.eQ.mpr ⟨l,zs,rfl,cE.of dq,h2.same S⟩⟩
 ·exact absurd rfl hg
theorem Pg(hc:X.calm=true):mQ X (.builtin "min") x_:=by
 refine⟨_,UJ (X:=X.bZ) hc,λH xs ds i hg=>?_⟩
 unfold x_ at hg
 split at hg
 ·rename_i i' j'
  obtain⟨v,v',rfl,h,h'⟩:=Pf i
  exact⟨i',j',by rw[Is.bT.mp h,Is.bT.mp h'],_,rfl,.refl _,Is.bT.mpr rfl⟩
 ·exact absurd rfl hg
theorem Zo(hc:X.calm=true):jo X (.builtin "sum") (λxs H Q=>∃(a:Addr) (ns:List Int),xs=[.ref a]/\bW X.K H a (ns.map V.int)/\Q (.int ns.sum) H):=by
 intro pins s σ H xs us Q I r h
 obtain⟨a,ns,rfl,hq,q⟩:=h
 obtain⟨u,rfl,ru⟩:=rP r
 cases ru
 obtain⟨its,rv,pl,_⟩:=I.list hq
 have hi:ka its ns:=intsAre_of rv
 obtain⟨ys,hy⟩:=hi.allInts.items
 have hl:=pl.isList
 rw[hy] at hl
 refine sum_intListG (I.ok.hd hc) hl λh' tk t' hk=>⟨.int ns.sum,H,I.kept hk,⟨t',?_⟩,q⟩
 have hn:numsOf its.toArray.toList=ns:=by rw[show its.toArray.toList=its from rfl,hi.numsOf]
 rw[hy,nums_intItems] at hn
 rw[preSum_eq,AE (by simp),hn]
theorem CB(hc:X.calm=true):mQ X (.builtin "sum") nH:=by
 refine⟨_,Zo (X:=X.bZ) hc,λH xs ds i hg=>?_⟩
 unfold nH at hg
 split at hg
 ·rename_i ys
  obtain⟨v,rfl,h⟩:=n_ i
  obtain⟨a,zs,rfl,h1,h2⟩:=Is.fb.mp h
  cases q:gv ys with
  | none=>rw[q] at hg;exact absurd rfl hg
  | some ns =>
    have:=vA q
    subst this
    rw[h2.wd] at h1
    exact⟨a,ns,rfl,h1,.int ns.sum,by show nH [.lst (ns.map D.int)]=_;simp only[nH,q],.refl _,Is.bT.mpr rfl⟩
 ·exact absurd rfl hg
theorem aC.Ph{K:aK}{H:Hp}:∀{ns:List Bool} {xs:List V},aC K H (ns.map D.bl) xs->xs=ns.map V.bl
 | [],xs,h=>aC.jI.mp h
 | n::ns,xs,h=>by
   obtain⟨x,r,rfl,hx,tr⟩:=aC.ju.mp h
   rw[Is.jt.mp hx,aC.Ph tr];rfl
theorem Pj:∀{bs:List Bool} {us:List ae} {i:Nat} {v:ae},Vals (bs.map V.bl) us->us[i]? = some v->∃b,bs[i]? = some b/\v = .bool b
 | [],us,i,v,r,e=>by cases r;simp at e
 | b::bs,us,0,v,r,e=>by
   cases r with
   | cons r1 r2=>simp at e;subst e;exact⟨b,rfl,r1⟩
 | b::bs,us,i+1,v,r,e=>by
   cases r with
   | cons r1 r2 =>
     obtain⟨b',e1,e2⟩:=Pj (i:=i) r2 (by simpa using e)
     exact⟨b',by simpa using e1,e2⟩
theorem GD:∀bs:List Bool,((bL bs.length).any λi=>(bs[i]?).getD false)=bs.any (λb=>b)
 | []=>rfl
 | b::bs=>by
   rw[dE,Sk,JN,SQ,JN,<-GD bs]
   rfl
theorem Zp(hc:X.calm=true):jo X (.builtin "any") (λxs H Q=>∃(a:Addr) (bs:List Bool),xs=[.ref a]/\bW X.K H a (bs.map V.bl)/\Q (.bl (bs.any (λb=>b))) H):=by
 intro pins s σ H xs us Q I r h
 obtain⟨a,bs,rfl,hq,q⟩:=h
 obtain⟨u,rfl,ru⟩:=rP r
 cases ru
 obtain⟨its,rv,pl,_⟩:=I.list hq
 have hl:=pl.isList
 have bO:a<s.heap.objs.size:=by obtain⟨_,e,_⟩:=hl;exact bx e
 have hlen:its.length=bs.length:=by rw[<-rv.length,bD]
 refine call_any_walk (rq hl ?_)
 refine⟨s.heap.objs.size,[s.heap.objs.size,a],[s.heap.objs.size],its.toArray.size,_,_,λi=>(bs[i]?).getD false,rfl,Walks.list (A:=X.A.in1) (I.ok.hd hc) _ a (cX bO) its.toArray,
  ⟨⟨_,c_ _ rfl,rfl,rfl⟩,hl.push _⟩,λi v s' Q' E' hP hQ=>?_,λh' tk hk=>?_⟩
 ·obtain⟨b,e,rfl⟩:=Pj rv (i:=i) (v:=v) (by simpa using hP)
  simp only[e,So] at hQ
  exact SS hQ
 ·have e:((bL its.toArray.size).any λi=>(bs[i]?).getD false)=bs.any (λb=>b):=by
   rw[dj,hlen];exact GD bs
  refine⟨.bl (bs.any (λb=>b)),H,I.kept (λb x ex=>hk b x (λhm=>by rw[List.mem_singleton.mp hm] at ex;exact dS _ (bx ex)) (bB _ ex)),by rw[e];rfl,q⟩
theorem Zq(hc:X.calm=true):mQ X (.builtin "any") p_:=by
 refine⟨_,Zp (X:=X.bZ) hc,λH xs ds i hg=>?_⟩
 unfold p_ at hg
 split at hg
 ·rename_i ys
  obtain⟨v,rfl,h⟩:=n_ i
  obtain⟨a,zs,rfl,h1,h2⟩:=Is.fb.mp h
  cases q:o9 ys with
  | none=>rw[q] at hg;exact absurd rfl hg
  | some ns =>
    have:=LI q
    subst this
    rw[h2.Ph] at h1
    exact⟨a,ns,rfl,h1,.bl (ns.any (λb=>b)),by show p_ [.lst (ns.map D.bl)]=_;simp only[p_,q],.refl _,Is.jt.mpr rfl⟩
 ·exact absurd rfl hg
end
def qr(P:bw)(w:aY):kS:=λouter H s E x s'=>∃(e C T:Addr) (oe oT:Obj) (vs ts:Array ae) (H':Hp),x = .ref e/\s'.os=s.os/\m6 s'.gens/\Un (cY outer) [] H H' s.heap s'.heap/\du P w H' s'.heap /\
 H' e=none/\s.heap.get? e=none/\s'.heap.get? e=some oe/\oe.cls = .ref C/\oe.data = .fields vs/\(∃a0,vs[0]? = some a0)/\vs[1]? = some (.ref T)/\H' T=none/\s.heap.get? T=none/\T≠e/\s'.heap.get? T=some oT/\oT.data = .fields ts/\ts[3]? = some .none/\E (.ref C) none H'
def CC(K:aK)(mg:Str->Option ae)(φ:List D->R D):Sp:=λvs H Q E=>∃ds,aC K H ds vs/\φ ds ≠ .no/\(∀d v H',φ ds = .ok d->aW H H'->Is K H' d v->Q v H')/\(∀c C H',φ ds = .er c->mg c.nm=some (.ref C)->aW H H'->E (.ref C) none H')
def Pk(K:aK)(mg:Str->Option ae)(φ:List D->R (List D)):Sp:=λvs H Q E=>∃ds,aC K H ds vs/\φ ds ≠ .no/\(∀es a xs H',φ ds = .ok es->aW H H'->H a=none->H' a=some (.lst xs)->aC K H' es xs->Q (.ref a) H')/\(∀c C H',φ ds = .er c->mg c.nm=some (.ref C)->aW H H'->E (.ref C) none H')
structure gH (P:bw) (w:aY) (K:aK) (mg:Str->Option ae) (base:Heap) (k:Nat) (f:Addr) (fd:da) (ps:List Str) (φ:List D->R D):Prop where
 ok:jG P w K mg base (qr P w) k f fd ps (CC K mg φ)
 binds:oY K fd ps []
 kp:DA K (.ref f)=true
structure sy (P:bw) (w:aY) (K:aK) (mg:Str->Option ae) (base:Heap) (k:Nat) (f:Addr) (fd:da) (ps:List Str) (φ:List D->R (List D)):Prop where
 ok:jG P w K mg base (qr P w) k f fd ps (Pk K mg φ)
 binds:oY K fd ps []
 kp:DA K (.ref f)=true
theorem gH.mono{P:bw}{w:aY}{K:aK}{mg:Str->Option ae}{base:Heap}{j k:Nat}{f:Addr}{fd:da}{ps:List Str}{φ:List D->R D}(F:gH P w K mg base j f fd ps φ)(h:j<=k):gH P w K mg base k f fd ps φ:=⟨F.ok.mono h,F.binds,F.kp⟩
section
variable {X:Cx}{e a b c:Expr}{g ga gb gc:G->R D}{pos p:Pos}{x:Str}{es:List Expr}{gs:G->R (List D)}
theorem _root_.L2.Inv.gone{pins:List (Addr×Obj)}{σ:St}{H:Hp}{s:aq}{q:Addr}(I:Inv X pins σ H s)(hex:X.ex=[])(hq:s.heap.get? q=none):X.s₀.heap.get? q=none/\q≠X.env.locals/\(∀y k,X.env.cells.lookup y=some k->k≠q)/\(∀p∈X.pn++pins,p.1≠q):=by
 refine⟨?_,λz=>?_,λy k ek z=>?_,λp hp z=>?_⟩
 ·cases e0:X.s₀.heap.get? q with
  | none=>rfl
  | some o =>
    obtain⟨o',e1⟩:=I.base.there q o e0 (by rw[hex];simp)
    rw[hq] at e1;cases e1
 ·obtain⟨m,⟨o,_,_,ho,_⟩,_⟩:=I.loc
  rw[<-z,hq] at ho;cases ho
 ·obtain⟨v,o,ho,_⟩:=I.cell y k ek
  rw[z,hq] at ho;cases ho
 ·have ho:=(I.pin p hp).1
  rw[z,hq] at ho;cases ho
theorem Pl{pins:List (Addr×Obj)}{σ:St}{H:Hp}{s s':aq}{u:ae}{r:R D}{E:XK}(hex:X.ex=[]∨∀C H',¬E (.ref C) none H')(I:Inv X pins σ H s)(h:qr X.prog X.w X.stack H s E u s')
 (hE:∀C H',E (.ref C) none H'->∃c,r = .er c/\X.mg c.nm=some (.ref C)/\aW H H'):cb X pins σ H r u s':=by
 obtain⟨e,C,T,oe,oT,vs,ts,H',rfl,os,bare,un,aQ,Zr,zg,GF,CD,zh,GG,hv,Zs,pI,GH,Zt,Zu,Zv,Pm⟩:=h
 have hex:X.ex=[]:=hex.resolve_right λz=>z C H' Pm
 obtain⟨c,er,hm,S⟩:=hE C H' Pm
 obtain⟨hh,gg,dd,tt,kT⟩:=s'
 obtain rfl:kT=s.os:=os
 have I':Inv X pins σ H' { s with heap:=hh,gens:=gg,drawn:=dd,toks:=tt }:=I.call (h':=hh) (g':=gg) (d':=dd) (t':=tt) (ch:=[]) un aQ bare (λb z=>absurd z (by simp))
 have fr:∀q:Addr,s.heap.get? q=none->X.s₀.heap.get? q=none/\q≠X.env.locals/\(∀y k,X.env.cells.lookup y=some k->k≠q)/\(∀p∈X.pn++pins,p.1≠q):=λq hq=>I.gone hex hq
 obtain⟨f1,f2,f3,f4⟩:=fr e zg
 obtain⟨g1,g2,g3,g4⟩:=fr T pI
 exact⟨c,H',er,S,I',e,C,oe,vs,rfl,hm,Zr,f1,f2,f3,f4,GF,CD,zh,GG,.inr ⟨T,oT,ts,hv,Zs,g1,g2,g3,g4,GH,Zt,Zu,.inl Zv⟩⟩
theorem Pn{k:Nat}{f:Addr}{fd:da}{ps:List Str}{φ:List D->R D}(Fn:gH X.prog X.w X.K X.mg X.base k f fd ps φ)(hr:eZ k X.A){pins:List (Addr×Obj)}{σ:St}{H:Hp}{s:aq}{us:List ae}{vs:List V}{ds:List D}
 (I:Inv X pins σ H s) (r:Vals vs us) (i:aC X.K H ds vs) (hg:φ ds ≠ .no) (hx:X.ex=[]∨∀c,φ ds ≠ .er c):az (aJ X.prog X.w) X.A (call (.ref f) us) (fD X pins σ H (φ ds)) (cb X pins σ H (φ ds)) s:=by
 have fS:CC X.K X.mg φ vs H (λv H'=>∃d,φ ds = .ok d/\aW H H'/\Is X.K H' d v) (λC' _ H'=>∃c C,C' = .ref C/\φ ds = .er c/\X.mg c.nm=some (.ref C)/\aW H H') :=
  ⟨ds,i,hg,λd v H' e S iv=>⟨d,e,S,iv⟩,λc C H' e hm S=>⟨c,C,rfl,e,hm,S⟩⟩
 have hl:us.length=ps.length:=by rw[<-r.length];exact Fn.ok.len _ _ _ _ fS
 have hb:=Fn.binds s us I.nA (by rw[oJ];exact hl)
 rw[oJ] at hb
 refine DS (sT (Fn.ok.run X.A X.stack s H ⟨us,[]⟩ us vs _ _ hr I.Ej hb r fS) λr' s' hq=>?_)
 cases r' with
 | error u =>
   refine Pl (E:=λC' _ H'=>∃c C,C' = .ref C/\φ ds = .er c/\X.mg c.nm=some (.ref C)/\aW H H') (hx.imp_right λz C H' ⟨c,_,_,q,_⟩=>z c q) I hq λC H' hE=>?_
   obtain⟨c,C',e,h1,h2,h3⟩:=hE
   cases e
   exact⟨c,h1,h2,h3⟩
 | ok fl =>
   cases fl with
   | ret u =>
     obtain⟨v,H',I',rv,d,e,S,iv⟩:=I.after hq
     exact⟨d,v,H',e,I',rv,S,iv⟩
   | next=>exact di hq
   | brk=>exact di hq
   | cont=>exact di hq
theorem bH{k:Nat}{f:Addr}{fd:da}{ps:List Str}{φ:List D->R D}(Fn:gH X.prog X.w X.K X.mg X.base k f fd ps φ)(hr:eZ k X.A)(hm:X.mg x=some (.ref f))(ha:n6 X (e::es) gs)(hex:X.ex=[]:=by rfl)(hg:Gl X x:=by rfl)(jW:(x==("__debug__":Str))=false:=by decide)
 (he:bR (e::es) X.env=(false,eval e X.env)::bR es X.env:=by rfl) (jH:(de pos (bR es X.env)).any (·.1)=false:=by rfl):PD X (.Call (.Name x p) (e::es) [] pos) (aI φ gs):=by
 refine⟨λpins s σ H F Γ I fo rl cM=>?_⟩
 refine rp (vm I hg hm ?_ jW)
 refine JO (h₀:=X.base) I.ok.mod.s_ Fn.kp (aH (ha.run pos pins s σ H F Γ I fo rl (R.left cM)) (λus s1 ⟨ds,vs,H1,e1,I1,r1,S1,i1⟩=>⟨I1.nA,?_⟩) λ_ _ x=>x.bind _) he jH
 exact aH (Pn Fn hr I1 r1 i1 (R.next cM e1) (.inl hex)) (λ_ _ q=>fD.bind e1 S1 q) λ_ _ q=>cb.later e1 S1 q
theorem gH.fT{P:bw}{w:aY}{K:aK}{mg:Str->Option ae}{base:Heap}{k:Nat}{f:Addr}{fd:da}{ps:List Str}{φ:List D->R D}(F:gH P w K mg base k f fd ps φ):gH P w K mg base k f fd ps (L3.fT φ):=by
 refine⟨F.ok.imp λvs H Q E h=>?_,F.binds,F.kp⟩
 obtain⟨ds,i,aU,aQ,CF⟩:=h
 obtain⟨d,e1,e2⟩:=LJ aU
 exact⟨ds,i,(by rw[e1];exact λz=>nomatch z),λd' v H' e S iv=>aQ d' v H' (e2.trans (e1.symm.trans e)) S iv,λc C H' e=>by rw[e1] at e;cases e⟩
theorem jX{k:Nat}{f:Addr}{fd:da}{ps:List Str}{φ:List D->R D}(Fn:gH X.prog X.w X.K X.mg X.base k f fd ps φ)(hr:eZ k X.A)(hm:X.mg x=some (.ref f))(ha:n6 X (e::es) gs)(hg:Gl X x:=by rfl)(jW:(x==("__debug__":Str))=false:=by decide)
 (he:bR (e::es) X.env=(false,eval e X.env)::bR es X.env:=by rfl) (jH:(de pos (bR es X.env)).any (·.1)=false:=by rfl):PD X (.Call (.Name x p) (e::es) [] pos) (aI (L3.fT φ) gs):=by
 refine⟨λpins s σ H F Γ I fo rl cM=>?_⟩
 refine rp (vm I hg hm ?_ jW)
 refine JO (h₀:=X.base) I.ok.mod.s_ Fn.kp (aH (ha.run pos pins s σ H F Γ I fo rl (R.left cM)) (λus s1 ⟨ds,vs,H1,e1,I1,r1,S1,i1⟩=>⟨I1.nA,?_⟩) λ_ _ x=>x.bind _) he jH
 have a9:=R.next cM e1
 obtain⟨d,_,e3⟩:=LJ a9
 exact aH (Pn Fn.fT hr I1 r1 i1 a9 (.inr λc z=>by rw[e3] at z;cases z)) (λ_ _ q=>fD.bind e1 S1 q) λ_ _ q=>cb.later e1 S1 q
theorem Zw{k:Nat}{f:Addr}{fd:da}{ps:List Str}{φ:List D->R (List D)}(Fn:sy X.prog X.w X.K X.mg X.base k f fd ps φ)(hr:eZ k X.A){pins:List (Addr×Obj)}{σ:St}{H:Hp}{s:aq}{us:List ae}{vs:List V}{ds:List D}
 (I:Inv X pins σ H s) (r:Vals vs us) (i:aC X.K H ds vs) (hg:φ ds ≠ .no) (hx:X.ex=[]∨∀c,φ ds ≠ .er c):az (aJ X.prog X.w) X.A (call (.ref f) us) (λu s'=>∃es a xs H',φ ds = .ok es/\Inv X pins σ H' s'/\u = .ref a/\aW H H'/\H a=none/\H' a=some (.lst xs)/\aC X.K H' es xs) (cb X pins σ H (φ ds)) s:=by
 have fS:Pk X.K X.mg φ vs H (λv H'=>∃es a xs,v = .ref a/\φ ds = .ok es/\aW H H'/\H a=none/\H' a=some (.lst xs)/\aC X.K H' es xs) (λC' _ H'=>∃c C,C' = .ref C/\φ ds = .er c/\X.mg c.nm=some (.ref C)/\aW H H') :=
  ⟨ds,i,hg,λes a xs H' e S h1 h2 h3=>⟨es,a,xs,rfl,e,S,h1,h2,h3⟩,λc C H' e hm S=>⟨c,C,rfl,e,hm,S⟩⟩
 have hl:us.length=ps.length:=by rw[<-r.length];exact Fn.ok.len _ _ _ _ fS
 have hb:=Fn.binds s us I.nA (by rw[oJ];exact hl)
 rw[oJ] at hb
 refine DS (sT (Fn.ok.run X.A X.stack s H ⟨us,[]⟩ us vs _ _ hr I.Ej hb r fS) λr' s' hq=>?_)
 cases r' with
 | error u =>
   obtain⟨c,H',e1,S,fl⟩:=Pl (r:=φ ds>>=λ_=>.ok D.bS) (E:=λC' _ H'=>∃c C,C' = .ref C/\φ ds = .er c/\X.mg c.nm=some (.ref C)/\aW H H') (hx.imp_right λz C H' ⟨c,_,_,q,_⟩=>z c q) I hq λC H' hE=>by
    obtain⟨c,C',e,h1,h2,h3⟩:=hE
    cases e
    exact⟨c,R.stop h1 _,h2,h3⟩
   refine⟨c,H',?_,S,fl⟩
   cases q:φ ds with
   | no=>exact absurd q hg
   | ok _=>rw[q] at e1;cases e1
   | er c'=>rw[q] at e1;cases e1;rfl
 | ok fl =>
   cases fl with
   | ret u =>
     obtain⟨v,H',I',rv,es,a,xs,rfl,e,S,h1,h2,h3⟩:=I.after hq
     exact⟨es,a,xs,H',e,I',rv,S,h1,h2,h3⟩
   | next=>exact di hq
   | brk=>exact di hq
   | cont=>exact di hq
theorem jy{k:Nat}{f:Addr}{fd:da}{ps:List Str}{φ:List D->R (List D)}(Fn:sy X.prog X.w X.K X.mg X.base k f fd ps φ)(hr:eZ k X.A)(hm:X.mg x=some (.ref f))(ha:n6 X (e::es) gs)(hex:X.ex=[]:=by rfl)(hg:Gl X x:=by rfl)(jW:(x==("__debug__":Str))=false:=by decide)
 (he:bR (e::es) X.env=(false,eval e X.env)::bR es X.env:=by rfl) (jH:(de pos (bR es X.env)).any (·.1)=false:=by rfl):PF X (.Call (.Name x p) (e::es) [] pos) (gU φ gs):=by
 refine⟨λpins s σ H F Γ I fo rl cM=>?_⟩
 refine rp (vm I hg hm ?_ jW)
 refine JO (h₀:=X.base) I.ok.mod.s_ Fn.kp (aH (ha.run pos pins s σ H F Γ I fo rl (R.left cM)) (λus s1 ⟨ds,vs,H1,e1,I1,r1,S1,i1⟩=>⟨I1.nA,?_⟩) λ_ _ x=>x.bind _) he jH
 have a9:=R.next cM e1
 refine aH (Zw Fn hr I1 r1 i1 (R.left a9) (.inl hex)) (λu s' ⟨cU,a,xs,H',e2,I2,eu,S2,h1,h2,h3⟩=>?_) λ_ _ q=>cb.later e1 S1 (q.bind _)
 have eU:=R.next a9 e2
 obtain⟨n,e3⟩:=R.dz eU
 exact⟨cU,a,xs,H',(R.step e1 _).trans ((R.step e2 _).trans e3),I2,eu,S1.trans S2,S1.free h1,h2,aC.aS (((fo.same S1).same S2).cons h2) cU xs n h3⟩
theorem Po{x:Str}(ha:PD X a ga)(hm:X.mg x=none)(hv:qY x=some (.type "list"))(hg:Gl X x:=by rfl)(hn:x≠"__name__":=by decide)(jW:(x==("__debug__":Str))=false:=by decide)
 (he:bR [a] X.env=(false,eval a X.env)::bR [] X.env:=by rfl) (jH:(de pos (bR [] X.env)).any (·.1)=false:=by rfl):PF X (.Call (.Name x p) [a] [] pos) (nJ ga):=by
 refine⟨λpins s σ H F Γ I fo rl cM=>?_⟩
 refine rp (nB I hg hm hv ?_ hn jW)
 refine u_ (aH ((ar ha aE he).run pos pins s σ H F Γ I fo rl (λz=>?_)) (λus s1 ⟨ds,vs,H1,e1,I1,r1,S1,i1⟩=>?_) λ_ _ q=>?_) he jH
 ·unfold ai at z
  cases q:ga Γ with
  | no=>exact absurd (show nJ ga Γ = .no by unfold nJ;rw[q];rfl) cM
  | ok d=>rw[q] at z;cases z
  | er c=>rw[q] at z;cases z
 ·have e0:∃d,ga Γ = .ok d/\ds=[d]:=by
   unfold ai at e1
   cases q:ga Γ with
   | no=>rw[q] at e1;cases e1
   | ok d=>rw[q] at e1;cases e1;exact⟨d,rfl,rfl⟩
   | er c=>rw[q] at e1;cases e1
  obtain⟨d,ed,rfl⟩:=e0
  obtain⟨v,rfl,iv⟩:=n_ i1
  have a9:=R.next cM ed
  have fin:∀(p':Addr) (ys:List V) (cU:List D),v = .ref p'->(bW X.K H1 p' ys∨cE X.K H1 p' ys)->aC X.K H1 cU ys->D.bQ cU=true->nJ ga Γ = .ok cU ->
   az (aJ X.prog X.w) X.A (call (.type "list") us) (λu s'=>∃ds a xs H',nJ ga Γ = .ok ds/\Inv X pins σ H' s'/\u = .ref a/\aW H H'/\H a=none/\H' a=some (.lst xs)/\aC X.K (aS (a::F) H') ds xs) (cb X pins σ H (nJ ga Γ)) s1:=λp' ys cU ev hq ie iL eg=>by
   subst ev
   refine aH (Vc (X:=X.bZ) pins s1 σ H1 _ us (λz H'=>∃l,z = .ref l/\H1 l=none/\H'=upd H1 l (.lst ys)) (I1.dw _) r1 ⟨p',ys,rfl,hq,λl hl=>⟨l,rfl,hl,rfl⟩⟩) (λu s' ⟨z,H',I',rz,l,ez,hl,eH⟩=>?_) λ_ _ z=>di z
   subst ez eH
   have S2:=iA hl (.lst ys)
   exact⟨cU,l,ys,_,eg,I'.fJ,rz,S1.trans S2,S1.free hl,dq,aC.aS (((fo.same S1).same S2).cons dq) cU ys iL (ie.same S2)⟩
  cases d with
  | tup cU =>
    obtain⟨n,e2⟩:=R.dz (show R.guard (D.bQ cU=true) (.ok cU) ≠ .no from a9)
    obtain⟨p',ys,ev,h1,h2⟩:=Is.eQ.mp iv
    exact fin p' ys cU ev (.inr h1) h2 n ((R.step ed _).trans e2)
  | lst cU =>
    obtain⟨n,e2⟩:=R.dz (show R.guard (D.bQ cU=true) (.ok cU) ≠ .no from a9)
    obtain⟨p',ys,ev,h1,h2⟩:=Is.fb.mp iv
    exact fin p' ys cU ev (.inl h1) h2 n ((R.step ed _).trans e2)
  | _=>exact absurd rfl a9
 ·obtain⟨c',H',e1,S,fl⟩:=q
  refine⟨c',H',?_,S,fl⟩
  unfold ai at e1
  cases q:ga Γ with
  | no=>rw[q] at e1;cases e1
  | ok d=>rw[q] at e1;cases e1
  | er c=>rw[q] at e1;cases e1;unfold nJ;rw[q];rfl
theorem Zx{ga gb:G->R (List D)}(ha:PF X a ga)(hb:PF X b gb):PF X (.BinOp a .Add b pos) (Bu ga gb):=by
 refine⟨λpins s σ H F Γ I fo rl hg=>?_⟩
 refine SR (aH (ha.run pins s σ H F Γ I fo rl (R.left hg)) (λv s1 ⟨dx,a1,xs,H1,e1,I1,r1,S1,n1,h1,i1⟩=>?_) λ_ _ x=>x.bind _)
 have a9:=R.next hg e1
 refine aH (hb.run pins s1 σ H1 F Γ I1 (fo.same S1) (rl.same S1) (R.left a9)) (λu s2 ⟨dy,a2,ys,H2,e2,I2,r2,S2,n2,h2,i2⟩=>?_) λ_ _ x=>cb.later e1 S1 (x.bind _)
 have eU:=R.next a9 e2
 obtain⟨hc,e3⟩:=R.dz eU
 subst r1 r2
 have hz:xs.length+ys.length<=cq:=by rw[<-i1.length,<-i2.length];exact uk hc
 refine aH (Vm (X:=X.bZ) pins s2 σ H2 (.ref a1) (.ref a2) _ _ (λz H'=>∃l,z = .ref l/\H2 l=none/\H'=upd H2 l (.lst (xs++ys))) (I2.dw _) rfl rfl ⟨a1,a2,xs,ys,rfl,rfl,S2 _ _ h1,h2,hz,λl hl=>⟨l,rfl,hl,rfl⟩⟩) (λu s' ⟨z,H',I',rz,l,ez,hl,eH⟩=>?_) λ_ _ z=>di z
 subst ez eH
 have S3:=iA hl (.lst (xs++ys))
 have up:∀{q:Addr} {Hq:Hp} {zs:List V} {ds:List D},aW Hq H2->Hq q≠none->aC X.K (aS (q::F) Hq) ds zs->aC X.K (aS (l::F) (upd H2 l (.lst (xs++ys)))) ds zs:=λ{q Hq zs ds} Sq hq i=>by
  refine i.same λb o hb=>?_
  obtain⟨z1,z2⟩:=kD hb
  have z3:=Sq _ _ z2
  have i_:b≠l:=fI z3 hl
  rw[fc λz=>(List.mem_cons.mp z).elim i_ λz'=>z1 (bY _ z'),bP i_]
  exact z3
 exact⟨dx++dy,l,xs++ys,_,(R.step e1 _).trans ((R.step e2 _).trans e3),I'.fJ,rz,(S1.trans S2).trans S3,S1.free (S2.free hl),dq,(up S2 (by rw[h1];simp) i1).append (up (.refl _) (by rw[h2];simp) i2)⟩
end
def JD(K:aK)(H:Hp)(F:List Addr)(J:It)(ds:List D):Prop:=∀H1,(∀b o,b ∉ F->H b=some o->H1 b=some o) ->
 (∀i:Nat,i<ds.length->J.go i H1/\∀x H2,J.xK i H1 x H2->H2=H1/\∃d,ds[i]? = some d/\∀F',(∀b,b∈F'->b∈F∨H b=none)->Is K (aS F' H1) d x)/\J.stop ds.length H1
def JC(K:aK)(H:Hp)(F:List Addr)(J:It)(ds:List D):Prop:=∀H1,aW H H1 ->
 (∀i:Nat,i<ds.length->J.go i H1/\∀x H2,J.xK i H1 x H2->H2=H1/\∃d,ds[i]? = some d/\Is K (aS F H1) d x)/\J.stop ds.length H1
theorem JD.jc{K:aK}{H:Hp}{F:List Addr}{J:It}{ds:List D}(h:JD K H F J ds):JC K H F J ds:=λH1 S=>by
 obtain⟨h1,h2⟩:=h H1 λb o _ q=>S b o q
 refine⟨λi hi=>⟨(h1 i hi).1,λx H2 y=>?_⟩,h2⟩
 obtain⟨e,d,ed,iv⟩:=(h1 i hi).2 x H2 y
 exact⟨e,d,ed,iv F λb hb=>.inl hb⟩
structure iT (Jx:aK->Hp->List Addr->It->List D->Prop) (X:Cx) (tg iter:Expr) (g:G->R (List D)):Prop where
 run:∀(pins:List (Addr×Obj)) (s:aq) (σ:St) (H:Hp) (F:List Addr) (Γ:G),Inv X pins σ H s->cn H F->Rel X.K H F Γ σ->g Γ ≠ .no ->
  az (aJ X.prog X.w) X.A (eval iter X.env) (λv s1=>az (aJ X.prog X.w) X.A (sR v) (λki s2=>∃(ds:List D) (it:Addr) (fp:List Addr) (tn:Nat->Heap->Prop) (J:It) (H':Hp),g Γ = .ok ds/\ki = .ref it/\Inv X pins σ H' s2/\aW H H' /\
   Turn X.prog X.w X.K tg J fp it tn/\tn 0 s2.heap/\(∀b∈fp,eD X pins H' b)/\Jx X.K H' F J ds) (cb X pins σ H (g Γ)) s1) (cb X pins σ H (g Γ)) s
abbrev wj:=iT JD
abbrev zj:=iT JC
theorem iT.qt{X:Cx}{tg iter:Expr}{g:G->R (List D)}(h:wj X tg iter g):zj X tg iter g:=⟨λpins s σ H F Γ I fo rl hg =>
 fm (h.run pins s σ H F Γ I fo rl hg) λv s1 h1=>fm h1 λki s2 ⟨ds,it,fp,tn,J,H',e,ei,I',S,T,t0,fk,j⟩=>⟨ds,it,fp,tn,J,H',e,ei,I',S,T,t0,fk,j.jc⟩⟩
section
variable {X:Cx}{tg a b:Expr}{ga gb:G->R D}
theorem Zy{K:aK}{H:Hp}{F:List Addr}{p:Addr}{xs:List V}{ds:List D}(h:bW K H p xs)(i:aC K (aS F H) ds xs):JC K H F (Bg K p) ds:=λH1 S=>by
 have h1:=S.seq h
 have il:=i.length
 refine⟨λj hj=>⟨⟨xs,xs[j]'(by lia),h1,cD (by lia)⟩,λx H2 y=>⟨y.1,?_⟩⟩,⟨xs,h1,by lia⟩⟩
 exact(i.same (gG S)).uh (y.2 xs h1)
theorem wk{H H1:Hp}{F F':List Addr}(S:∀b o,b ∉ F->H b=some o->H1 b=some o)(o:∀b,b∈F'->b∈F∨H b=none):aW (aS F H) (aS F' H1):=Ext.aS ⟨S,o⟩
theorem Pp{K:aK}{H:Hp}{F:List Addr}{p:Addr}{xs:List V}{ds:List D}(h:cE K (aS F H) p xs)(i:aC K (aS F H) ds xs):JD K H F (Eg K p) ds:=λH1 S=>by
 have h1:cE K H1 p xs:=wc (lH (F:=F)) (wc (wk S λb hb=>.inl hb) h)
 have il:=i.length
 refine⟨λj hj=>⟨⟨xs,xs[j]'(by lia),h1,cD (by lia)⟩,λx H2 y=>⟨y.1,?_⟩⟩,⟨xs,h1,by lia⟩⟩
 obtain⟨d,ed,iv⟩:=i.uh (y.2 xs h1)
 exact⟨d,ed,λF' hF=>iv.same (wk S hF)⟩
theorem Zz{K:aK}{H:Hp}{F:List Addr}{p:Addr}{xs:List V}{ds:List D}(h:bW K (aS F H) p xs)(i:aC K (aS F H) ds xs):JD K H F (Bg K p) ds:=λH1 S=>by
 have h1:bW K H1 p xs:=(lH (F:=F)).seq ((wk S λb hb=>.inl hb).seq h)
 have il:=i.length
 refine⟨λj hj=>⟨⟨xs,xs[j]'(by lia),h1,cD (by lia)⟩,λx H2 y=>⟨y.1,?_⟩⟩,⟨xs,h1,by lia⟩⟩
 obtain⟨d,ed,iv⟩:=i.uh (y.2 xs h1)
 exact⟨d,ed,λF' hF=>iv.same (wk S hF)⟩
theorem Pq{pins:List (Addr×Obj)}{σ:St}{H:Hp}{s:aq}{p:Addr}{xs:List V}{E:ae->aq->Prop}{Q:ae->aq->Prop}(I:Inv X pins σ H s)(h:bW X.K H p xs)
 (q:∀it s2,Inv X pins σ H s2->Turn X.prog X.w X.K tg (Bg X.K p) [it] it (λi h=>h.IsListIter it p i)->s2.heap.IsListIter it p 0->(∀b∈[it],eD X pins H b)->Q (.ref it) s2):az (aJ X.prog X.w) X.A (sR (.ref p)) Q E s:=by
 obtain⟨its,rv,pl,hz⟩:=I.list h
 refine rq pl.isList (q s.heap.objs.size _ (I.kept (t':=s.toks) λb o e=>bB _ e) (Uq p _) ⟨_,c_ _ rfl,rfl,rfl⟩ λb hb=>?_)
 have e:b=s.heap.objs.size:=by simpa using hb
 subst e
 exact I.tq (bA _) (I.aQ.fresh (bA _))
theorem Pr{pins:List (Addr×Obj)}{σ:St}{H:Hp}{s:aq}{p:Addr}{xs:List V}{E:ae->aq->Prop}{Q:ae->aq->Prop}(I:Inv X pins σ H s)(h:cE X.K H p xs)
 (q:∀it s2,Inv X pins σ H s2->Turn X.prog X.w X.K tg (Eg X.K p) [it] it (λi h=>h.IsTupleIter it p i)->s2.heap.IsTupleIter it p 0->(∀b∈[it],eD X pins H b)->Q (.ref it) s2):az (aJ X.prog X.w) X.A (sR (.ref p)) Q E s:=by
 obtain⟨its,rv,pl,hz⟩:=I.tuple h
 refine xq (show s.heap.IsTuple p its.toArray from pl) (q s.heap.objs.size _ (I.kept (t':=s.toks) λb o e=>bB _ e) (Ur p _) ⟨_,c_ _ rfl,rfl,rfl⟩ λb hb=>?_)
 have e:b=s.heap.objs.size:=by simpa using hb
 subst e
 exact I.tq (bA _) (I.aQ.fresh (bA _))
theorem qu(ha:gY X a ga):wj X tg a (my ga):=by
 refine⟨λpins s σ H F Γ I fo rl hg=>?_⟩
 refine aH (ha.run pins s σ H F Γ I fo rl (R.left hg)) (λv s1 ⟨d,x,H1,e1,I1,r1,S1,i1⟩=>?_) λ_ _ x=>x.bind _
 have a9:=R.next hg e1
 cases d with
 | tup ds =>
   obtain⟨p,xs,rfl,h1,h2⟩:=Is.eQ.mp i1
   cases (show v=gJ p from r1)
   exact Pr (tg:=tg) I1 (wc (lH (F:=F)) h1) λit s2 I2 T t0 fk=>⟨ds,it,_,_,_,H1,R.step e1 _,rfl,I2,S1,T,t0,fk,Pp h1 h2⟩
 | lst ds =>
   obtain⟨p,xs,rfl,h1,h2⟩:=Is.fb.mp i1
   cases (show v=gJ p from r1)
   exact Pq (tg:=tg) I1 ((lH (F:=F)).seq h1) λit s2 I2 T t0 fk=>⟨ds,it,_,_,_,H1,R.step e1 _,rfl,I2,S1,T,t0,fk,Zz h1 h2⟩
 | _=>exact absurd rfl a9
theorem oh(ha:PD X a ga):zj X tg a (kY ga):=by
 refine⟨λpins s σ H F Γ I fo rl hg=>?_⟩
 refine aH (ha.run pins s σ H F Γ I fo rl (R.left hg)) (λv s1 ⟨d,x,H1,e1,I1,r1,S1,i1⟩=>?_) λ_ _ x=>x.bind _
 have a9:=R.next hg e1
 cases d with
 | tup ds =>
   obtain⟨n,e2⟩:=R.dz (show R.guard (D.bQ ds=true) (.ok ds) ≠ .no from a9)
   obtain⟨p,xs,rfl,h1,h2⟩:=Is.eQ.mp i1
   cases (show v=gJ p from r1)
   exact Pr (tg:=tg) I1 h1 λit s2 I2 T t0 fk=>⟨ds,it,_,_,_,H1,(R.step e1 _).trans e2,rfl,I2,S1,T,t0,fk,(Pp (O_ (fo.same S1) h1) (aC.aS (fo.same S1) ds xs n h2)).jc⟩
 | lst ds =>
   obtain⟨n,e2⟩:=R.dz (show R.guard (D.bQ ds=true) (.ok ds) ≠ .no from a9)
   obtain⟨p,xs,rfl,h1,h2⟩:=Is.fb.mp i1
   cases (show v=gJ p from r1)
   exact Pq (tg:=tg) I1 h1 λit s2 I2 T t0 fk=>⟨ds,it,_,_,_,H1,(R.step e1 _).trans e2,rfl,I2,S1,T,t0,fk,Zy h1 (aC.aS (fo.same S1) ds xs n h2)⟩
 | _=>exact absurd rfl a9
theorem Pt{K:aK}{H:Hp}{F:List Addr}(lo:Int)(n:Nat):JD K H F (xM lo n) (gx lo n):=λH1 S=>by
 rw[o_]
 refine⟨λj hj=>⟨hj,λx H2 y=>⟨y.1,.int (lo+(j:Int)),EI lo n j hj,λF' _=>?_⟩⟩,bA _⟩
 exact Is.bT.mpr y.2
theorem lK{p pos:Pos}(ha:PD X a ga)(hm:X.mg "range"=none)(hg:Gl X "range":=by rfl)(hs:bR [a] X.env=[(false,eval a X.env)]:=by rfl):wj X tg (.Call (.Name "range" p) [a] [] pos) (jN ga):=by
 refine⟨λpins s σ H F Γ I fo rl cM=>?_⟩
 refine DT (nB I hg hm S8 (u_ ?_ hs rfl))
 rw[hs]
 show az _ _ (h_ ((false,eval a X.env)::de pos [])) _ _ s
 refine jk (aH (ha.run pins s σ H F Γ I fo rl (R.left cM)) (λu s1 ⟨d,v,H1,e1,I1,r1,S1,i1⟩=>l9 ?_) λ_ _ x=>x.bind _)
 have a9:=R.next cM e1
 cases d with
 | int j =>
   obtain⟨⟨h1,h2⟩,e2⟩:=R.dz (show R.guard (-(2^62)<=j/\j<2^62) (.ok (gx 0 j.toNat)) ≠ .no from a9)
   rw[Is.bT.mp i1] at r1
   obtain⟨t,rfl⟩:=(show ∃t,u=kM j t from r1)
   refine call_range_1 (fm (KQ (tg:=tg) (R:=λJ H'=>J=xM 0 (j-0).toNat/\H'=H1) I1 (by lia) (by lia) h1 h2 ⟨rfl,rfl⟩) λki s2 ⟨it,fp,tn,J,H',ei,I2,T,t0,fk,eJ,eH⟩=>?_)
   subst eJ eH
   rw[DQ] at T
   exact⟨_,it,fp,tn,_,H',(R.step e1 _).trans e2,ei,I2,S1,T,t0,fk,Pt 0 j.toNat⟩
 | _=>exact absurd rfl a9
theorem ZA{p pos:Pos}(ha:PD X a ga)(hb:PD X b gb)(hm:X.mg "range"=none)(hg:Gl X "range":=by rfl)(hs:bR [a,b] X.env=[(false,eval a X.env),(false,eval b X.env)]:=by rfl)(oi:bR [b] X.env=[(false,eval b X.env)]:=by rfl) :
 wj X tg (.Call (.Name "range" p) [a,b] [] pos) (yb ga gb):=by
 refine⟨λpins s σ H F Γ I fo rl cM=>?_⟩
 refine DT (nB I hg hm S8 (u_ ?_ (by rw[hs,oi]) (by rw[oi];rfl)))
 rw[hs]
 show az _ _ (h_ ((false,eval a X.env)::de pos [(false,eval b X.env)])) _ _ s
 refine jk (aH (ha.run pins s σ H F Γ I fo rl (R.left cM)) (λu s1 ⟨d,v,H1,e1,I1,r1,S1,i1⟩=>?_) λ_ _ x=>x.bind _)
 have a9:=R.next cM e1
 show az _ _ (h_ ((false,eval b X.env)::de pos [])) _ _ s1
 refine jk (aH (hb.run pins s1 σ H1 F Γ I1 (fo.same S1) (rl.same S1) (R.left a9)) (λu2 s2 ⟨d2,v2,H2,e2,I2,r2,S2,i2⟩=>l9 ?_) λ_ _ x=>cb.later e1 S1 (x.bind _))
 have dg:=R.next a9 e2
 cases d with
 | int i =>
   cases d2 with
   | int j =>
     obtain⟨⟨⟨h1,h2⟩,h3,h4⟩,e3⟩:=R.dz (show R.guard ((-(2^62)<=i/\i<2^62) /\ -(2^62)<=j/\j<2^62) (.ok (gx i (j-i).toNat)) ≠ .no from dg)
     rw[Is.bT.mp i1] at r1
     rw[Is.bT.mp i2] at r2
     obtain⟨t,rfl⟩:=(show ∃t,u=kM i t from r1)
     obtain⟨t',rfl⟩:=(show ∃t,u2=kM j t from r2)
     refine call_range_2 (fm (KQ (tg:=tg) (R:=λJ H'=>J=xM i (j-i).toNat/\H'=H2) I2 h1 h2 h3 h4 ⟨rfl,rfl⟩) λki s3 ⟨it,fp,tn,J,H',ei,I3,T,t0,fk,eJ,eH⟩=>?_)
     subst eJ eH
     exact⟨_,it,fp,tn,_,H',(R.step e1 _).trans ((R.step e2 _).trans e3),ei,I3,S1.trans S2,T,t0,fk,Pt i (j-i).toNat⟩
   | _=>exact absurd rfl dg
 | _=>exact absurd rfl dg
end
theorem wm{k:lW}(h:(k==kO)=true):k = .free:=by cases k<;>first | rfl | (exact absurd h (by decide))
def cJ(env:Env):List (Str×lW)->List (Str×Addr)->List (Str×Addr)
 | [],cs=>cs
 | (n,k)::r,cs=>if (k == .free)=true then (match env.cells.lookup n with | some a=>cJ env r ((n,a)::cs) | none=>cJ env r cs) else cJ env r cs
theorem mR{env:Env}{x:Str}{c:Addr}:∀(names:List (Str×lW)) (cs:List (Str×Addr)),(x,c)∈cJ env names cs->(x,c)∈cs∨env.cells.lookup x=some c
 | [],cs,h=>.inl h
 | (n,k)::r,cs,h=>by
   unfold cJ at h
   split at h
   ·split at h
    ·rename_i a e
     rcases mR r _ h with q | q
     ·rcases List.mem_cons.mp q with z | z
      ·cases z;exact .inr e
      ·exact .inl z
     ·exact .inr q
    ·exact mR r _ h
   ·exact mR r _ h
theorem CG{env:Env}{p:Str×Addr}:∀(names:List (Str×lW)) (cs:List (Str×Addr)),p∈cs->p∈cJ env names cs
 | [],cs,h=>h
 | (n,k)::r,cs,h=>by
   unfold cJ
   split
   ·split
    ·exact CG r _ (bY _ h)
    ·exact CG r _ h
   ·exact CG r _ h
theorem qv{env:Env}{x:Str}{c:Addr}(e:env.cells.lookup x=some c):∀(names:List (Str×lW)) (cs:List (Str×Addr)),(x,kO)∈names->(x,c)∈cJ env names cs
 | [],cs,h=>by simp at h
 | (n,k)::r,cs,h=>by
   unfold cJ
   rcases List.mem_cons.mp h with z | z
   ·cases z
    rw[if_pos (show(kO==kO)=true by decide),e]
    exact CG r _ bV
   ·split
    ·split
     ·exact qv e r _ z
     ·exact qv e r _ z
    ·exact qv e r _ z
theorem pJ{α:Type}:∀{l:List (Str×α)} {x:Str} {c:α},(x,c)∈l->∃c',l.lookup x=some c'/\(x,c')∈l
 | [],_,_,h=>by simp at h
 | (n,a)::r,x,c,h=>by
   by_cases e:x=n
   ·subst e;exact⟨a,by simp[List.lookup],bV⟩
   ·rcases List.mem_cons.mp h with z | z
    ·cases z;exact absurd rfl e
    ·obtain⟨c',h1,h2⟩:=pJ z
     exact⟨c',by rw[JP,beq_eq_false_iff_ne.mpr e];exact h1,bY _ h2⟩
def CH(N:List Str)(env:Env)(y:Str)(scope:cT):Bool :=
 decide (scope.kind = .function)&&scope.names.all (λp=>decide (p.2 ≠ .cell)&&(decide (p.2 ≠ .local)||decide (scope.names.lookup p.1=some .local))&&(decide (p.2 ≠ .free)||((env.cells.lookup p.1).isSome&&(decide (env.scope.names.lookup p.1=some .cell)||decide (env.scope.names.lookup p.1=some .free)))))
  && decide (scope.names.lookup y=some .local)&&decide (scope.names.lookup (("":Str))=none)&&N.all (λz=>decide (scope.names.lookup z≠some .local)||decide (z=y))&&N.all (λz=>decide (z≠("":Str)))
structure CI (N:List Str) (env:Env) (y:Str) (scope:cT):Prop where
 kind:scope.kind = .function
 pK:∀p∈scope.names,p.2 ≠ .cell
 names:∀p∈scope.names,p.2 = .local->scope.names.lookup p.1=some .local
 free:∀p∈scope.names,p.2 = .free->(∃c,env.cells.lookup p.1=some c)/\(env.scope.names.lookup p.1=some .cell∨env.scope.names.lookup p.1=some .free)
 loc:scope.names.lookup y=some .local
 nil:scope.names.lookup (("":Str))=none
 only:∀z∈N,scope.names.lookup z=some .local->z=y
 none:∀z∈N,z≠("":Str)
theorem Pu{N:List Str}{env:Env}{y:Str}{scope:cT}(h:CH N env y scope=true):CI N env y scope:=by
 unfold CH at h
 simp only[gN,rj,DU,decide_eq_true_eq] at h
 obtain⟨⟨⟨⟨⟨h1,h2⟩,h3⟩,h4⟩,h5⟩,h6⟩:=h
 refine⟨h1,λp hp=>(h2 p hp).1.1,λp hp e=>((h2 p hp).1.2).resolve_left λz=>z e,λp hp e=>?_,h3,h4,λz hz e=>(h5 z hz).resolve_left λq=>q e,h6⟩
 have q:=((h2 p hp).2).resolve_left λz=>z e
 exact⟨Option.isSome_iff_exists.mp q.1,q.2⟩
def dH(X:Cx)(y:Str)(scope:cT)(C:Addr)(aA:aq)(aD:Hp)(fp:List Addr)(pn:List (Addr×Obj)):Cx :=
 { X with N:=y::X.N.map (λz=>if z=y then ("":Str) else z),s₀:=aA,H₀:=aD,env:=ib scope (cJ X.env scope.names []) C X.env,outer:=X.stack,ex:=fp,fn:=λ_=>false,pn:=pn,xe:=λ_ _=>False }
theorem Pw{α β:Type}{M:oI}{A:Around}{E E':ae->aq->Prop}{s:aq}{a:α}{t:Sem β}{P:α->aq->Prop}{Q:β->aq->Prop}(h:az M A (pure a) P E s)(k:P a s->az M A t Q E' s):az M A t Q E' s:=λΓ p GI=>k (h Γ p GI) Γ p GI
theorem GJ{P:bw}{w:aY}{H:Hp}{h:Heap}{a:Addr}{o:HO}(x:du P w H h)(hn:H a=none)(new:i4 P w (upd H a o) h a o):du P w (upd H a o) h:=λb u e=>by
 by_cases hb:b=a
 ·subst hb;rw[dq] at e;cases e;exact new
 ·rw[bP hb] at e
  exact(x b u e).nu (λc v _ q=>q) (λc q=>by rw[bP (fI q hn)];exact q) λc xs q=>by rw[bP (fI q hn)];exact q
theorem ZC{X:Cx}{y:Str}{scope:cT}{C Dd:Addr}{fp:List Addr}{pins pl:List (Addr×Obj)}{σ a8:St}{aD H':Hp}{aA s1:aq}{xs:List V}{its:List ae}{n:Nat}(I:Inv X pins σ aD aA)
 (J:Inv (dH X y scope C aA aD fp (X.pn++pins)) pl a8 H' s1) (hD:aA.heap.objs.size<=Dd) (hn:H' Dd=none) (hd:s1.heap.get? Dd=some { cls:=.type "list",data:=.seq its.toArray n }) (rv:Vals xs its) (hz:xs.length<=cq) (hf:∀b∈fp,eD X pins aD b) :
 Inv X pins σ (upd H' Dd (.lst xs)) s1:=by
 have os:s1.os=aA.os:=J.os
 have un:Un (cY X.stack) fp aD H' aA.heap s1.heap:=J.base
 have aQ:du X.prog X.w H' s1.heap:=J.aQ
 have bare:m6 s1.gens:=J.bare
 clear J
 obtain⟨hh,gg,dd,tt,kT⟩:=s1
 obtain rfl:kT=aA.os:=os
 have zk:∀b o,aA.heap.get? b=some o->b≠Dd:=λb o e=>cX (b_ (bx e) hD)
 refine I.call (h':=hh) (g':=gg) (d':=dd) (t':=tt) (ch:=fp) ⟨un.keep,un.slot,λb o e n' hx=>?_,un.there,λb ys e=>?_,λb o u e=>?_,λb ps e=>?_⟩ (GJ aQ hn ⟨hz,its,n,rv,hd⟩) bare λb hb=>?_
 ·rw[bP (zk b o e)];exact un.free b o e n' hx
 ·have q:=un.l_ b ys e
  rw[bP (fI q hn)];exact q
 ·have q:=un.kP b o u e
  rw[bP (fI q hn)];exact q
 ·obtain⟨more,q⟩:=un.md b ps e
  exact⟨more,by rw[bP (fI q hn)];exact q⟩
 ·obtain⟨f0,f1,f2,f3,f4,f5⟩:=hf b hb
  exact⟨f3.imp_right λz=>wX z,f1,f4,f5⟩
theorem ZD{X:Cx}{y:Str}{scope:cT}{C:Addr}{fp:List Addr}{pins:List (Addr×Obj)}{σ:St}{aD:Hp}{aA:aq}(I:Inv X pins σ aD aA)(c:CI X.N X.env y scope)(hC:aA.heap.objs.size<=C)(hf:∀b∈fp,eD X pins aD b)(ho:∀b∈fp,b<aA.heap.objs.size) :
 (dH X y scope C aA aD fp (X.pn++pins)).Ok:=by
 have cells:∀x k,(cJ X.env scope.names []).lookup x=some k->X.env.cells.lookup x=some k:=λx k e=>by
  rcases mR scope.names [] (iG e) with q | q
  ·simp at q
  ·exact q
 refine⟨I.ok.mod,c.kind,I.ok.glob,I.ok.blt,hC,λx z k h1 h2=>I.ok.inj x z k (cells x k h1) (cells z k h2),λx hx=>?_,λx k h _=>absurd h (by simp[dH]),I.ok.hd,I.ok.frames,.inl rfl,λb hb=>?_,I.bs,dD I.ok.kQ I.sz,λb o e hb=>?_,λb hb z=>?_,I.stack,I.xG⟩
 ·have o8:(ic scope X.env).names.lookup x=some .cell∨(ic scope X.env).names.lookup x=some .free:=hx
  have hm:∃k,(x,k)∈scope.names/\(k = .free∨k = .cell):=by
   rcases o8 with q | q <;>
   ·have m:=iG q
    unfold ic at m
    simp only[uY] at m
    obtain⟨⟨n,k⟩,hm,e⟩:=m
    by_cases hc:(k==kO&&X.env.scope.kind == .function&&X.env.kindOf n==some .cell)=true
    ·rw[if_pos hc] at e
     have e1:n=x:=congrArg oP e
     subst e1
     rw[gN,gN] at hc
     exact⟨k,hm,.inl (wm hc.1.1)⟩
    ·rw[if_neg hc] at e
     have e1:n=x:=congrArg oP e
     have e2:=congrArg sX e
     dsimp only at e2
     subst e1 e2
     exact⟨_,hm,by first | exact .inr rfl | exact .inl rfl⟩
  obtain⟨k,hm,hk⟩:=hm
  rcases hk with rfl | rfl
  ·obtain⟨⟨a,ea⟩,_⟩:=c.free _ hm rfl
   obtain⟨c',h1,_⟩:=pJ (qv ea scope.names [] hm)
   exact⟨c',h1⟩
  ·exact absurd rfl (c.pK _ hm)
 ·refine⟨cX (b_ (ho b hb) hC),λx k e=>(hf b hb).2.2.2.2.1 x k (cells x k e)⟩
 ·rcases(hf b hb).2.2.2.1 with z | z
  ·exact I.ok.td b o e z
  ·exact absurd (b_ (b_ (bx e) I.ok.kQ) z) (dS _)
 ·rcases List.mem_cons.mp (I.kg b z) with q | q
  ·exact(hf b hb).2.1 q
  ·exact(hf b hb).2.2.1 q
section
variable {X:Cx}{y:Str}{scope:cT}
theorem ZE{C Dd:Addr}{fp:List Addr}{pins:List (Addr×Obj)}{σ:St}{aD:Hp}{aA:aq}{cB:Heap}{tk:Nat}{oD:Obj}{m:Str->Option ae}(I:Inv X pins σ aD aA)(c:CI X.N X.env y scope)(hC:aA.heap.objs.size<=C)(hD:aA.heap.objs.size<=Dd)(dC:Dd≠C)(hf:∀b∈fp,eD X pins aD b)(ho:∀b∈fp,b<aA.heap.objs.size)
 (old:∀b o,aA.heap.get? b=some o->cB.get? b=some o) (p7:cB.Ns C m) (hd:cB.get? Dd=some oD) (zl:∀v,oD.data ≠ .cell v) :
 Inv (dH X y scope C aA aD fp (X.pn++pins)) [(Dd,oD)] (none::σ) aD { aA with heap:=cB,toks:=tk }:=by
 have cells:∀x k,(cJ X.env scope.names []).lookup x=some k->X.env.cells.lookup x=some k:=λx k e=>by
  rcases mR scope.names [] (iG e) with q | q
  ·simp at q
  ·exact q
 have zm:∀b,aA.heap.objs.size<=b->b ∉ cY X.stack:=λb hb z=>by
  rcases List.mem_cons.mp (I.kg b z) with q | q
  ·exact absurd (b_ I.lt (by rw[<-q];exact hb)) (dS _)
  ·exact I.A_ hb q
 refine⟨ZD I c hC hf ho,rfl,I.bare,Un.kept old,⟨m,p7,λi x v e1 e2 e3=>?_⟩,λx k e=>?_,I.aQ.fresh hC,λx k e=>I.mf x k (cells x k e),λp hp=>?_,I.aQ.kept old,?_⟩
 ·cases i with
  | zero=>simp at e2
  | succ i =>
    have zo:σ[i]? = some (some v):=by simpa using e2
    have dR:(X.N.map (λz=>if z=y then ("":Str) else z))[i]? = some x:=by simpa [dH] using e1
    rw[cf] at dR
    cases hz:X.N[i]? with
    | none=>rw[hz] at dR;cases dR
    | some z =>
      rw[hz] at dR
      simp only[AI,xj] at dR
      have oj:ny (ic scope X.env) x:=e3
      have ja:∀{k:lW},(ic scope X.env).names.lookup x=some k->∃k',(x,k')∈scope.names/\(k'=k∨(k' = .free/\k = .cell)):=λ{k} q=>by
       have m':=iG q
       unfold ic at m'
       simp only[uY] at m'
       obtain⟨⟨n,k0⟩,hm,e⟩:=m'
       by_cases hc:(k0==kO&&X.env.scope.kind == .function&&X.env.kindOf n==some .cell)=true
       ·rw[if_pos hc] at e
        have e1:n=x:=congrArg oP e
        have e2:=congrArg sX e
        dsimp only at e2
        subst e1 e2
        rw[gN,gN] at hc
        exact⟨k0,hm,.inr ⟨wm hc.1.1,rfl⟩⟩
       ·rw[if_neg hc] at e
        have e1:n=x:=congrArg oP e
        have e2:=congrArg sX e
        dsimp only at e2
        subst e1 e2
        exact⟨_,hm,.inl rfl⟩
      have zp:∀k',(x,k')∈scope.names->x≠("":Str):=λk' hm z=>by
       subst z
       obtain⟨c',h1,_⟩:=pJ hm
       rw[c.nil] at h1;cases h1
      have ne:x≠("":Str):=by
       rcases oj with q | q | q<;>(obtain⟨k',hm,_⟩:=ja q;exact zp k' hm)
      by_cases kG:z=y
      ·rw[if_pos kG] at dR;exact absurd dR.symm ne
      ·rw[if_neg kG] at dR
       subst dR
       have fr:(z,kO)∈scope.names:=by
        rcases oj with q | q | q
        ·obtain⟨k',hm,hk⟩:=ja q
         rcases hk with rfl | ⟨_,hk⟩
         ·exact absurd (c.only z (kN hz) (c.names _ hm rfl)) kG
         ·cases hk
        ·obtain⟨k',hm,hk⟩:=ja q
         rcases hk with rfl | ⟨rfl,_⟩
         ·exact absurd rfl (c.pK _ hm)
         ·exact hm
        ·obtain⟨k',hm,hk⟩:=ja q
         rcases hk with rfl | ⟨_,hk⟩
         ·exact hm
         ·cases hk
       obtain⟨⟨ca,Px⟩,hv⟩:=c.free _ fr rfl
       obtain⟨m0,Py,zq⟩:=I.loc
       obtain⟨u,ru,lk⟩:=zq i z v hz zo (.inr hv)
       refine⟨u,ru,?_⟩
       rcases lk with ⟨q,_⟩ | ⟨_,k,ek,hk⟩
       ·exfalso
        have q':X.env.scope.names.lookup z=some .local:=q
        rcases hv with w | w<;>(rw[q'] at w;cases w)
       ·obtain⟨c',h1,_⟩:=pJ (qv ek scope.names [] fr)
        have h2:=cells z c' h1
        rw[ek] at h2;cases h2
        refine .inr ⟨?_,k,h1,?_⟩
        ·rcases oj with q | q | q
         ·exfalso
          obtain⟨k',hm,cQ⟩:=ja q
          rcases cQ with rfl | ⟨_,cQ⟩
          ·exact kG (c.only z (kN hz) (c.names _ hm rfl))
          ·cases cQ
         ·exact .inl q
         ·exact .inr q
        ·obtain⟨o,dm,fR⟩:=hk
         exact⟨o,old _ _ dm,fR⟩
 ·obtain⟨v,o,dm,fR⟩:=I.cell x k (cells x k e)
  exact⟨v,o,old _ _ dm,fR⟩
 ·rcases List.mem_append.mp hp with q | q
  ·obtain⟨h1,h2,h3,h4,h5⟩:=I.pin p q
   refine⟨old _ _ h1,h2,cX (b_ (bx h1) hC),λz=>?_,h5⟩
   rcases List.mem_cons.mp (I.kg p.1 z) with q' | q'
   ·exact h3 q'
   ·exact h4 q'
  ·have e:p=(Dd,oD):=by simpa using q
   subst e
   exact⟨hd,I.aQ.fresh hD,dC,zm Dd hD,zl⟩
 ·show σ.length+1=(y::X.N.map _).length
  rw[dE,bD,I.len]
def ZF(X:Cx)(y:Str)(scope:cT)(ifs:List Expr)(elt:Expr)(r:R (Option D))(C:Addr)(aA:aq)(aD:Hp)(fp:List Addr)(pn pins:List (Addr×Obj))(s:aq)(σ:St)(H:Hp)(F:List Addr):Prop :=
    az (aJ X.prog X.w) X.A (forIn ifs true λc r=>if r=true then do let ok <-rn c (ib scope (cJ X.env scope.names []) C X.env) (eval c (ib scope (cJ X.env scope.names []) C X.env));pure (oQ ok) else pure (oQ r)) (λok gZ =>
     if ok=true then az (aJ X.prog X.w) X.A (eval elt (ib scope (cJ X.env scope.names []) C X.env)) (λu eW=>∃e v H',r = .ok (some e)/\Inv (dH X y scope C aA aD fp pn) pins σ H' eW/\RelV v u/\aW H H'/\Is X.K (aS F H') e v) (λ_ _=>False) gZ
     else r = .ok none/\∃H',Inv (dH X y scope C aA aD fp pn) pins σ H' gZ/\aW H H') (λ_ _=>False) s
structure CJ (X:Cx) (y:Str) (scope:cT) (ifs:List Expr) (elt:Expr) (f:D->G->R (Option D)):Prop where
 run:∀(C:Addr) (aA:aq) (aD:Hp) (fp:List Addr) (pn:List (Addr×Obj)) (pins:List (Addr×Obj)) (s:aq) (σ:St) (H:Hp) (F:List Addr) (Γ:G) (d:D),Inv (dH X y scope C aA aD fp pn) pins σ H s->cn H F->Rel X.K H F (.ro d::Γ) σ->(∃o,f d Γ = .ok o) ->
  az (aJ X.prog X.w) X.A (forIn ifs true λc r=>if r=true then do let ok <-rn c (ib scope (cJ X.env scope.names []) C X.env) (eval c (ib scope (cJ X.env scope.names []) C X.env));pure (oQ ok) else pure (oQ r)) (λok gZ =>
   if ok=true then az (aJ X.prog X.w) X.A (eval elt (ib scope (cJ X.env scope.names []) C X.env)) (λu eW=>∃e v H',f d Γ = .ok (some e)/\Inv (dH X y scope C aA aD fp pn) pins σ H' eW/\RelV v u/\aW H H'/\Is X.K (aS F H') e v) (λ_ _=>False) gZ
   else f d Γ = .ok none/\∃H',Inv (dH X y scope C aA aD fp pn) pins σ H' gZ/\aW H H') (λ_ _=>False) s
theorem jA{elt:Expr}{ge:G->R D}(he:∀C aA aD fp pn,gY (dH X y scope C aA aD fp pn) elt ge):CJ X y scope [] elt (fK ge):=by
 refine⟨λC aA aD fp pn pins s σ H F Γ d I fo rl ⟨o,eo⟩=>?_⟩
 refine S9 ?_
 rw[if_pos rfl]
 have aU:ge (.ro d::Γ) ≠ .no:=λz=>by unfold fK at eo;rw[z] at eo;cases eo
 refine aH ((he C aA aD fp pn).run pins s σ H F (.ro d::Γ) I fo rl aU) (λu s4 ⟨e,v,H',e1,I',rv,S,iv⟩=>⟨e,v,H',R.step e1 _,I',rv,S,iv⟩) λx s' ⟨c,H',e1,_⟩=>?_
 unfold fK at eo;rw[e1] at eo;cases eo
theorem GK{elt c:Expr}{gc:G->R Bool}{ge:G->R D}(hc:∀C aA aD fp pn,jU (dH X y scope C aA aD fp pn) c gc)(he:∀C aA aD fp pn,gY (dH X y scope C aA aD fp pn) elt ge):CJ X y scope [c] elt (pa gc ge):=by
 refine⟨λC aA aD fp pn pins s σ H F Γ d I fo rl ⟨o,eo⟩=>?_⟩
 have aU:gc (.ro d::Γ) ≠ .no:=λz=>by unfold pa at eo;rw[z] at eo;cases eo
 refine a7b (aH ((hc C aA aD fp pn).run pins s σ H F (.ro d::Γ) I fo rl aU) (λk s3 ⟨H1,e1,I1,S1⟩=>?_) λx s' ⟨c',H',e1,_⟩=>?_)
 ·have om:(if k=true then ge (.ro d::Γ)>>=λe=>R.ok (some e) else .ok none) = .ok o:=by
   unfold pa at eo;rw[e1] at eo;exact eo
  cases k with
  | false =>
    rw[if_neg oN]
    exact⟨R.step e1 _,H1,I1,S1⟩
  | true =>
    rw[if_pos rfl] at om ⊢
    have GL:ge (.ro d::Γ) ≠ .no:=λz=>by rw[z] at om;cases om
    refine aH ((he C aA aD fp pn).run pins s3 σ H1 F (.ro d::Γ) I1 (fo.same S1) (rl.same S1) GL) (λu s4 ⟨e,v,H',e2,I',rv,S,iv⟩=>⟨e,v,H',(R.step e1 _).trans (R.step e2 _),I',rv,S1.trans S,iv⟩) λx s' ⟨c',H',e2,_⟩=>?_
    rw[e2] at om;cases om
 ·unfold pa at eo;rw[e1] at eo;cases eo
theorem CK{K:aK}{H:Hp}{F:List Addr}{Γ:G}{σ:St}{d:D}{v:V}(r:Rel K H F Γ σ)(i:Is K (aS F H) d v):Rel K H F (.ro d::Γ) (some v::σ) where
 len:=by rw[dE,dE,r.len]
 ro:=λj d' h=>by
  cases j with
  | zero=>simp at h;cases h;exact⟨v,rfl,i⟩
  | succ j=>exact r.ro j d' (by simpa using h)
 own:=λj ds h=>by
  cases j with
  | zero=>simp at h
  | succ j=>exact r.own j ds (by simpa using h)
 inj:=λj k ds es a h1 h2 h3 h4=>by
  cases j with
  | zero=>simp at h1
  | succ j =>
    cases k with
    | zero=>simp at h2
    | succ k=>rw[r.inj j k ds es a (by simpa using h1) (by simpa using h2) (by simpa using h3) (by simpa using h4)]
theorem wo{n a i:Nat}(e:n=a-i)(h:i<a):a-(i+1)<n:=by lia
theorem GN{a c d:Nat}(h:c=d+1)(e:a=d):(d≠c/\a<=c/\a<=d)/\∀b,b<a->b≠c/\b≠d:=⟨⟨by lia,by lia,by lia⟩,λb hb=>⟨by lia,by lia⟩⟩
theorem ZG{a c d k:Nat}(h:c=d+1)(e:a=d)(g:c+1=k):(a<=k/\k≠d)/\∀b,b<a->b≠k:=⟨⟨by lia,by lia⟩,λb hb=>by lia⟩
theorem Pz{elt iter:Expr}{px pos:Pos}{ifs:List Expr}{f:D->G->R (Option D)}{pins:List (Addr×Obj)}{σ:St}{aD:Hp}{aA:aq}{F:List Addr}{Γ:G}{items:List D}{it:Addr}{fp:List Addr}{tn:Nat->Heap->Prop}{J:It}{E:ae->aq->Prop}{total:List D}
 (hp:∀(C:Addr) (ps:List (Addr×Obj)) (s:aq) (x:V) (H:Hp) (d:D),Inv (dH X y scope C aA aD fp (X.pn++pins)) ps (some x::σ) H s->aW aD H->cn H F->Rel X.K H F (.ro d::Γ) (some x::σ)->(∃o,f d Γ = .ok o)->ZF X y scope ifs elt (f d Γ) C aA aD fp (X.pn++pins) ps s (some x::σ) H F)
 (c:CI X.N X.env y scope) (hN:X.N.Nodup) (eA:X.calm=true) (I:Inv X pins σ aD aA) (fo:cn aD F) (rl:Rel X.K aD F Γ σ) (T:Turn X.prog X.w X.K (.Name y px) J fp it tn) (t0:tn 0 aA.heap) (hf:∀b∈fp,eD X pins aD b) (hj:JC X.K aD F J items)
 (ht:cj (λd=>f d Γ) items [] = .ok total) (hl:items.length<=100000) {RR:ae->Addr->Aw->aq->Prop}
 (hR:∀(Dd C:Addr) (xs:List V) (H':Hp) (m:Str->Option ae) (s':aq),aA.heap.objs.size<=C->Dd≠C->aD Dd=none->H' Dd=none->H' C=none->aA.heap.objs.size<=Dd->aW aD H'->aC X.K (aS F H') total xs->Inv X pins σ (upd H' Dd (.lst xs)) s'->s'.heap.Ns C m->RR (.ref Dd) C (.ok .next) s') :
 az (aJ X.prog X.w) X.A (xr []) (λacc gZ=>az (aJ X.prog X.w) X.A (DV scope X.env.globals (cJ X.env scope.names []) [] X.env.qual none .none (some X.env)) (λsA eW =>
  m9 (aJ X.prog X.w) X.A (.compStart (.ListComp elt [⟨.Name y px,iter,ifs,0⟩] scope pos) 0 (.ref it) acc { sA with scope:=ic scope X.env }) (RR acc sA.locals) eW) E gZ) E aA:=by
 have ho:∀b∈fp,b<aA.heap.objs.size:=λb hb=>by obtain⟨o,e,_⟩:=T.obj _ _ t0 b hb;exact bx e
 refine lY (a7c c.pK (by intro y hy;simp at hy) (λcB mS oo=>?_) c.kind)
 dsimp only at mS oo ⊢
 generalize oq:aA.heap.push { cls:=.type "list",dict:=none,data:=.seq ([]:List ae).toArray }=H2 at mS oo ⊢
 have mT:H2.objs.size=aA.heap.objs.size+1:=by rw[<-oq,fG]
 generalize PA:H2.objs.size=C at mS oo mT ⊢
 generalize qw:aA.heap.objs.size=Dd at mT ⊢
 obtain⟨⟨dC,hC,hD⟩,below⟩:=GN mT qw
 have old:∀b o,aA.heap.get? b=some o->cB.get? b=some o:=λb o e=>by
  refine oo.extBut b o (below b (bx e)).1 ?_
  exact bB _ (oq ▸ bB _ e)
 have qx:cB.get? Dd=some { cls:=.type "list",dict:=none,data:=.seq ([]:List ae).toArray }:=by
  refine oo.extBut _ _ dC ?_
  refine bB _ ?_
  rw[<-oq,<-qw]
  exact c_ _ rfl
 have J0:∀tk,Inv (dH X y scope C aA aD fp (X.pn++pins)) [(Dd,{ cls:=.type "list",dict:=none,data:=.seq ([]:List ae).toArray })] (none::σ) aD { aA with heap:=cB,toks:=tk }:=λtk =>
  ZE I c hC hD dC hf ho old mS qx (λv z=>nomatch z)
 have t1:tn 0 cB:=T.keep _ _ _ t0 λb hb o e=>old b o e
 have ot:∀{H':Hp} {o:Obj},(∀b∈fp,H' b=none)->∀b∈fp,eD (dH X y scope C aA aD fp (X.pn++pins)) [(Dd,o)] H' b:=λ{H' o} hn b hb=>by
  obtain⟨f0,f1,f2,f3,f4,f5⟩:=hf b hb
  have lt:=ho b hb
  refine⟨hn b hb,(below b lt).1,λz=>?_,.inl hb,λx k e=>?_,λp ck=>?_⟩
  ·rcases List.mem_cons.mp (I.kg b z) with q | q
   ·exact f1 q
   ·exact f2 q
  ·rcases mR scope.names [] (iG e) with q | q
   ·simp at q
   ·exact f4 x k q
  ·rcases List.mem_append.mp ck with q | q
   ·exact f5 p q
   ·have e:p=(Dd,o):=by simpa using q
    subst e
    exact eC (below b lt).2
 have wq:(dH X y scope C aA aD fp (X.pn++pins)).N.Nodup:=by
  show(y::X.N.map (λz=>if z=y then ("":Str) else z)).Nodup
  refine List.nodup_cons.mpr ⟨λz=>?_,?_⟩
  ·obtain⟨z',hz,e⟩:=List.mem_map.mp z
   by_cases q:z'=y
   ·rw[if_pos q] at e
    subst e
    have:=c.loc;rw[c.nil] at this;cases this
   ·rw[if_neg q] at e;exact q e
  ·have inj:∀a∈X.N,∀b∈X.N,(if a=y then ("":Str) else a)=(if b=y then ("":Str) else b)->a=b:=λa ha b hb e=>by
    by_cases qa:a=y
    ·by_cases qb:b=y
     ·rw[qa,qb]
     ·rw[if_pos qa,if_neg qb] at e;exact absurd e.symm (c.none b hb)
    ·by_cases qb:b=y
     ·rw[if_neg qa,if_pos qb] at e;exact absurd e (c.none a ha)
     ·rw[if_neg qa,if_neg qb] at e;exact e
   have gen:∀l:List Str,(∀a∈l,a∈X.N)->l.Nodup->(l.map (λz=>if z=y then ("":Str) else z)).Nodup:=by
    intro l
    induction l with
    | nil=>intro _ _;exact S_
    | cons a l ih =>
      intro hs nd
      obtain⟨n1,n2⟩:=List.nodup_cons.mp nd
      rw[cN]
      refine List.nodup_cons.mpr ⟨λz=>?_,ih (λb hb=>hs b (bY _ hb)) n2⟩
      obtain⟨b,hb,e⟩:=List.mem_map.mp z
      exact n1 (inj b (hs b (bY _ hb)) a (hs a bV) e ▸ hb)
   exact gen X.N (λ_ h=>h) hN
 let L:Nat->aq->Prop:=λn s'=>∃(i:Nat) (H':Hp) (o:Option V) (xs:List V) (its:List ae) (acc:List D) (k:Nat),n=items.length-i/\i<=items.length/\Inv (dH X y scope C aA aD fp (X.pn++pins)) [(Dd,{ cls:=.type "list",dict:=none,data:=.seq its.toArray k })] (o::σ) H' s' /\
  aW aD H'/\(∀b∈fp,H' b=none)/\tn i s'.heap/\Vals xs its/\acc.length<=i/\aC X.K (aS F H') acc xs/\cj (λd=>f d Γ) (items.drop i) acc = .ok total
 have loop:∀eW:aq,L items.length eW->m9 (aJ X.prog X.w) X.A (.compLoop (.ListComp elt [⟨.Name y px,iter,ifs,0⟩] scope pos) 0 (.ref it) (.ref Dd) (ib scope (cJ X.env scope.names []) C X.env)) (RR (.ref Dd) C) eW:=λeW h4=>by
  refine a7d L (λn s' hL=>aH (E:=λ_ _=>False) ?_ (λ_ _ q=>q) λ_ _ z=>z.elim) items.length h4
  obtain⟨i,H',o,xs,its,acc,k,en,hi,J',S',sC,sD,rv,mO,ia,eg⟩:=hL
  obtain⟨qy,qz⟩:=hj H' S'
  have PB:=J'.pin (Dd,{ cls:=.type "list",dict:=none,data:=.seq its.toArray k }) (dh _ (by simp))
  have lJ:xs.length<=100000:=by rw[<-ia.length];exact dD mO (dD hi hl)
  have ly:(100000:Nat)<=cq:=by rw[lV];decide
  by_cases bO:i<items.length
  ·obtain⟨go,yl⟩:=qy i bO
   refine fm (T.item (dH X y scope C aA aD fp (X.pn++pins)) rfl rfl rfl eA i _ s' _ H' (λ_ _=>False) J' (ot sC) sD go) λr s2 ⟨u,hr,h1⟩=>?_
   subst hr
   refine Pw (a:=()) h1 λ⟨x,H5,J5,r5,y5,iB,qA⟩=>?_
   obtain⟨e5,d,ed,iv⟩:=yl x H5 y5
   subst e5
   have zr:=J5.pinned (ot qA) (T.obj _ _ iB)
   have qB:items.drop i=d::items.drop (i+1):=by
    rw[DW bO]
    have:items[i]=d:=by
     have:=cD bO
     rw[ed] at this;exact(iZ this).symm
    rw[this]
   rw[qB] at eg
   have zt:∃od,f d Γ = .ok od/\(match od with | some e=>cj (λd=>f d Γ) (items.drop (i+1)) (acc++[e]) | none=>cj (λd=>f d Γ) (items.drop (i+1)) acc) = .ok total:=by
    unfold cj at eg
    cases q:f d Γ with
    | no=>simp only[q] at eg;cases eg
    | er c'=>simp only[q] at eg;cases eg
    | ok od =>
      refine⟨od,rfl,?_⟩
      cases od with
      | none=>simp only[q] at eg;exact eg
      | some e=>simp only[q] at eg;exact eg
   obtain⟨od,ou,sE⟩:=zt
   have qC:PG (dH X y scope C aA aD fp (X.pn++pins)).bZ (.Name y px) (rM 0):=tj (X:=(dH X y scope C aA aD fp (X.pn++pins)).bZ) wq rfl (.inl (AW c.loc)) (.inr (AW c.loc))
   refine aH (qC _ s2 (o::σ) H5 x u (λa8 H'=>a8=some x::σ/\H'=H5) (zr.dw _) r5 ⟨rfl,rfl⟩) (λ_ s3 ⟨CL,H6,J6,e6,qD⟩=>?_) λ_ _ z=>z.elim
   subst e6 qD
   have zu:=J6.fJ
   have zv:=fo.same S'
   refine aH (hp C _ s3 x H6 d zu S' zv (CK (rl.same S') iv) ⟨od,ou⟩) (λok s4 h4=>?_) λ_ _ z=>z.elim
   have back:∀{s5:aq} {H7:Hp} {cR:St},Inv (dH X y scope C aA aD fp (X.pn++pins)) ([(Dd,{ cls:=.type "list",dict:=none,data:=.seq its.toArray k })]++rN fp s2.heap) cR H7 s5->tn (i+1) s5.heap/\(∀b∈fp,H7 b=none):=λ{s5 H7 cR} J7=>by
    refine⟨T.keep _ _ _ iB λb hb o' e=>(J7.pin (b,o') (dh _ (dh _ (oX hb e)))).1,λb hb=>?_⟩
    obtain⟨o',e,dd⟩:=T.obj _ _ iB b hb
    exact(J7.pin (b,o') (dh _ (dh _ (oX hb e)))).2.1
   cases ok with
   | false =>
     rw[if_neg oN] at h4 ⊢
     obtain⟨ef,H7,J7,S7⟩:=h4
     rw[ou] at ef;cases ef
     obtain⟨ox,oy⟩:=back J7
     exact⟨items.length-(i+1),wo en bO,i+1,H7,some x,xs,its,acc,k,rfl,bO,J7.kj,S'.trans S7,oy,ox,rv,Ta mO,ia.same (gG S7),sE⟩
   | true =>
     rw[if_pos rfl] at h4 ⊢
     refine aH h4 (λu7 s5 ⟨e,v7,H7,ef,J7,r7,S7,zw⟩=>?_) λ_ _ z=>z.elim
     rw[ou] at ef;cases ef
     obtain⟨ox,oy⟩:=back J7
     have J8:=J7.kj
     have kH:=J8.pin (Dd,{ cls:=.type "list",dict:=none,data:=.seq its.toArray k }) (dh _ (by simp))
     have hlen:its.length=acc.length:=by rw[<-rv.length,<-ia.length]
     refine Tb (l:=Dd) (items:=its.toArray) (x:=u7) ⟨k,kH.1⟩ (λh' zz sF=>?_) (by rw[dj,<-rv.length];exact dD lJ ly)
     obtain⟨k',cQ⟩:=zz
     have zD:its.toArray.push u7=(its++[u7]).toArray:=by simp
     rw[zD] at cQ
     have J9:Inv (dH X y scope C aA aD fp (X.pn++pins)) [] (some x::σ) H7 s5:=J8.rL λp ck=>by simp at ck
     have zG:Inv (dH X y scope C aA aD fp (X.pn++pins)) [] (some x::σ) H7 { s5 with heap:=h' }:=J9.turned (t':=s5.toks) (it:=Dd) (λb o' hb e'=>(sF.2 b hb).trans e') kH.2.1 dC (.inr hD) (λx' sG e' z=>by
      rcases mR scope.names [] (iG e') with q | q
      ·simp at q
      ·obtain⟨v',o',dm,_⟩:=I.cell x' sG q
       exact(below sG (bx dm)).2 z) (λp ck z=>by
      rcases List.mem_append.mp ck with q | q
      ·obtain⟨oz,_⟩:=I.pin p q
       exact(below p.1 (bx oz)).2 z
      ·simp at q)
     have zH:Inv (dH X y scope C aA aD fp (X.pn++pins)) [(Dd,{ cls:=.type "list",dict:=none,data:=.seq (its++[u7]).toArray k' })] (some x::σ) H7 { s5 with heap:=h' }:=zG.rL λp ck=>by
      have e':p=(Dd,{ cls:=.type "list",dict:=none,data:=.seq (its++[u7]).toArray k' }):=by simpa using ck
      subst e'
      exact⟨cQ,kH.2.1,dC,kH.2.2.2.1,λv z=>nomatch z⟩
     refine⟨items.length-(i+1),wo en bO,i+1,H7,some x,xs++[v7],its++[u7],acc++[e],k',rfl,bO,zH,S'.trans S7,oy,T.keep _ _ _ ox λb hb o' e'=>(sF.2 b (below b (ho b hb)).2).trans e',rv.append (.cons r7 .nil),by rw[hU,w7];exact Tc mO,(ia.same (gG S7)).append (aC.cons zw aC.nil),sE⟩
  ·have kB:i=items.length:=Td hi (Js bO)
   subst kB
   refine fm (T.done (dH X y scope C aA aD fp (X.pn++pins)) rfl rfl rfl eA _ _ s' _ H' (λ_ _=>False) J' (ot sC) sD qz) λr s1 ⟨hr,J1⟩=>?_
   subst hr
   have oA:=J1.pin (Dd,{ cls:=.type "list",dict:=none,data:=.seq its.toArray k }) (dh _ (by simp))
   rw[AF] at eg
   have:acc=total:=by unfold cj at eg;cases eg;rfl
   subst this
   obtain⟨mC,jY,_⟩:=J1.loc
   exact hR Dd C xs H' mC s1 hC dC (I.aQ.fresh hD) oA.2.1 J1.free hD S' ia (ZC I J1 hD oA.2.1 oA.1 rv (dD lJ ly) hf) jY
 have L0:∀tk,L items.length { aA with heap:=cB,toks:=tk }:=λtk=>⟨0,aD,none,[],[],[],_,rfl,ji _,J0 tk,.refl _,λb hb=>(hf b hb).1,t1,.nil,bA _,aC.nil,by rw[w_];exact ht⟩
 exact Tf (loop _ (L0 _)) (T.self _ 0 _ _ _ t1 (loop _ (L0 _)))
theorem jZ{elt iter:Expr}{px pos:Pos}{ifs:List Expr}{f:D->G->R (Option D)}{gi:G->R (List D)}(hi:zj X (.Name y px) iter gi)(hp:CJ X y scope ifs elt f)(hN:X.N.Nodup)(eA:X.calm=true)
 (qE:CH X.N X.env y scope=true:=by rfl) (qF:DX scope X.env=pure (cJ X.env scope.names []):=by rfl) (hs:∀x,xt iter X.env x=pure x:=by intro _;rfl) :
 PF X (.ListComp elt [⟨.Name y px,iter,ifs,0⟩] scope pos) (dM gi f):=by
 refine⟨λpins s σ H F Γ I fo rl hg=>?_⟩
 have c:=Pu qE
 rw[eval_ListComp]
 refine DY (use:=none) rfl hs qF c.kind c.names (aH (hi.run pins s σ H F Γ I fo rl (R.left hg)) (λxv cy cB=>aH cB (λki aA qG=>?_) λ_ _ x=>x.bind _) λ_ _ x=>x.bind _)
 obtain⟨items,it,fp,tn,J,aD,e1,rfl,I2,S2,T,t0,fk,jc⟩:=qG
 have eU:=R.next hg e1
 obtain⟨hl,e2⟩:=R.dz eU
 have aU:cj (λd=>f d Γ) items [] ≠ .no:=by
  have:=R.next hg e1
  rw[e2] at this;exact this
 obtain⟨total,et⟩:=tG aU
 refine Pz (RR:=λacc C=>DZ (aJ X.prog X.w) X.A _ none _ acc C) (λC ps s x H d J _ fo rl e=>hp.run C aA aD fp (X.pn++pins) ps s _ H F Γ d J fo rl e) c hN eA I2 (fo.same S2) (rl.same S2) T t0 fk jc et hl ?_
 intro Dd C xs H' m s' hC dC hn iL jY hD S' ia I' qH
 refine⟨m,qH,λiU qI=>?_⟩
 have jb:∀{b:Addr} {o:Obj},aA.heap.get? b=some o->b≠C:=λe=>cX (b_ (bx e) hC)
 have GO:Inv X pins σ (upd H' Dd (.lst xs)) { s' with heap:=iU }:=I'.turned (t':=s'.toks) (it:=C) (λb o hb e=>qI.extBut b o hb e) (by rw[bP (eC dC)];exact jY) (jC (b_ I2.lt hC)) (.inr (dD I2.sz hC))
  (λx k e=>by obtain⟨v,o,ho,_⟩:=I2.cell x k e;exact jb ho) (λp ck=>jb (I2.pin p ck).1)
 have S3:=iA iL (.lst xs)
 refine⟨total,Dd,xs,_,(R.step e1 _).trans (e2.trans et),GO,rfl,(S2.trans S').trans S3,S2.free hn,dq,ia.same λb o hb=>?_⟩
 obtain⟨z1,z2⟩:=kD hb
 have i_:b≠Dd:=fI z2 iL
 rw[fc λz=>(List.mem_cons.mp z).elim i_ z1,bP i_]
 exact z2
end
def GP(X:Cx)(pins:List (Addr×Obj))(H:Hp)(F:List Addr)(Γ:G)(s':aq):Prop:=∃a8 H' F',Inv X pins a8 H' s'/\cn H' F'/\Rel X.K H' F' Γ a8/\Ext H F H' F'
def qJ(X:Cx)(pins:List (Addr×Obj))(H:Hp)(F:List Addr)(r:R Fl)(u:ae)(s':aq):Prop:=∃v a8 H' F',Inv X pins a8 H' s'/\RelV v u/\Ext H F H' F' /\
 ((∃d,r = .ok (.rt d)/\Is X.K H' d v)∨∃ds a xs,r = .ok (.fu ds)/\v = .ref a/\(a∈F∨H a=none)/\H' a=some (.lst xs)/\aC X.K H' ds xs)
theorem qJ.map{X:Cx}{pins xI:List (Addr×Obj)}{H H1:Hp}{F F1:List Addr}{r r':R Fl}{u:ae}{s':aq}(h:qJ X pins H1 F1 r u s')(E:Ext H F H1 F1)(hI:∀a8 H',Inv X pins a8 H' s'->Inv X xI a8 H' s')
 (h1:∀d,r = .ok (.rt d)->r' = .ok (.rt d)) (h2:∀ds,r = .ok (.fu ds)->r' = .ok (.fu ds)):qJ X xI H F r' u s':=by
 obtain⟨v,a8,H',F',I,rv,E',q⟩:=h
 refine⟨v,a8,H',F',hI _ _ I,rv,E.trans E',?_⟩
 rcases q with ⟨d,e,i⟩ | ⟨ds,a,xs,e,ev,hn,ha,i⟩
 ·exact .inl ⟨d,h1 d e,i⟩
 ·refine .inr ⟨ds,a,xs,h2 ds e,ev,?_,ha,i⟩
  rcases hn with z | z
  ·exact E.old a z
  ·by_cases c:a∈F
   ·exact .inl c
   ·refine .inr ?_
    cases q:H a with
    | none=>rfl
    | some o=>rw[E.keep a o c q] at z;cases z
def qK(X:Cx)(pins:List (Addr×Obj))(H:Hp)(F:List Addr)(r:R Fl)(fl:Flow)(s':aq):Prop:=match fl with
 | .next=>∃Γ',r = .ok (.nx Γ')/\GP X pins H F Γ' s'
 | .brk=>∃Γ',r = .ok (.bk Γ')/\GP X pins H F Γ' s'
 | .cont=>∃Γ',r = .ok (.ct Γ')/\GP X pins H F Γ' s'
 | .ret u=>qJ X pins H F r u s'
def sH(X:Cx)(pins:List (Addr×Obj))(H:Hp)(F:List Addr)(r:R Fl)(x:ae)(s':aq):Prop:=∃c Γ' a8 H' F',r = .ok (.ex c Γ')/\ui X pins a8 H' c x s'/\cn H' F'/\Rel X.K H' F' Γ' a8/\Ext H F H' F'
structure PQ (X:Cx) (st:Stmt) (g:G->R Fl):Prop where
 run:∀(pins:List (Addr×Obj)) (s:aq) (σ:St) (H:Hp) (F:List Addr) (Γ:G),Inv X pins σ H s->cn H F->Rel X.K H F Γ σ->g Γ ≠ .no ->
  az (aJ X.prog X.w) X.A (exec st X.env) (qK X pins H F (g Γ)) (sH X pins H F (g Γ)) s
structure lN (X:Cx) (st:List Stmt) (g:G->R Fl):Prop where
 run:∀(pins:List (Addr×Obj)) (s:aq) (σ:St) (H:Hp) (F:List Addr) (Γ:G),Inv X pins σ H s->cn H F->Rel X.K H F Γ σ->g Γ ≠ .no ->
  az (aJ X.prog X.w) X.A (execs st X.env) (qK X pins H F (g Γ)) (sH X pins H F (g Γ)) s
theorem qK.later{X:Cx}{pins:List (Addr×Obj)}{H H1:Hp}{F F1:List Addr}{r:R Fl}{fl:Flow}{s':aq}(E:Ext H F H1 F1)(h:qK X pins H1 F1 r fl s'):qK X pins H F r fl s':=by
 cases fl with
 | next=>obtain⟨Γ',e,a8,H',F',h1,h2,h3,h4⟩:=h;exact⟨Γ',e,a8,H',F',h1,h2,h3,E.trans h4⟩
 | brk=>obtain⟨Γ',e,a8,H',F',h1,h2,h3,h4⟩:=h;exact⟨Γ',e,a8,H',F',h1,h2,h3,E.trans h4⟩
 | cont=>obtain⟨Γ',e,a8,H',F',h1,h2,h3,h4⟩:=h;exact⟨Γ',e,a8,H',F',h1,h2,h3,E.trans h4⟩
 | ret u=>exact qJ.map h E (λ_ _ I=>I) (λ_ e=>e) λ_ e=>e
theorem sH.later{X:Cx}{pins:List (Addr×Obj)}{H H1:Hp}{F F1:List Addr}{r:R Fl}{x:ae}{s':aq}(E:Ext H F H1 F1)(h:sH X pins H1 F1 r x s'):sH X pins H F r x s':=by
 obtain⟨c,Γ',a8,H',F',e,h1,h2,h3,h4⟩:=h
 exact⟨c,Γ',a8,H',F',e,h1,h2,h3,E.trans h4⟩
theorem cb.lift{α:Type}{X:Cx}{pins:List (Addr×Obj)}{σ:St}{H:Hp}{F:List Addr}{Γ:G}{r:R α}{x:ae}{s':aq}(fo:cn H F)(rl:Rel X.K H F Γ σ)(h:cb X pins σ H r x s')(k:α->R Fl):sH X pins H F (lift r Γ k) x s':=by
 obtain⟨c,H',e,S,fl⟩:=h
 exact⟨c,Γ,σ,H',F,by rw[e];rfl,fl,fo.same S,rl.same S,.of_same S⟩
theorem Rel.CM{K:aK}{H:Hp}{F:List Addr}{Γ:G}{σ:St}{i:Nat}{d:D}{v:V}(r:Rel K H F Γ σ)(iv:Is K (aS F H) d v):Rel K H F (Γ.set i (.ro d)) (σ.set i (some v)) where
 len:=by rw[kd,kd,r.len]
 ro:=λj d' h=>by
  by_cases e:i=j
  ·subst e
   by_cases hi:i<Γ.length
   ·rw[jB hi] at h;cases h
    exact⟨v,jB (by rw[<-r.len];exact hi),iv⟩
   ·rw[eY (by rw[kd];lia)] at h;cases h
  ·rw[gM e] at h
   rw[gM e]
   exact r.ro j d' h
 own:=λj ds h=>by
  by_cases e:i=j
  ·subst e
   by_cases hi:i<Γ.length
   ·rw[jB hi] at h;cases h
   ·rw[eY (by rw[kd];lia)] at h;cases h
  ·rw[gM e] at h
   rw[gM e]
   exact r.own j ds h
 inj:=λj k ds es a h1 h2 h3 h4=>by
  by_cases ej:i=j
  ·subst ej
   by_cases hi:i<Γ.length
   ·rw[jB hi] at h1;cases h1
   ·rw[eY (by rw[kd];lia)] at h1;cases h1
  ·by_cases ek:i=k
   ·subst ek
    by_cases hi:i<Γ.length
    ·rw[jB hi] at h2;cases h2
    ·rw[eY (by rw[kd];lia)] at h2;cases h2
   ·rw[gM ej] at h1 h3
    rw[gM ek] at h2 h4
    exact r.inj j k ds es a h1 h2 h3 h4
theorem Rel.set_own{K:aK}{H H':Hp}{F:List Addr}{Γ:G}{σ:St}{i:Nat}{ds:List D}{xs:List V}{a:Addr}(r:Rel K H F Γ σ)(fo:cn H F)(S:aW H H')(hn:H a=none)(ha:H' a=some (.lst xs))(iv:aC K (aS (a::F) H') ds xs):Rel K H' (a::F) (Γ.set i (.own ds)) (σ.set i (some (.ref a))) where
 len:=by rw[kd,kd,r.len]
 ro:=λj d' h=>by
  by_cases e:i=j
  ·subst e
   by_cases hi:i<Γ.length
   ·rw[jB hi] at h;cases h
   ·rw[eY (by rw[kd];lia)] at h;cases h
  ·rw[gM e] at h
   rw[gM e]
   obtain⟨v,h1,h2⟩:=r.ro j d' h
   exact⟨v,h1,h2.same (O9 S hn)⟩
 own:=λj ds' h=>by
  by_cases e:i=j
  ·subst e
   by_cases hi:i<Γ.length
   ·rw[jB hi] at h;cases h
    exact⟨a,xs,jB (by rw[<-r.len];exact hi),bV,ha,iv⟩
   ·rw[eY (by rw[kd];lia)] at h;cases h
  ·rw[gM e] at h
   rw[gM e]
   obtain⟨b,ys,h1,h2,h3,h4⟩:=r.own j ds' h
   exact⟨b,ys,h1,bY _ h2,S _ _ h3,h4.same (O9 S hn)⟩
 inj:=λj k ds' es b h1 h2 h3 h4=>by
  have nF:∀(l:Nat) (cU:List D),i≠l->Γ[l]? = some (.own cU)->σ[l]? ≠ some (some (.ref a)):=λl cU _ h z=>by
   obtain⟨b',ys,q1,q2,q3,_⟩:=r.own l cU h
   rw[z] at q1;cases q1
   rw[hn] at q3;cases q3
  by_cases ej:i=j
  ·by_cases ek:i=k
   ·rw[<-ej,<-ek]
   ·exfalso
    subst ej
    have hi:i<σ.length:=by
     by_cases hi:i<σ.length
     ·exact hi
     ·rw[eY (by rw[kd];lia)] at h3;cases h3
    rw[jB hi] at h3;cases h3
    rw[gM ek] at h2 h4
    exact nF k es ek h2 h4
  ·by_cases ek:i=k
   ·exfalso
    subst ek
    have hi:i<σ.length:=by
     by_cases hi:i<σ.length
     ·exact hi
     ·rw[eY (by rw[kd];lia)] at h4;cases h4
    rw[jB hi] at h4;cases h4
    rw[gM ej] at h1 h3
    exact nF j ds' ej h1 h3
   ·rw[gM ej] at h1 h3
    rw[gM ek] at h2 h4
    exact r.inj j k ds' es b h1 h2 h3 h4
theorem Rel.put{K:aK}{H:Hp}{F:List Addr}{Γ:G}{σ:St}{i:Nat}{ds ds':List D}{xs':List V}{a:Addr}(r:Rel K H F Γ σ)(e:Γ[i]? = some (.own ds))(ea:σ[i]? = some (some (.ref a)))(iv:aC K (aS F H) ds' xs'):Rel K (upd H a (.lst xs')) F (Γ.set i (.own ds')) σ/\a∈F:=by
 obtain⟨a',xs,h1,hF,h3,h4⟩:=r.own i ds e
 rw[ea] at h1;cases h1
 have hh:aS F (upd H a (.lst xs'))=aS F H:=by
  funext b
  by_cases hb:b∈F
  ·rw[za hb,za hb]
  ·rw[fc hb,fc hb,bP (λz=>hb (by rw[z];exact hF))]
 have hi:i<Γ.length:=(List.getElem?_eq_some_iff.mp e).1
 refine⟨⟨by rw[kd,r.len],λj d' h=>?_,λj es h=>?_,λj k dr CN b h1 h2 y7 ZH=>?_⟩,hF⟩
 ·by_cases ej:i=j
  ·subst ej;rw[jB hi] at h;cases h
  ·rw[gM ej] at h
   rw[hh];exact r.ro j d' h
 ·by_cases ej:i=j
  ·subst ej;rw[jB hi] at h;cases h
   exact⟨a,xs',ea,hF,dq,by rw[hh];exact iv⟩
  ·rw[gM ej] at h
   obtain⟨b,ys,q1,q2,q3,q4⟩:=r.own j es h
   refine⟨b,ys,q1,q2,?_,by rw[hh];exact q4⟩
   rw[bP (λz=>ej (r.inj i j ds es a e h ea (by rw[<-z];exact q1)))];exact q3
 ·have old:∀(l:Nat) (cU:List D),(Γ.set i (En.own ds'))[l]? = some (En.own cU)->∃ZI,Γ[l]? = some (En.own ZI):=λl cU h=>by
   by_cases el:i=l
   ·subst el;exact⟨ds,e⟩
   ·rw[gM el] at h;exact⟨cU,h⟩
  obtain⟨e1,q1⟩:=old j dr h1
  obtain⟨e2,q2⟩:=old k CN h2
  exact r.inj j k e1 e2 b q1 q2 y7 ZH
section
variable {X:Cx}{st:Stmt}{rest:List Stmt}{t u:G->R Fl}{e a b c:Expr}{g ga gb:G->R D}{pos p pos':Pos}
theorem iV:lN X [] c5:=⟨λpins s σ H F Γ I fo rl _=>D0 ⟨Γ,rfl,σ,H,F,I,fo,rl,.refl⟩⟩
theorem aM(h1:PQ X st t)(h2:lN X rest u):lN X (st::rest) (aG t u):=by
 refine⟨λpins s σ H F Γ I fo rl hg=>?_⟩
 refine a7e (aH (h1.run pins s σ H F Γ I fo rl (R.left hg)) (λfl s1 q=>?_) λx s1 q=>?_)
 ·cases fl with
  | next =>
    obtain⟨Γ',e,a8,H',F',I',GQ,qL,E⟩:=q
    have e2:aG t u Γ=u Γ':=R.step e _
    rw[e2] at hg ⊢
    exact aH (h2.run pins s1 a8 H' F' Γ' I' GQ qL hg) (λ_ _ q=>q.later E) λ_ _ q=>q.later E
  | ret v=>exact qJ.map q .refl (λ_ _ I=>I) (λ_ e=>R.step e _) λ_ e=>R.step e _
  | brk=>obtain⟨Γ',e,r⟩:=q;exact⟨Γ',R.step e _,r⟩
  | cont=>obtain⟨Γ',e,r⟩:=q;exact⟨Γ',R.step e _,r⟩
 ·obtain⟨c,Γ',a8,H',F',e,r⟩:=q
  exact⟨c,Γ',a8,H',F',R.step e _,r⟩
theorem aT(h1:PQ X st t):lN X [st] t:=by
 refine⟨λpins s σ H F Γ I fo rl hg=>?_⟩
 refine a7e (fm (h1.run pins s σ H F Γ I fo rl hg) λfl s1 q=>?_)
 cases fl with
 | next=>exact D0 q
 | ret v=>exact q
 | brk=>exact q
 | cont=>exact q
theorem bU(he:PD X e g):PQ X (.Return (some e) pos) (bu g):=⟨λpins s σ H F Γ I fo rl hg =>
 Tg (aH (he.run pins s σ H F Γ I fo rl (jO hg)) (λu s1 ⟨d,v,H',e1,I',rv,S,i⟩=>⟨v,σ,H',F,I',rv,.of_same S,.inl ⟨d,jP e1,i⟩⟩) λ_ _ x=>x.lift fo rl _)⟩
theorem zI{g:G->R (List D)}(he:PF X e g):PQ X (.Return (some e) pos) (qc g):=⟨λpins s σ H F Γ I fo rl hg =>
 Tg (aH (he.run pins s σ H F Γ I fo rl (jO hg)) (λu s1 ⟨ds,a,xs,H',e1,I',eu,S,hn,ha,i⟩=>⟨.ref a,σ,H',F,I',eu,.of_same S,.inr ⟨ds,a,xs,jP e1,rfl,.inr hn,ha,i.same lH⟩⟩) λ_ _ x=>x.lift fo rl _)⟩
theorem zJ(i:Nat){x:Str}{p:Pos}(hN:X.N[i]? = some x:=by rfl)(hv:ny X.env.scope x:=by first | exact iJ rfl | exact fF (iJ rfl) | exact fF (fF rfl))(hd:(x==("__debug__":Str))=false:=by decide)
 (fq:(x==("__classdict__":Str))=false:=by decide):PQ X (.Return (some (.Name x p)) pos) (pb i):=by
 refine⟨λpins s σ H F Γ I fo rl hg=>?_⟩
 unfold pb at hg ⊢
 cases q:Γ[i]? with
 | none=>rw[q] at hg;exact absurd rfl hg
 | some en =>
   cases en with
   | own ds =>
     obtain⟨a,xs,h1,h2,h3,h4⟩:=rl.own i ds q
     refine Tg (aH (vj (X:=X.bZ) hN hv hd fq pins s σ H (λv' H'=>v' = .ref a/\H'=H) (I.dw _) ⟨.ref a,h1,rfl,rfl⟩) (λu s1 ⟨v',H',I',r,e1,e2⟩=>?_) λ_ _ z=>di z)
     subst e1 e2
     exact⟨.ref a,σ,H',F,I'.fJ,r,.refl,.inr ⟨ds,a,xs,rfl,rfl,.inl h2,h3,h4.same lH⟩⟩
   | _=>rw[q] at hg;exact absurd rfl hg
theorem iD{cs ds:List Stmt}{gc:G->R Bool}(hc:jU X c gc)(ha:lN X cs t)(hb:lN X ds u):PQ X (.If c cs ds pos) (cF gc t u):=by
 refine⟨λpins s σ H F Γ I fo rl hg=>?_⟩
 refine wpAny_If (aH (hc.run pins s σ H F Γ I fo rl (jO hg)) (λk s1 ⟨H1,e1,I1,S1⟩=>?_) λ_ _ x=>x.lift fo rl _)
 have e2:cF gc t u Γ=if k=true then t Γ else u Γ:=jP e1
 rw[e2] at hg ⊢
 cases k with
 | true=>exact aH (ha.run pins s1 σ H1 F Γ I1 (fo.same S1) (rl.same S1) hg) (λ_ _ q=>q.later (.of_same S1)) λ_ _ q=>q.later (.of_same S1)
 | false=>exact aH (hb.run pins s1 σ H1 F Γ I1 (fo.same S1) (rl.same S1) hg) (λ_ _ q=>q.later (.of_same S1)) λ_ _ q=>q.later (.of_same S1)
theorem bE(i:Nat){x:Str}(he:gY X e g)(hN:X.N.Nodup)(hi:X.N[i]? = some x:=by rfl)(hx:Loc X.env.scope x:=by first | exact iJ rfl | exact fF rfl)(hs:xu e (some (.Name x pos')) pos.line X.env=pure false:=by rfl)(hf:X.fn x=true∨X.env.scope.names.lookup x=some .local:=by first | exact .inl rfl | exact .inr rfl | assumption) :
 PQ X (.Assign [.Name x pos'] e pos) (aV i g):=by
 refine⟨λpins s σ H F Γ I fo rl hg=>?_⟩
 refine a7f (aH (he.run pins s σ H F Γ I fo rl (jO hg)) (λv s1 ⟨d,y,H1,e1,I1,r1,S1,i1⟩=>?_) λ_ _ x=>x.lift fo rl _) hs
 exact Ee I1 hN hi hx r1 (λs2 I2=>⟨_,jP e1,_,H1,F,I2,fo.same S1,(rl.same S1).CM i1,.of_same S1⟩) hf
theorem g6(i:Nat){x:Str}{g:G->R (List D)}(he:PF X e g)(hN:X.N.Nodup)(hi:X.N[i]? = some x:=by rfl)(hx:Loc X.env.scope x:=by first | exact iJ rfl | exact fF rfl)(hs:xu e (some (.Name x pos')) pos.line X.env=pure false:=by rfl)(hf:X.fn x=true∨X.env.scope.names.lookup x=some .local:=by first | exact .inl rfl | exact .inr rfl | assumption) :
 PQ X (.Assign [.Name x pos'] e pos) (c6 i g):=by
 refine⟨λpins s σ H F Γ I fo rl hg=>?_⟩
 refine a7f (aH (he.run pins s σ H F Γ I fo rl (jO hg)) (λv s1 ⟨ds,a,xs,H1,e1,I1,eu,S1,hn,ha,i1⟩=>?_) λ_ _ x=>x.lift fo rl _) hs
 subst eu
 exact Ee (v:=.ref a) I1 hN hi hx rfl (λs2 I2=>⟨_,jP e1,_,H1,a::F,I2,(fo.same S1).cons ha,rl.set_own fo S1 hn ha i1,⟨λb o _ h=>S1 _ _ h,λb hb=>(List.mem_cons.mp hb).elim (λz=>.inr (z ▸ hn)) .inl⟩⟩) hf
theorem CO(i:Nat){x y:Str}{elt iter:Expr}{px:Pos}{ifs:List Expr}{scope:cT}{f:D->G->R (Option D)}{gi:G->R (List D)}(kB:zj X (.Name y px) iter gi)(hp:CJ X y scope ifs elt f)(hN:X.N.Nodup)(eA:X.calm=true)(hi:X.N[i]? = some x:=by rfl)(hx:Loc X.env.scope x:=by first | exact iJ rfl | exact fF rfl)
 (qM:xu (.ListComp elt [⟨.Name y px,iter,ifs,0⟩] scope p) (some (.Name x pos')) pos.line X.env=pure true:=by rfl) (hf:X.fn x=true∨X.env.scope.names.lookup x=some .local:=by first | exact .inl rfl | exact .inr rfl | assumption)
 (qE:CH X.N X.env y scope=true:=by rfl) (qF:DX scope X.env=pure (cJ X.env scope.names []):=by rfl) (hs:∀x,xt iter X.env x=pure x:=by intro _;rfl) :
 PQ X (.Assign [.Name x pos'] (.ListComp elt [⟨.Name y px,iter,ifs,0⟩] scope p) pos) (c6 i (dM gi f)):=by
 refine⟨λpins s σ H F Γ I fo rl hg=>?_⟩
 have c:=Pu qE
 rw[Th _ _ _ _ qM]
 refine ay (AX (ay ?_))
 show az _ X.A (do let _ <-Ti (.ListComp elt [⟨.Name y px,iter,ifs,0⟩] scope p) scope X.env _ (xr []) false (eval iter X.env) (some (jh (.Name x pos') X.env))) _ _ s
 have oB:=jO hg
 refine ay (aH (DY (use:=some (jh (.Name x pos') X.env)) (Q:=λ_ s'=>qK X pins H F (c6 i (dM gi f) Γ) .next s') rfl hs qF c.kind c.names
  (aH (kB.run pins s σ H F Γ I fo rl (R.left oB)) (λxv cy cB=>aH cB (λki aA qG=>?_) λ_ _ x=>(x.bind _).lift fo rl _) λ_ _ x=>(x.bind _).lift fo rl _)) (λ_ s' hq=>aP (aP hq)) λ_ _ e=>e)
 obtain⟨items,it,fp,tn,J,aD,e1,rfl,I2,S2,T,t0,fk,jc⟩:=qG
 have eU:=R.next oB e1
 obtain⟨hl,e2⟩:=R.dz eU
 have aU:cj (λd=>f d Γ) items [] ≠ .no:=by
  have:=R.next oB e1
  rw[e2] at this;exact this
 obtain⟨total,et⟩:=tG aU
 have eT:dM gi f Γ = .ok total:=(R.step e1 _).trans (e2.trans et)
 refine Pz (RR:=λacc C=>DZ (aJ X.prog X.w) X.A _ (some (jh (.Name x pos') X.env)) _ acc C) (λC ps s x H d J _ fo rl e=>hp.run C aA aD fp (X.pn++pins) ps s _ H F Γ d J fo rl e) c hN eA I2 (fo.same S2) (rl.same S2) T t0 fk jc et hl ?_
 intro Dd C xs H' m s' hC dC hn iL jY hD S' ia I' qH
 have jb:∀{b:Addr} {o:Obj},aA.heap.get? b=some o->b≠C:=λe=>cX (b_ (bx e) hC)
 have S3:=iA iL (.lst xs)
 have jJ:aW H (upd H' Dd (.lst xs)):=(S2.trans S').trans S3
 have hH:H Dd=none:=S2.free hn
 have um:aC X.K (aS (Dd::F) (upd H' Dd (.lst xs))) total xs:=ia.same λb o hb=>by
  obtain⟨z1,z2⟩:=kD hb
  have i_:b≠Dd:=fI z2 iL
  rw[fc λz=>(List.mem_cons.mp z).elim i_ z1,bP i_]
  exact z2
 show az _ X.A (jh (.Name x pos') X.env (.ref Dd)) _ _ s'
 refine Jh (Bb (v:=.ref Dd) I' hN hi hx rfl (λs3 I3 oC=>?_) hf)
 obtain⟨aa,oC,zK⟩:=oC
 have zL:aa≠C:=by
  rcases zK with z | z
  ·subst z;exact cX (b_ I2.lt hC)
  ·obtain⟨v,o,ho,_⟩:=I2.cell x aa z;exact jb ho
 refine⟨m,qH.sameBut oC (eC zL),λiU qI=>?_⟩
 have I4:Inv X pins (σ.set i (some (.ref Dd))) (upd H' Dd (.lst xs)) { s3 with heap:=iU }:=I3.turned (t':=s3.toks) (it:=C) (λb o hb e=>qI.extBut b o hb e) (by rw[bP (eC dC)];exact jY) (jC (b_ I2.lt hC)) (.inr (dD I2.sz hC))
  (λx k e=>by obtain⟨v,o,ho,_⟩:=I2.cell x k e;exact jb ho) (λp ck=>jb (I2.pin p ck).1)
 exact⟨_,jP eT,_,_,Dd::F,I4,(fo.same jJ).cons dq,rl.set_own fo jJ hH dq um,⟨λb o _ h=>jJ _ _ h,λb hb=>(List.mem_cons.mp hb).elim (λz=>.inr (z ▸ hH)) .inl⟩⟩
theorem pL(i:Nat){x:Str}{apos eF:Pos}(he:gY X e g)(hN:X.N[i]? = some x:=by rfl)(hv:ny X.env.scope x:=by first | exact iJ rfl | exact fF (iJ rfl) | exact fF (fF rfl))(hd:(x==("__debug__":Str))=false:=by decide)(fq:(x==("__classdict__":Str))=false:=by decide)
 (qM:xu (.Call (.Attribute (.Name x p) "append" apos) [e] [] eF) none pos.line X.env=pure false:=by rfl)
 (uq:JQ (.Name x p) "append" X.env (eval (.Name x p) X.env)=eval (.Name x p) X.env:=by rfl)
 (ur:((de eF (bR [e] X.env)).all (λx=>!x.1)&&(rA eF (rB [] X.env)).all (λx=>x.1.isSome)
   && decide ([e].length+([]:List qZ).length+(if ([]:List qZ).isEmpty then 0 else 1)<30))=true:=by rfl)
 (uu:(apos.endLine==eF.line)=true:=by rfl) (hs:bR [e] X.env=(false,eval e X.env)::bR [] X.env:=by rfl) :
 PQ X (.Expr (.Call (.Attribute (.Name x p) "append" apos) [e] [] eF) pos) (gd i g):=by
 refine⟨λpins s σ H F Γ I fo rl hg=>?_⟩
 refine a7g ?_ I.quiet qM
 have zM:∃ds,Γ[i]? = some (.own ds):=by
  unfold gd at hg
  split at hg
  ·rename_i ds e1;exact⟨ds,e1⟩
  ·exact absurd rfl hg
 obtain⟨ds,eo⟩:=zM
 have zN:gd i g Γ=lift (g Γ) Γ λd=>R.guard (ds.length<=100000) (.ok (.nx (Γ.set i (.own (ds++[d]))))):=by unfold gd;rw[eo]
 rw[zN] at hg ⊢
 obtain⟨a',xs,h1,hF,h3,h4⟩:=rl.own i ds eo
 refine JR uq ur uu rfl (aH (vj (X:=X.bZ) hN hv hd fq pins s σ H (λv' H'=>v' = .ref a'/\H'=H) (I.dw _) ⟨.ref a',h1,rfl,rfl⟩) (λv s1 ⟨v',H',I1,r1,e1,e2⟩=>?_) λ_ _ z=>di z)
 subst e1 e2
 have zO:=I1.fJ
 obtain⟨t1,t2⟩:=Em (T:="list") zO r1 (.inl ⟨rfl,xs,bW.of h3⟩)
 refine⟨"list",_,Tj,PySem.F.slot_list_append,PySem.F.type_list_append,t1,t2,?_⟩
 rw[hs]
 refine JS rfl (JT ?_)
 show az _ _ (h_ ((false,eval e X.env)::de eF [])) _ _ s1
 refine jk (aH (he.run pins s1 σ H' F Γ zO fo rl (jO hg)) (λu s2 ⟨d,y,H2,e3,I2,r2,S2,i2⟩=>l9 ?_) λ_ _ x=>x.lift fo rl _)
 have eU:=Bv hg e3
 obtain⟨hl,e4⟩:=R.dz eU
 have GR:=S2 _ _ h3
 have ly:(100001:Nat)<=cq:=by rw[lV];decide
 have lJ:=h4.length
 refine aH (Vh (X:=X.bZ) pins s2 σ H2 (.ref a') [y] v [u] (λz sI=>z = .bS/\sI=upd H2 a' (.lst (xs++[y]))) (I2.dw _) r1 (.cons r2 .nil) ⟨a',xs,y,rfl,rfl,GR,by lia,rfl,rfl⟩) (λw' s3 ⟨z,sI,I3,rz,ez,eH⟩=>?_) λ_ _ z=>di z
 subst ez eH
 obtain⟨qL,PC⟩:=(rl.same S2).put eo h1 (xs':=xs++[y]) (ds':=ds++[d]) ((h4.same (gG S2)).append (aC.cons i2 aC.nil))
 refine⟨_,(jP e3).trans e4,σ,_,F,I3.fJ,λb hb=>?_,qL,⟨λb o hb h=>?_,λb hb=>.inl hb⟩⟩
 ·by_cases sJ:b=a'
  ·exact⟨xs++[y],by rw[sJ];exact dq⟩
  ·obtain⟨ys,q⟩:=fo b hb
   exact⟨ys,by rw[bP sJ];exact S2 _ _ q⟩
 ·rw[bP (λz=>hb (by rw[z];exact hF))];exact S2 _ _ h
theorem PH(i:Nat){x:Str}{k:Expr}{gk:G->R D}{sL:Pos}(hk:PD X k gk)(he:gY X e g)(hN:X.N[i]? = some x:=by rfl)(hv:ny X.env.scope x:=by first | exact iJ rfl | exact fF (iJ rfl) | exact fF (fF rfl))(hd:(x==("__debug__":Str))=false:=by decide)(fq:(x==("__classdict__":Str))=false:=by decide)
 (ha:∀v,jh (.Subscript (.Name x p) k sL) X.env v=(do
   let ov <-AQ [v] (eval (.Name x p) X.env)
   let iv <-AQ [v,ov] (eval k X.env)
   SU sL
   AQ [v,ov,iv] (setItem ov iv v)
   release [v,ov,iv] []):=by intro _;rfl)
 (hs:swapsWithSole [.Subscript (.Name x p) k sL] e pos.line X.env=pure false:=by rfl) (hw:swappedStores [.Subscript (.Name x p) k sL] e X.env=pure none:=by rfl)
 (oz:(Au [.Subscript (.Name x p) k sL] X.env).map (·.2)=[jh (.Subscript (.Name x p) k sL) X.env]:=by rfl) :
 PQ X (.Assign [.Subscript (.Name x p) k sL] e pos) (qd i gk g):=by
 refine⟨λpins s σ H F Γ I fo rl hg=>?_⟩
 have zM:∃ds,Γ[i]? = some (.own ds):=by
  unfold qd at hg
  split at hg
  ·rename_i ds e1;exact⟨ds,e1⟩
  ·exact absurd rfl hg
 obtain⟨ds,eo⟩:=zM
 have zN:qd i gk g Γ=lift (g Γ) Γ λd=>lift (gk Γ) Γ λk=>(match k with
  | .int j=>(match i6 ds.length j with | some j'=>.ok (.nx (Γ.set i (.own (ds.set j' d)))) | none=>.no)
  | _=>.no):=by(unfold qd;rw[eo])<;>rfl
 rw[zN] at hg ⊢
 obtain⟨a',xs,h1,hF,h3,h4⟩:=rl.own i ds eo
 refine wpAny_Assign_stores (aH (he.run pins s σ H F Γ I fo rl (jO hg)) (λu s1 ⟨d,y,H1,e1,I1,r1,S1,i1⟩=>?_) λ_ _ x=>x.lift fo rl _) hs hw
 have a9:=Bv hg e1
 rw[oz]
 rw[jP e1] at hg ⊢
 show az _ _ (jh (.Subscript (.Name x p) k sL) X.env u) _ _ s1
 rw[ha]
 refine ay (oK (aH (vj (X:=X.bZ) hN hv hd fq pins s1 σ H1 (λv' H'=>v' = .ref a'/\H'=H1) (I1.dw _) ⟨.ref a',h1,rfl,rfl⟩) (λv s2 ⟨v',H',I2,r2,e2,e3⟩=>?_) λ_ _ z=>di z))
 subst e2 e3
 refine ay (oK (aH (hk.run pins s2 σ H' F Γ I2.fJ (fo.same S1) (rl.same S1) (jO hg)) (λw' s3 ⟨dk,vk,H3,e4,I3,r3,S3,i3⟩=>?_) λ_ _ x=>(x.lift (fo.same S1) (rl.same S1) _).later (.of_same S1)))
 have dg:=Bv hg e4
 rw[jP e4] at hg ⊢
 cases dk with
 | int j =>
   cases q:i6 ds.length j with
   | none=>simp only[q] at dg;exact absurd rfl dg
   | some j' =>
     have ZJ:=S3 _ _ (S1 _ _ h3)
     refine ay (AX (ay (oK (aH (U7 (X:=X.bZ) pins s3 σ H3 (.ref a') vk y v w' u (λsI=>sI=upd H3 a' (.lst (xs.set j' y))) (I3.dw _) r2 r3 r1 ⟨a',xs,j,j',rfl,Is.bT.mp i3,ZJ,by rw[<-h4.length];exact q,rfl⟩) (λ_ s4 ⟨sI,I4,eH⟩=>?_) λ_ _ z=>di z))))
     subst eH
     refine wpAny_release ?_
     have CP:=S1.trans S3
     obtain⟨qL,PC⟩:=(rl.same CP).put eo h1 (xs':=xs.set j' y) (ds':=ds.set j' d) (aC.set (i1.same (gG S3)) j' (h4.same (gG CP)))
     refine⟨_,by simp only[q],σ,_,F,I4.fJ,λb hb=>?_,qL,⟨λb o hb h=>?_,λb hb=>.inl hb⟩⟩
     ·by_cases sJ:b=a'
      ·exact⟨_,by rw[sJ];exact dq⟩
      ·obtain⟨ys,q'⟩:=fo b hb
       exact⟨ys,by rw[bP sJ];exact CP _ _ q'⟩
     ·rw[bP (λz=>hb (by rw[z];exact hF))];exact CP _ _ h
 | _=>exact absurd rfl dg
def zP(X:Cx):Prop:=∀pins H F r,PassesOwn (aJ X.prog X.w) X.A X.env (sH X pins H F r)
theorem j4(i:Nat){x:Str}{px:Pos}{iter:Expr}{body:List Stmt}{gi:G->R (List D)}{gb:G->R Fl}(hp:zP X)(eA:X.calm=true)(hi:wj X (.Name x px) iter gi)(hb:lN X body gb)(hN:X.N.Nodup)(GS:X.N[i]? = some x:=by rfl)(hx:Loc X.env.scope x:=by first | exact iJ rfl | exact fF rfl)
 (hf:X.fn x=true∨X.env.scope.names.lookup x=some .local:=by first | exact .inl rfl | exact .inr rfl | assumption)
 (hs:∀x,xt iter X.env x=pure x:=by intro _;rfl):PQ X (.For (.Name x px) iter body [] pos) (fL i gi gb):=by
 refine⟨λpins s σ H F Γ I fo rl hg=>?_⟩
 refine wpAny_For (aH (hi.run pins s σ H F Γ I fo rl (jO hg)) (λv s1 h1=>aH h1 (λki s2 h2=>?_) λ_ _ x=>x.lift fo rl _) λ_ _ x=>x.lift fo rl _) hs
 obtain⟨ds,it,fp,tn,J,H2,e1,rfl,I2,S2,T,t0,fk,jd⟩:=h2
 have eg:fL i gi gb Γ=dA gb i ds Γ:=jP e1
 rw[eg] at hg ⊢
 have ck:=hp pins H F (dA gb i ds Γ)
 have uv:∀{H':Hp},(∀b∈fp,H' b=none)->∀b∈fp,eD X pins H' b:=λhn b hb=>⟨hn b hb,(fk b hb).2⟩
 refine a7h (λn s'=>∃(j:Nat) (a8:St) (H':Hp) (F':List Addr) (Γ':G),n=ds.length-j/\j<=ds.length/\Inv X pins a8 H' s'/\tn j s'.heap/\(∀b∈fp,H' b=none)/\cn H' F'/\Rel X.K H' F' Γ' a8/\Ext H2 F H' F'/\dA gb i (ds.drop j) Γ'=dA gb i ds Γ) ?_ ds.length
  ⟨0,σ,H2,F,Γ,by lia,ji _,I2,t0,λb hb=>(fk b hb).1,fo.same S2,rl.same S2,.refl,by rw[w_]⟩
 rintro n s3 ⟨j,oE,H3,F3,uw,en,hj,I3,t3,zQ,wt,wu,E3,ux⟩
 have wx:Ext H F H3 F3:=(Ext.of_same S2).trans E3
 obtain⟨qy,qz⟩:=jd H3 λb o hb h=>E3.keep b o hb h
 by_cases bO:j<ds.length
 ·obtain⟨go,yl⟩:=qy j bO
  refine oR ck (fm (T.item X rfl rfl rfl eA j pins s3 oE H3 _ I3 (uv zQ) t3 go) λr s4 ⟨u,hr,h4⟩=>?_)
  subst hr
  refine oR ck (fm h4 λ_ s5 ⟨y,H5,I5,r5,y5,iB,qA⟩=>?_)
  obtain⟨e5,d,ed,iv⟩:=yl y H5 y5
  subst e5
  have GU:=iv F3 λb hb=>E3.old b hb
  have qB:ds.drop j=d::ds.drop (j+1):=by
   rw[DW bO]
   have:ds[j]=d:=by
    have:=cD bO
    rw[ed] at this;exact(iZ this).symm
   rw[this]
  have GV:=I5.pinned (uv qA) (T.obj _ _ iB)
  have qC:PG X.bZ (.Name x px) (rM i):=tj (X:=X.bZ) hN GS hx hf
  refine oR ck (aH (qC _ s5 oE H5 y u (λa8 H'=>a8=oE.set i (some y)/\H'=H5) (GV.dw _) r5 ⟨rfl,rfl⟩) (λ_ s6 ⟨CL,H6,I6,e6,qD⟩=>?_) λ_ _ z=>di z)
  subst e6 qD
  have j5:dA gb i (d::ds.drop (j+1)) uw=dA gb i ds Γ:=by rw[<-qB];exact ux
  have zR:gb (uw.set i (.ro d)) ≠ .no:=λz=>by
   rw[<-j5] at hg
   unfold dA at hg
   rw[z] at hg
   exact hg rfl
  have back:∀{s7:aq} {cR:St} {H7:Hp},Inv X (pins++rN fp s5.heap) cR H7 s7->Inv X pins cR H7 s7/\tn (j+1) s7.heap/\∀b∈fp,H7 b=none:=λ{s7 cR H7} I7=>by
   refine⟨I7.kj,T.keep _ _ _ iB λb hb o e=>(I7.pin (b,o) (dh _ (dh _ (oX hb e)))).1,λb hb=>?_⟩
   obtain⟨o,e,dd⟩:=T.obj _ _ iB b hb
   exact(I7.pin (b,o) (dh _ (dh _ (oX hb e)))).2.1
  refine oR ck (aH (hb.run _ s6 _ H6 F3 _ I6.fJ wt (wu.CM GU) zR) (λf s7 q7=>?_) λx7 s7 q7=>?_)
  ·cases f with
   | next =>
     obtain⟨fZ,e7,cR,H7,F7,I7,f6,f7,E7⟩:=q7
     obtain⟨b1,b2,b3⟩:=back I7
     refine⟨ds.length-(j+1),by lia,j+1,cR,H7,F7,fZ,rfl,bO,b1,b2,b3,f6,f7,E3.trans E7,?_⟩
     rw[<-j5]
     conv=>rhs;unfold dA
     rw[e7]
   | cont =>
     obtain⟨fZ,e7,cR,H7,F7,I7,f6,f7,E7⟩:=q7
     obtain⟨b1,b2,b3⟩:=back I7
     refine⟨ds.length-(j+1),by lia,j+1,cR,H7,F7,fZ,rfl,bO,b1,b2,b3,f6,f7,E3.trans E7,?_⟩
     rw[<-j5]
     conv=>rhs;unfold dA
     rw[e7]
   | brk =>
     obtain⟨fZ,e7,cR,H7,F7,I7,f6,f7,E7⟩:=q7
     refine⟨fZ,?_,cR,H7,F7,I7.kj,f6,f7,wx.trans E7⟩
     rw[<-j5]
     conv=>lhs;unfold dA
     rw[e7]
   | ret v7 =>
     refine qJ.map q7 wx (λ_ _ I7=>I7.kj) (λd7 e7=>?_) λd7 e7=>?_
     ·rw[<-j5]
      conv=>lhs;unfold dA
      rw[e7]
     ·rw[<-j5]
      conv=>lhs;unfold dA
      rw[e7]
  ·obtain⟨c7,fZ,cR,H7,F7,e7,zS,f6,f7,E7⟩:=q7
   refine⟨c7,fZ,cR,H7,F7,?_,?_,f6,f7,wx.trans E7⟩
   ·rw[<-j5]
    conv=>lhs;unfold dA
    rw[e7]
   ·obtain⟨I7,e',C',oe,vs,q1,q2,q3,q4,q5,q6,GW,q8⟩:=zS
    refine⟨I7.kj,e',C',oe,vs,q1,q2,q3,q4,q5,q6,λp mG=>GW p ?_,?_⟩
    ·rcases List.mem_append.mp mG with z | z
     ·exact m7 _ z
     ·exact dh _ (m7 _ z)
    ·obtain⟨w1,w2,w3,w4,w5⟩:=q8
     refine⟨w1,w2,w3,w4,?_⟩
     rcases w5 with w5 | ⟨T',oT,ts,z1,z2,z3,z4,z5,z6,z7⟩
     ·exact .inl w5
     ·refine .inr ⟨T',oT,ts,z1,z2,z3,z4,z5,λp mG=>z6 p ?_,z7⟩
      rcases List.mem_append.mp mG with z | z
      ·exact m7 _ z
      ·exact dh _ (m7 _ z)
 ·have ej:j=ds.length:=by lia
  subst ej
  refine oR ck (fm (T.done X rfl rfl rfl eA _ pins s3 oE H3 _ I3 (uv zQ) t3 qz) λr s4 ⟨hr,I4⟩=>?_)
  subst hr
  rw[AF] at ux
  exact D0 ⟨uw,ux.symm,oE,H3,F3,I4,wt,wu,wx⟩
theorem pM(n:Nat){PJ:Expr}{body:List Stmt}{gc:G->R Bool}{gb:G->R Fl}(hp:zP X)(hc:jU X PJ gc)(hb:lN X body gb):PQ X (.While PJ body [] pos) (df gc gb n):=by
 refine⟨λpins s σ H F Γ I fo rl hg=>?_⟩
 have ck:=hp pins H F (df gc gb n Γ)
 refine wpAny_While (codeAny_whileLoop (λm s'=>∃(a8:St) (H':Hp) (F':List Addr) (Γ':G),Inv X pins a8 H' s'/\cn H' F'/\Rel X.K H' F' Γ' a8/\Ext H F H' F'/\df gc gb m Γ'=df gc gb n Γ) ?_ n ⟨σ,H,F,Γ,I,fo,rl,.refl,rfl⟩)
 rintro m s1 ⟨tp,H1,F1,mB,I1,CQ,CS,E1,iE⟩
 have a9:df gc gb m mB ≠ .no:=by rw[iE];exact hg
 cases m with
 | zero=>exact absurd rfl a9
 | succ m =>
   have ZK:df gc gb (m+1) mB=lift (gc mB) mB λk=>if k=true then (match gb mB with
    | .ok (.nx Γ')=>df gc gb m Γ'
    | .ok (.ct Γ')=>df gc gb m Γ'
    | .ok (.bk Γ')=>.ok (.nx Γ')
    | .ok (.rt d)=>.ok (.rt d)
    | .ok (.fu d)=>.ok (.fu d)
    | .ok (.ex c Γ')=>.ok (.ex c Γ')
    | _=>.no) else .ok (.nx mB):=rfl
   rw[ZK] at a9 iE
   refine oR ck (aH (hc.run pins s1 tp H1 F1 mB I1 CQ CS (jO a9)) (λk s2 ⟨H2,e2,I2,S2⟩=>?_) λ_ _ x=>by rw[<-iE];exact(x.lift CQ CS _).later E1)
   rw[jP e2] at a9 iE
   cases k with
   | false =>
     rw[if_neg oN] at iE ⊢
     exact D0 ⟨mB,iE.symm,tp,H2,F1,I2,CQ.same S2,CS.same S2,E1.trans (.of_same S2)⟩
   | true =>
     rw[if_pos rfl] at iE a9 ⊢
     have zR:gb mB ≠ .no:=λz=>by rw[z] at a9;exact a9 rfl
     refine oR ck (aH (hb.run pins s2 tp H2 F1 mB I2 (CQ.same S2) (CS.same S2) zR) (λf s3 q3=>?_) λx3 s3 q3=>?_)
     ·cases f with
      | next =>
        obtain⟨fZ,e7,cR,H7,F7,I7,f6,f7,E7⟩:=q3
        rw[e7] at iE
        exact⟨m,xw _,cR,H7,F7,fZ,I7,f6,f7,(E1.trans (.of_same S2)).trans E7,iE⟩
      | cont =>
        obtain⟨fZ,e7,cR,H7,F7,I7,f6,f7,E7⟩:=q3
        rw[e7] at iE
        exact⟨m,xw _,cR,H7,F7,fZ,I7,f6,f7,(E1.trans (.of_same S2)).trans E7,iE⟩
      | brk =>
        obtain⟨fZ,e7,cR,H7,F7,I7,f6,f7,E7⟩:=q3
        rw[e7] at iE
        exact⟨fZ,iE.symm,cR,H7,F7,I7,f6,f7,(E1.trans (.of_same S2)).trans E7⟩
      | ret v =>
        exact qJ.map q3 (E1.trans (.of_same S2)) (λ_ _ I7=>I7) (λd7 e7=>by rw[e7] at iE;exact iE.symm) λd7 e7=>by rw[e7] at iE;exact iE.symm
     ·obtain⟨c7,fZ,cR,H7,F7,e7,zS,f6,f7,E7⟩:=q3
      rw[e7] at iE
      exact⟨c7,fZ,cR,H7,F7,iE.symm,zS,f6,f7,(E1.trans (.of_same S2)).trans E7⟩
end
def wy(X:Cx)(pins:List (Addr×Obj))(σ:St)(H:Hp)(c:Er)(x:ae)(s:aq)(fl:ae):Prop :=
 Inv X pins σ H s/\∃(e C:Addr) (oe:Obj) (vs:Array ae),x = .ref e/\X.mg c.nm=some (.ref C)/\H e=none/\X.s₀.heap.get? e=none/\e≠X.env.locals/\(∀y k,X.env.cells.lookup y=some k->k≠e)/\(∀p∈X.pn++pins,p.1≠e) /\
  s.heap.get? e=some oe/\oe.cls = .ref C/\oe.data = .fields vs/\(∃a0,vs[0]? = some a0) /\
  ∃(T:Addr) (oT:Obj) (ts:Array ae),vs[1]? = some (.ref T)/\H T=none/\X.s₀.heap.get? T=none/\T≠X.env.locals/\(∀y k,X.env.cells.lookup y=some k->k≠T)/\(∀p∈X.pn++pins,p.1≠T)/\T≠e /\
   s.heap.get? T=some oT/\oT.data = .fields ts/\ts[3]? = some fl
section
variable {X:Cx}{pins:List (Addr×Obj)}{σ:St}{H:Hp}{c:Er}{x:ae}{s:aq}{E:ae->aq->Prop}{Q:Unit->aq->Prop}
theorem wy.here{L:Addr}(hf:X.env.frame=some L)(h:wy X pins σ H c x s (rawInt L)):ui X pins σ H c x s:=by
 obtain⟨I,e,C,oe,vs,h1,h2,h3,h4,h5,h6,h7,h8,h9,kI,lO,T,oT,ts,k1,k2,k3,k4,k5,k6,k7,k8,k9,mU⟩:=h
 exact⟨I,e,C,oe,vs,h1,h2,h3,h4,h5,h6,h7,h8,h9,kI,lO,.inr ⟨T,oT,ts,k1,k2,k3,k4,k5,k6,k7,k8,k9,.inr ⟨L,hf,mU⟩⟩⟩
theorem PK{P:bw}{w:aY}{H:Hp}{h:Heap}{a:Addr}{o:HO}(x:i4 P w H h a o):∃ob,h.get? a=some ob:=by
 cases o with
 | lst xs=>obtain⟨_,_,_,_,e⟩:=x;exact⟨_,e⟩
 | tup xs=>obtain⟨_,_,_,ob,e,_⟩:=x;exact⟨_,e⟩
 | dK fi=>obtain⟨_,_,_,_,o,_,_,e,_⟩:=x;exact⟨_,e⟩
 | dT fi=>obtain⟨_,_,_,_,o,_,_,e,_⟩:=x;exact⟨_,e⟩
 | set S n=>obtain⟨o,_,_,_,e,_⟩:=x;exact⟨_,e⟩
 | ins C dx fs=>obtain⟨_,_,_,e,_⟩:=x;exact⟨_,e⟩
 | own y=>exact x
 | xd fs=>obtain⟨_,⟨_,_,_,e,_⟩,_⟩:=x;exact⟨_,e⟩
 | A5 lo hi=>obtain⟨_,_,_,e⟩:=x;exact⟨_,e⟩
 | iK ob u=>obtain⟨e,_⟩:=x;exact⟨_,e⟩
 | rH ps=>exact⟨_,x⟩
 | met f y=>exact⟨_,x⟩
 | ext φ=>exact x.2.1
theorem Inv.PM{ch:List Addr}{h':Heap}(I:Inv X pins σ H s)(i5:∀b∈ch,H b=none/\X.s₀.heap.get? b=none/\b≠X.env.locals/\(∀y k,X.env.cells.lookup y=some k->k≠b)/\∀p∈X.pn++pins,p.1≠b)
 (keep:∀b o,b ∉ cY X.stack->b ∉ ch->s.heap.get? b=some o->h'.get? b=some o) (slot:∀b o,b ∉ ch->s.heap.get? b=some o->∃sl,h'.get? b=some { o with slots:=sl }):Inv X pins σ H { s with heap:=h' }:=by
 refine I.call (g':=s.gens) (t':=s.toks) (d':=s.drawn) (ch:=ch) ⟨λb o e _ hb hc=>keep b o hb hc e,λb o e _ _ hc=>slot b o hc e,λ_ _ _ n _=>n,λb o e hc=>let ⟨sl,q⟩:=slot b o hc e;⟨_,q⟩,λ_ _ q=>q,λ_ _ _ q=>q,λ_ ps q=>⟨#[],by rw[q];simp⟩⟩ (λb u e=>?_) I.bare λb hb=>?_
 ·have tr:∀d w',H d=some w'->d ∉ cY X.stack/\d ∉ ch:=λd w' q=>by
   refine⟨λz=>?_,λz=>?_⟩
   ·rw[I.xG d z] at q;cases q
   ·rw[(i5 d z).1] at q;cases q
  refine(I.aQ b u e).nu (λd v hd q=>?_) (λ_ q=>q) λ_ _ q=>q
  rcases hd with z | z
  ·rw[z] at q ⊢;exact keep b v (tr b u e).1 (tr b u e).2 q
  ·exact keep d v (tr d _ z).1 (tr d _ z).2 q
 ·obtain⟨h1,h2,h3,h4,h5⟩:=i5 b hb
  exact⟨.inr h2,h3,h4,h5⟩
def hx(l:List Addr):Hp:=λb=>if b∈l then some (.own 0) else none
theorem ZL{l:List Addr}{b:Addr}(h:b∈l):hx l b=some (.own 0):=by unfold hx;rw[if_pos h]
theorem PN{l:List Addr}{b:Addr}(h:b ∉ l):hx l b=none:=by unfold hx;rw[if_neg h]
theorem zT{h:Heap}{l:List Addr}{b:Addr}(hb:b∈l):(jm h (hx l)).get? b=none:=by
 cases q:(jm h (hx l)).get? b with
 | none=>rfl
 | some o =>
   have z:=(Eb q).2
   rw[ZL hb] at z;cases z
theorem PO{L e C:Addr}{a0:ae}{ch:List Addr}{h':Heap}(hex:X.ex=[])(I:Inv X pins σ H s)(p6:X.mg c.nm=some (.ref C))(he:e∈ch)(i5:∀b∈ch,H b=none/\X.s₀.heap.get? b=none/\b≠X.env.locals/\(∀y k,X.env.cells.lookup y=some k->k≠b)/\∀p∈X.pn++pins,p.1≠b)
 (hN:Heap.NotedW (jm s.heap (hx (cY X.stack++ch))) X.stack e (.ref C) a0 (rawInt L) s.heap h'):wy X pins σ H c (.ref e) { s with heap:=h' } (rawInt L):=by
 obtain⟨st,ff,⟨ZM,ZN,T',ZO,ZP,q1,⟨q2,ZQ⟩,q3,q4,q5,q6,q7,q8,q9⟩,up⟩:=hN
 have keep:∀b o,b ∉ cY X.stack->b ∉ ch->s.heap.get? b=some o->h'.get? b=some o:=λb o h1 h2 q=>st b o (Ea q (PN λz=>(List.mem_append.mp z).elim h1 h2))
 have slot:∀b o,b ∉ ch->s.heap.get? b=some o->∃sl,h'.get? b=some { o with slots:=sl }:=λb o h2 q=>by
  by_cases hb:b∈cY X.stack
  ·obtain⟨_,o',dm,wz⟩:=I.stack.mem hb
   rw[q] at dm;cases dm
   exact up b o q wz
  ·exact⟨o.slots,keep b o hb h2 q⟩
 have hT:H T'=none/\X.s₀.heap.get? T'=none/\T'≠X.env.locals/\(∀y k,X.env.cells.lookup y=some k->k≠T')/\∀p∈X.pn++pins,p.1≠T':=by
  cases q:s.heap.get? T' with
  | none =>
    refine⟨?_,I.gone hex q⟩
    cases z:H T' with
    | none=>rfl
    | some u =>
      obtain⟨o,eo⟩:=PK (I.aQ T' u z)
      rw[q] at eo;cases eo
  | some o =>
    have ZR:T'∈cY X.stack++ch:=by
     by_cases z:T'∈cY X.stack++ch
     ·exact z
     ·have:=Ea q (PN z)
      rw[q5] at this;cases this
    rcases List.mem_append.mp ZR with z | z
    ·exfalso
     obtain⟨_,o',dm,wz⟩:=I.stack.mem z
     rw[q] at dm;cases dm
     obtain⟨sl,e1⟩:=up T' o q wz
     rw[q7] at e1;cases e1
     exact wz _ q8
    ·exact i5 T' z
 obtain⟨f1,f2,f3,f4,f5⟩:=i5 e he
 obtain⟨g1,g2,g3,g4,g5⟩:=hT
 exact⟨Inv.PM I i5 keep slot,e,C,ZM,ZN,rfl,p6,f1,f2,f3,f4,f5,q1,q2,q3,⟨a0,ZQ⟩,T',ZO,ZP,q4,g1,g2,g3,g4,g5,q6,q7,q8,q9⟩
theorem PR{M:oI}{L:Addr}(hex:X.ex=[])(wA:X.stack=X.env::X.outer)(hf:X.env.frame=some L)(h:ui X pins σ H c x s)(hQ:∀s',wy X pins σ H c x s' (rawInt L)->Q () s'):az M X.A (Tn x X.env) Q E s:=by
 obtain⟨I,e,C,oe,vs,h1,h2,h3,h4,h5,h6,h7,h8,h9,kI,lO,CT⟩:=h
 subst h1
 obtain⟨a0,lO⟩:=lO
 have wB:X.A.frames=some (X.env::X.outer):=by rw[<-wA];exact I.ok.frames
 have nfe:∀{b:Addr} {o:Obj} {ws:Array ae},s.heap.get? b=some o->o.data = .fields ws->b ∉ cY X.stack:=λ{b o ws} q1 q2 z=>by
  obtain⟨_,o',dm,wz⟩:=I.stack.mem z
  rw[q1] at dm;cases dm
  exact wz _ q2
 have hl:∀ch:List Addr,s.heap.FunFrames (jm s.heap (hx (cY X.stack++ch))) (X.env::X.outer):=λch=>by
  have gen:∀(l:List Env),(∀b∈cY l,b∈cY X.stack)->s.heap.FunFrames X.base l->s.heap.FunFrames (jm s.heap (hx (cY X.stack++ch))) l:=by
   intro l
   induction l with
   | nil=>intro _ _;trivial
   | cons env r ih =>
     intro hs ⟨hk,⟨L',o,GX,hn,ho,hd⟩,hr⟩
     have m1:∀b∈cY r,b∈cY (env::r):=λb hb=>by unfold cY at hb ⊢;rw[wW,GX];exact bY _ hb
     have m0:L'∈cY (env::r):=by unfold cY;rw[wW,GX];exact bV
     exact⟨hk,⟨L',o,GX,zT (m7 _ (hs L' m0)),ho,hd⟩,ih (λb hb=>hs b (m1 b hb)) hr⟩
  rw[<-wA]
  exact gen X.stack (λ_ h=>h) I.stack
 have stays:∀ch:List Addr,(jm s.heap (hx (cY X.stack++ch))).StaysIn s.heap:=λch b o q=>(Eb q).1
 rcases CT with CT | ⟨T,oT,ts,k1,k2,k3,k4,k5,k6,k7,k8,k9,mU⟩
 ·have km:1<vs.size:=(Array.getElem?_eq_some_iff.mp CT).1
  unfold Tn
  simp only[hf]
  refine ay (f_ h8 kI CT ?_)
  rw[if_neg (by decide)]
  refine wpAny_entryW wB (hl [e]) hf h8 (stays [e]) (zT (by simp)) kI km lO λh' hN=>hQ _ ?_
  rw[h9,<-wA] at hN
  refine PO (ch:=[e]) hex I h2 (by simp) (λb hb=>?_) hN
  have:b=e:=by simpa using hb
  subst this
  exact⟨h3,h4,h5,h6,h7⟩
 ·have kh:∀b∈[e,T],H b=none/\X.s₀.heap.get? b=none/\b≠X.env.locals/\(∀y k,X.env.cells.lookup y=some k->k≠b)/\∀p∈X.pn++pins,p.1≠b:=λb hb=>by
   have:b=e∨b=T:=by simpa using hb
   rcases this with rfl | rfl
   ·exact⟨h3,h4,h5,h6,h7⟩
   ·exact⟨k2,k3,k4,k5,k6⟩
  rcases mU with mU | ⟨L',PS,mU⟩
  ·refine wpAny_noteFrame_onW (cls:=.ref C) (a0:=a0) wB (hl [e,T]) hf ⟨oe,vs,T,oT,ts,h8,⟨h9,lO⟩,kI,k1,zT (by simp),k7,k8,k9,mU⟩ (stays [e,T]) (zT (by simp)) λh' hN=>hQ _ ?_
   rw[<-wA] at hN
   exact PO (ch:=[e,T]) hex I h2 (by simp) kh hN
  ·rw[hf] at PS;cases PS
   refine wpAny_noteFrame_againW (base:=jm s.heap (hx (cY X.stack++[e,T]))) (cls:=.ref C) (a0:=a0) hf ⟨oe,vs,T,oT,ts,h8,⟨h9,lO⟩,kI,k1,zT (by simp),k7,k8,k9,mU⟩ (hQ s ?_)
   exact⟨I,e,C,oe,vs,rfl,h2,h3,h4,h5,h6,h7,h8,h9,kI,⟨a0,lO⟩,T,oT,ts,k1,k2,k3,k4,k5,k6,k7,k8,k9,mU⟩
theorem PT{M:oI}{A:Around}{fl:ae}{fr:Option Addr}(h:wy X pins σ H c x s fl)(hQ:∀s',wy X pins σ H c x s' (fr.elim .none λf=>rawInt f)->Q () s'):az M A (setFlight x fr) Q E s:=by
 obtain⟨I,e,C,oe,vs,h1,h2,h3,h4,h5,h6,h7,h8,h9,kI,lO,T,oT,ts,k1,k2,k3,k4,k5,k6,k7,k8,k9,mU⟩:=h
 subst h1
 have PU:3<ts.size:=(Array.getElem?_eq_some_iff.mp mU).1
 have other:∀b,b≠T->(s.heap.update T (xx (·.setIfInBounds 3 (fr.elim lU λf=>rawInt f)))).get? b=s.heap.get? b:=λb hb=>DE _ _ (eC hb)
 unfold setFlight
 refine ay (f_ h8 kI k1 ?_)
 rw[if_pos (show(gJ T != lU)=true from by simp)]
 refine sY k8 k9 PU (hQ _ ⟨Inv.PM (ch:=[T]) I (λb hb=>?_) (λb o hb hc q=>?_) (λb o hc q=>?_),e,C,oe,vs,rfl,h2,h3,h4,h5,h6,h7,(other e (eC k7)).trans h8,h9,kI,lO,T,_,_,k1,k2,k3,k4,k5,k6,k7,
  sS _ k8 (AY (oU k9 _)),oU k9 _,by simp[PU]⟩)
 ·have:b=T:=by simpa using hb
  subst this
  exact⟨k2,k3,k4,k5,k6⟩
 ·have tf:b≠T:=by simpa using hc
  exact(other b tf).trans q
 ·have tf:b≠T:=by simpa using hc
  exact⟨o.slots,(other b tf).trans q⟩
theorem ZS{L:Addr}(hex:X.ex=[])(wA:X.stack=X.env::X.outer)(hf:X.env.frame=some L):zP X:=λpins H F r e s' h=>by
 obtain⟨c,Γ',a8,H',F',e1,fl,fo,rl,Ex⟩:=h
 refine PR hex wA hf fl λs1 f1=>?_
 obtain⟨I,e',C,oe,vs,h1,h2,h3,h4,h5,h6,h7,h8,h9,kI,lO,T,oT,ts,k1,kr⟩:=id f1
 subst h1
 show az _ _ _ _ _ _
 refine ay (f_ h8 kI k1 ?_)
 rw[if_neg (show ¬((gJ T==lU)=true) from by simp)]
 rw[hf]
 exact PT f1 λs2 f2=>⟨c,Γ',a8,H',F',e1,f2.here hf,fo,rl,Ex⟩
end
theorem ZT{H:Hp}:aS [] H=H:=by funext b;unfold aS;simp
theorem PV{K:aK}{H:Hp}{N:List Str}{ds:List D}{vs:List V}(i:aC K H ds vs):Rel K H [] (gy N.length ds) (L2.start N vs):=by
 have hl:=i.length
 have key:∀(j:Nat) (en:En),(gy N.length ds)[j]? = some en->(∃d,en = .ro d/\ds[j]? = some d)∨en = .no:=λj en h=>by
  unfold gy at h
  by_cases hj:j<ds.length
  ·rw[Ay (by simpa using hj),cf,cD hj] at h
   cases h
   exact .inl ⟨_,rfl,cD hj⟩
  ·rw[Ax (by simpa using hj),RY] at h
   split at h
   ·cases h;exact .inr rfl
   ·cases h
 refine⟨?_,λj d h=>?_,λj es h=>?_,λj k es fs a h1 _ _ _=>?_⟩
 ·unfold gy L2.start
  simp[hl]
 ·rcases key j _ h with ⟨d',e,hd⟩ | e
  ·cases e
   obtain⟨v,hv,iv⟩:=i.get hd
   refine⟨v,?_,by rw[ZT];exact iv⟩
   unfold L2.start
   rw[Ay (by rw[bD];exact(List.getElem?_eq_some_iff.mp hv).1),cf,hv];rfl
  ·cases e
 ·rcases key j _ h with ⟨d',e,_⟩ | e<;>cases e
 ·rcases key j _ h1 with ⟨d',e,_⟩ | e<;>cases e
section
variable {P:bw}{w:aY}{K:aK}{mg:Str->Option ae}{base:Heap}
abbrev lP (P:bw) (w:aY) (K:aK) (mg:Str->Option ae) (base:Heap) (N:List Str) (qual:Str) (st:Stmt) (f:Addr) (b7:ae) (A:Around) (outer:List Env) (s:aq) (H:Hp) (E:XK):Cx :=
 vo (qr P w) P w K mg base N qual (bI st) f b7 A outer s H E
theorem PW{N:List Str}{qual:Str}{st:Stmt}{f:Addr}{b7:ae}{A:Around}{outer:List Env}{s s':aq}{H H':Hp}{E:XK}{pins:List (Addr×Obj)}{a8:St}{F':List Addr}{c:Er}{x:ae}
 (fl:ui (lP P w K mg base N qual st f b7 A outer s H E) pins a8 H' c x s') (hE:∀C,mg c.nm=some (.ref C)->E (.ref C) none H'):(lP P w K mg base N qual st f b7 A outer s H E).xe x s':=by
 show az _ _ (RW _ x) _ _ s'
 unfold RW
 refine ay (PR (L:=s.heap.objs.size) rfl rfl rfl fl λs1 f1=>?_)
 refine PT (fr:=none) f1 λs2 f2=>?_
 obtain⟨I,e,C,oe,vs,h1,h2,h3,h4,h5,h6,h7,h8,h9,kI,lO,T,oT,ts,k1,k2,k3,k4,k5,k6,k7,k8,k9,mU⟩:=f2
 exact⟨e,C,T,oe,oT,vs,ts,H',h1,I.os,I.bare,I.base,I.aQ,h3,h4,h8,h9,kI,lO,k1,k2,k3,k7,k8,k9,mU,hE C h2⟩
theorem CU{x qual:Str}{st:Stmt}{f:Addr}{fd:da}{N ps:List Str}{k:Nat}{φ:List D->R D}(Fu:p9 K x qual st f fd)(S:bM N ps (bI st))(hb:oY K fd ps [])(hlen:∀ds,φ ds ≠ .no->ds.length=ps.length)
 (p4:∀(b7:ae) (A:Around) (outer:List Env) (s:aq) (H:Hp) (E:XK),eZ k (lP P w K mg base N qual st f b7 A outer s H E).A->∃g,lN (lP P w K mg base N qual st f b7 A outer s H E) (p8 st) g/\∀ds,φ ds ≠ .no->fin (g (gy N.length ds))=φ ds) :
 gH P w K mg base (k+1) f fd ps φ:=by
 refine⟨?_,hb,Fu.kp⟩
 obtain⟨oc,od,kV,doc,pm,an,b7,ct,pZ,rfl,lk,fq⟩:=Fu.ex
 refine Ek lk fq S (λvs H Q E h=>?_) λA outer s H vs Q E hr fS=>?_
 ·obtain⟨ds,i,aU,_⟩:=h
  rw[<-i.length];exact hlen ds aU
 obtain⟨g,hq,hg⟩:=p4 b7 A outer s H E hr
 obtain⟨ds,i,aU,aQ,CF⟩:=fS
 have e0:=hg ds aU
 refine⟨λD' a8 H'=>D'={ nx:=λ_ H'=>Q .bS H',rt:=Q }/\a8=L2.start N vs/\H'=H,?_,rfl,rfl,rfl⟩
 intro pins s1 tp H1 D1 I hw
 obtain⟨rfl,rfl,rfl⟩:=hw
 have GY:g (gy N.length ds) ≠ .no:=λz=>aU (by rw[<-e0,z];rfl)
 refine aH (hq.run pins s1 (L2.start N vs) H1 [] (gy N.length ds) I cn.nil (PV i) GY) (λfl s' q=>?_) λx' s' q=>?_
 ·cases fl with
  | next =>
    obtain⟨Γ',e1,a8,H',F',I',_,_,Ex⟩:=q
    exact⟨a8,H',I',aQ .bS .bS H' (by rw[<-e0,e1];rfl) Ex.same (Is.y_.mpr rfl)⟩
  | ret u =>
    obtain⟨v,a8,H',F',I',rv,Ex,⟨d,e1,iv⟩ | ⟨es,a,xs,e1,ev,hn,ha,ia⟩⟩:=q
    ·exact⟨v,a8,H',I',rv,aQ d v H' (by rw[<-e0,e1];rfl) Ex.same iv⟩
    ·exact absurd (by rw[<-e0,e1];rfl) aU
  | brk=>obtain⟨Γ',e1,_⟩:=q;exact absurd (by rw[<-e0,e1];rfl) aU
  | cont=>obtain⟨Γ',e1,_⟩:=q;exact absurd (by rw[<-e0,e1];rfl) aU
 ·obtain⟨c,Γ',a8,H',F',e1,fl,fo,rl,Ex⟩:=q
  exact PW (F':=F') fl λC hC=>CF c C H' (by rw[<-e0,e1];rfl) hC Ex.same
theorem ZU{x qual:Str}{st:Stmt}{f:Addr}{fd:da}{N ps:List Str}{k:Nat}{φ:List D->R (List D)}(Fu:p9 K x qual st f fd)(S:bM N ps (bI st))(hb:oY K fd ps [])(hlen:∀ds,φ ds ≠ .no->ds.length=ps.length)
 (p4:∀(b7:ae) (A:Around) (outer:List Env) (s:aq) (H:Hp) (E:XK),eZ k (lP P w K mg base N qual st f b7 A outer s H E).A->∃g,lN (lP P w K mg base N qual st f b7 A outer s H E) (p8 st) g/\∀ds,φ ds ≠ .no->By (g (gy N.length ds))=φ ds) :
 sy P w K mg base (k+1) f fd ps φ:=by
 refine⟨?_,hb,Fu.kp⟩
 obtain⟨oc,od,kV,doc,pm,an,b7,ct,pZ,rfl,lk,fq⟩:=Fu.ex
 refine Ek lk fq S (λvs H Q E h=>?_) λA outer s H vs Q E hr fS=>?_
 ·obtain⟨ds,i,aU,_⟩:=h
  rw[<-i.length];exact hlen ds aU
 obtain⟨g,hq,hg⟩:=p4 b7 A outer s H E hr
 obtain⟨ds,i,aU,aQ,CF⟩:=fS
 have e0:=hg ds aU
 refine⟨λD' a8 H'=>D'={ nx:=λ_ H'=>Q .bS H',rt:=Q }/\a8=L2.start N vs/\H'=H,?_,rfl,rfl,rfl⟩
 intro pins s1 tp H1 D1 I hw
 obtain⟨rfl,rfl,rfl⟩:=hw
 have GY:g (gy N.length ds) ≠ .no:=λz=>aU (by rw[<-e0,z];rfl)
 refine aH (hq.run pins s1 (L2.start N vs) H1 [] (gy N.length ds) I cn.nil (PV i) GY) (λfl s' q=>?_) λx' s' q=>?_
 ·cases fl with
  | next =>
    obtain⟨Γ',e1,_⟩:=q
    exact absurd (by rw[<-e0,e1];rfl) aU
  | ret u =>
    obtain⟨v,a8,H',F',I',rv,Ex,⟨d,e1,iv⟩ | ⟨es,a,xs,e1,ev,hn,ha,ia⟩⟩:=q
    ·exact absurd (by rw[<-e0,e1];rfl) aU
    ·subst ev
     exact⟨.ref a,a8,H',I',rv,aQ es a xs H' (by rw[<-e0,e1];rfl) Ex.same (hn.elim (λz=>absurd z (by simp)) λz=>z) ha ia⟩
  | brk=>obtain⟨Γ',e1,_⟩:=q;exact absurd (by rw[<-e0,e1];rfl) aU
  | cont=>obtain⟨Γ',e1,_⟩:=q;exact absurd (by rw[<-e0,e1];rfl) aU
 ·obtain⟨c,Γ',a8,H',F',e1,fl,fo,rl,Ex⟩:=q
  exact PW (F':=F') fl λC hC=>CF c C H' (by rw[<-e0,e1];rfl) hC Ex.same
theorem fe{N:List Str}{qual:Str}{st:Stmt}{f:Addr}{b7:ae}{A:Around}{outer:List Env}{s:aq}{H:Hp}{E:XK}:zP (lP P w K mg base N qual st f b7 A outer s H E):=ZS (L:=s.heap.objs.size) rfl rfl rfl
end
section
variable {X:Cx}{e a b c:Expr}{g ga gb gc:G->R D}{pos p:Pos}
def zU:Expr->Bool
 | .Constant (.int _) _ _=>true
 | _=>false
def ZV:Expr->D
 | .Constant (.int i) _ _=>.int i
 | _=>.bS
theorem ZW{es:List Expr}(h:es.all zU=true:=by rfl):n6 X es (λ_=>.ok (es.map ZV)):=by
 induction es with
 | nil=>exact aE
 | cons e es ih =>
   have h1:zU e=true/\es.all zU=true:=by simpa using h
   have h2:=ih h1.2
   cases e with
   | Constant c j q =>
     cases c with
     | int i =>
       refine⟨λpos pins s σ H F Γ I fo rl hg=>?_⟩
       exact(ar (X:=X) (e:=.Constant (.int i) j q) aN h2 (by rfl)).run pos pins s σ H F Γ I fo rl (λz=>nomatch z)
     | _=>exact absurd h1.1 (by simp[zU])
   | _=>exact absurd h1.1 (by simp[zU])
theorem ZX{x:Str}{i:Int}{u:ae}(hm:X.mg x=some u)(hu:∃t,u = .int i t)(hg:Gl X x:=by rfl)(hd:(x==("__debug__":Str))=false:=by decide):PD X (.Name x pos) (gC (.int i)) :=
 Y7 hg hm (v:=.int i) hu (λ_=>Is.bT.mpr rfl) hd
end
theorem sy.mono{P:bw}{w:aY}{K:aK}{mg:Str->Option ae}{base:Heap}{j k:Nat}{f:Addr}{fd:da}{ps:List Str}{φ:List D->R (List D)}(F:sy P w K mg base j f fd ps φ)(h:j<=k):sy P w K mg base k f fd ps φ:=⟨F.ok.mono h,F.binds,F.kp⟩
def wC(φ:List D->R D)(K:aK):Sp:=λvs H Q _=>∃ds d,aC K H ds vs/\φ ds = .ok d/\(∀v H',aW H H'->Is K H' d v->Q v H')
theorem ZY{φ:List D->R D}{K:aK}{mg:Str->Option ae}{vs:List V}{H:Hp}{Q:VK}{E:XK}(h:wC φ K vs H Q E):CC K mg φ vs H Q E:=by
 obtain⟨ds,d,i,e,q⟩:=h
 exact⟨ds,i,(by rw[e];exact(λz=>nomatch z)),(λd' v H' e' S iv=>by rw[e] at e';cases e';exact q v H' S iv),(λc C H' e'=>by rw[e] at e';cases e')⟩
theorem gH.okN{P:bw}{w:aY}{K:aK}{mg:Str->Option ae}{base:Heap}{k:Nat}{f:Addr}{fd:da}{ps:List Str}{φ:List D->R D}(F:gH P w K mg base k f fd ps φ):jG P w K mg base (qr P w) k f fd ps (wC φ K) :=
 F.ok.imp λ_ _ _ _ h=>ZY h
theorem ZZ{c:List D->R D}(hc:∀ns:List Int,ns.length<=63->c [.lst (ns.map D.int)] = .ok (.bl true)){K:aK}{H:Hp}{a:Addr}{ns:List Int}(hl:ns.length<=63)(hS:bW K H a (ns.map V.int)):wC c K [.ref a] H (λv _=>v = .bl true) λ_ _ _=>False :=
 ⟨[.lst (ns.map D.int)],.bl true,aC.cons (Is.fb.mpr ⟨a,_,rfl,hS,aC.ints ns⟩) aC.nil,hc ns hl,λv H' _ iv=>Is.jt.mp iv⟩
theorem Z0{P:bw}{w:aY}{H:Hp}{s:aq}{e:ae}{s':aq}(h:qr P w [] H s (λ_ _ _=>False) e s'):False:=by
 obtain⟨_,_,_,_,_,_,_,_,_,_,_,_,_,_,_,_,_,_,_,_,_,_,_,_,_,_,z⟩:=h
 exact z
theorem Z1{l:a5y}{n k:Nat}{q:bw}{loose:List Str}{XP:(Str->Option ae)->Heap->Prop}{YP:aY->Heap->Prop}{d:DefRec}{K:rh->aK}{CX:aY->kS}(sp:aK->Sp){x:Str}
 (hn:l.most=some n) (Bn:n<=cq) (xS:d.params.defaults=[]) (hr:eZ k uS)
 (hY:∀(w:aY) (h:Heap),YP w h->(K w.params).In h)
 (F:∀(w:aY) (mg:Str->Option ae) (fa:Addr) (h:Heap),(K w.params).In h->h.Ns dU mg->mg d.name=some (.ref fa) ->
   ∃fd:da,(∀(s:aq) (u:ae),BindsTo s fd ⟨[u],[]⟩ [(x,u)]) /\
    ∀base:Heap,(K w.params).In base->base.Ns dU mg->jG l.prog w (K w.params) mg base (CX w) k fa fd [x] (sp (K w.params)))
 (fS:∀(K:aK) (H:Hp) (a:Addr) (ns:List Int),ns.length<=n->bW K H a (ns.map V.int)->sp K [.ref a] H (λv _=>v = .bl true) λ_ _ _=>False)
 (xU:∀(w:aY) (H:Hp) (s:aq) (e:ae) (s':aq),CX w [] H s (λ_ _ _=>False) e s'->False) :
 PySem.W.WalkO q loose XP YP l.row.toRowW d [] (λf vs=>Sd f vs) :=
 Lm (K:=K) (CX:=CX) (sp:=λw=>sp (K w.params)) hn Bn xS hr hY F (λw H a ns h1 _ h3=>fS (K w.params) H a ns h1 h3) xU
end L3
namespace L3
open PySem PySem.Spec PyProof.Rows L2
def CV(lo st:Int)(n:Nat):It:=⟨λi _=>i<n,λi H x H'=>H'=H/\x = .int (lo+st*(i:Int)),λi _=>n<=i⟩
theorem Z2{P:bw}{w:aY}{K:aK}{tg:Expr}(it:Addr)(lo st:Int)(n:Nat):Turn P w K tg (CV lo st n) [it] it (λi h=>Jj h it (lo+(i:Nat)*st) ((n:Int)-(i:Nat)) st) where
 mem:=by simp
 obj:=λi h st b hb=>by
  have e:b=it:=by simpa using hb
  subst e
  exact⟨_,st,λv z=>by
   have z':Data.fields _=Data.cell v:=z
   cases z'⟩
 keep:=λi h h' st k=>k it (by simp) _ st
 item:=by
  intro X hP hw hK hc i pins s σ H E I hf sx hg
  subst hP hw hK
  obtain⟨f0,f1,f2,f3,f4,f5⟩:=hf it (by simp)
  have W:=Walks.range (prog:=X.prog) (w:=X.w) (I.ok.hd hc) it lo st n
  refine W.item i s _ _ hg sx λv h' tk hv kR kk=>?_
  obtain⟨t,rfl⟩:=hv
  have I1:Inv X pins σ H { s with heap:=h',toks:=tk }:=I.turned (λb o hb e=>kk b o (by simpa using hb) e) f0 f1 f3 f4 f5
  refine⟨_,rfl,Bf (s:={ s with heap:=h',toks:=tk }) (n:="range_iterator") kR rfl rfl (by decide) ⟨.int (lo+st*i),H,I1,⟨t,?_⟩,⟨rfl,rfl⟩,kR,λb hb=>(hf b hb).1⟩⟩
  rw[iH]
 done:=by
  intro X hP hw hK hc i pins s σ H E I hf sx hg
  subst hP hw hK
  obtain⟨f0,f1,f2,f3,f4,f5⟩:=hf it (by simp)
  exact a5i (I.ok.hd hc) sx (by have:n<=i:=hg;lia) λh' eb=>⟨rfl,I.turned (t':=s.toks) (λb o hb e=>eb b o hb e) f0 f1 f3 f4 f5⟩
 self:=λ_ _ _ _ _ st h=>a5j st h
theorem CW{a b c:Int}(hc:0<c):Av a b c=((ku a b c:Nat):Int):=by
 unfold Av ku
 rw[if_pos hc]
 by_cases h:a<b
 ·rw[if_pos h,show b-a+c-1=(b-a-1)+c*1 by lia,Int.add_mul_ediv_left _ _ (by lia)]
  have:0<=(b-a-1)/c:=a6h (by lia) (by lia)
  lia
 ·rw[if_neg h]
  have h1:(b-a+c-1)/c<=0:=by
   have:(b-a+c-1)/c<=(c-1)/c:=Int.ediv_le_ediv hc (by lia)
   have h2:(c-1)/c=0:=a7i (by lia) (by lia)
   lia
  lia
theorem Z3{a b c:Int}(hc:0<c)(h:a<=b):((ku a b c:Nat):Int)<=b-a:=by
 rw[<-CW hc]
 unfold Av
 rw[if_pos hc]
 by_cases h:a<b
 ·rw[if_pos h]
  have:=a6i (a:=b-a-1) c (by lia)
  lia
 ·rw[if_neg h];lia
theorem Z4{a b c:Int}(ha:-1073741824<=a)(BB:a<1073741824)(hb:-1073741824<=b)(yi:b<1073741824)(hc:0<c)(tf:c<1073741824):a7j a b c=true:=by
 unfold a7j
 have hs:((ku a b c:Nat):Int)<=4294967296:=by
  by_cases h:a<=b
  ·have:=Z3 hc h;lia
  ·rw[<-CW hc]
   unfold Av
   rw[if_pos hc,if_neg (by lia)];lia
 rw[CW hc]
 generalize ku a b c=n at *
 simp only[Builtin.Range.rangeFitsLong,gN,DU,decide_eq_true_eq,beq_iff_eq,if_pos (show c>0 from hc)]
 lia
section
variable {X:Cx}{tg a b c:Expr}{ga gb gc:G->R D}
theorem Z5{pins:List (Addr×Obj)}{σ:St}{H:Hp}{s:aq}{R:It->Hp->Prop}{E:ae->aq->Prop}{lo hi st:Int}{t u v:Tok}{tk:Nat}(I:Inv X pins σ H s)(h1:-1073741824<=lo)(h2:lo<1073741824)(h3:-1073741824<=hi)(h4:hi<1073741824)(h5:0<st)(h6:st<1073741824)
 (q:R (CV lo st (ku lo hi st)) H):az (aJ X.prog X.w) X.A (sR (.ref s.heap.objs.size)) (Ef X pins σ tg R) E { s with heap:=s.heap.push { cls:=.type "range",data:=.fields #[.int lo t,.int hi u,.int st v] },toks:=tk }:=by
 refine a5k (IsRange.new ..) (Z4 h1 h2 h3 h4 h5 h6) ?_
 have I1:Inv X pins σ H { s with heap:=s.heap.push { cls:=.type "range",data:=.fields #[.int lo t,.int hi u,.int st v] },toks:=tk }:=I.kept λb o e=>bB _ e
 refine⟨(s.heap.push { cls:=.type "range",data:=.fields #[.int lo t,.int hi u,.int st v] }).objs.size,[(s.heap.push { cls:=.type "range",data:=.fields #[.int lo t,.int hi u,.int st v] }).objs.size],_,_,H,rfl,
  I1.kept (t':=tk) λb o e=>bB _ e,Z2 _ lo st (ku lo hi st),?_,λb hb=>?_,q⟩
 ·have e1:lo+((0:Nat):Int)*st=lo:=by simp
  have e2:((ku lo hi st:Nat):Int)-((0:Nat):Int)=Av lo hi st:=by rw[CW h5];lia
  show Jj _ _ (lo+((0:Nat):Int)*st) (((ku lo hi st:Nat):Int)-((0:Nat):Int)) st
  rw[e1,e2]
  exact c_ _ rfl
 ·have e:b=(s.heap.push { cls:=.type "range",data:=.fields #[.int lo t,.int hi u,.int st v] }).objs.size:=by simpa using hb
  subst e
  exact I1.tq (bA _) (I1.aQ.fresh (bA _))
theorem Z6(lo st:Int)(n:Nat):(kZ lo st n).length=n:=by unfold kZ;simp
theorem Z7{K:aK}{H:Hp}{F:List Addr}(lo st:Int)(n:Nat):JD K H F (CV lo st n) (kZ lo st n):=λH1 S=>by
 rw[Z6]
 refine⟨λj hj=>⟨hj,λx H2 y=>⟨y.1,.int (lo+st*(j:Int)),by unfold kZ;simp[hj],λF' _=>?_⟩⟩,bA _⟩
 exact Is.bT.mpr y.2
theorem Z8{p pos:Pos}(ha:PD X a ga)(hb:PD X b gb)(hc:PD X c gc)(hm:X.mg "range"=none)(hg:Gl X "range":=by rfl)(hs:bR [a,b,c] X.env=[(false,eval a X.env),(false,eval b X.env),(false,eval c X.env)]:=by rfl)(oi:bR [b,c] X.env=[(false,eval b X.env),(false,eval c X.env)]:=by rfl) :
 wj X tg (.Call (.Name "range" p) [a,b,c] [] pos) (EJ ga gb gc):=by
 refine⟨λpins s σ H F Γ I fo rl cM=>?_⟩
 refine DT (nB I hg hm S8 (u_ ?_ (by rw[hs,oi]) (by rw[oi];rfl)))
 rw[hs]
 show az _ _ (h_ ((false,eval a X.env)::de pos [(false,eval b X.env),(false,eval c X.env)])) _ _ s
 refine jk (aH (ha.run pins s σ H F Γ I fo rl (R.left cM)) (λu s1 ⟨d,v,H1,e1,I1,r1,S1,i1⟩=>?_) λ_ _ x=>x.bind _)
 have a9:=R.next cM e1
 show az _ _ (h_ ((false,eval b X.env)::de pos [(false,eval c X.env)])) _ _ s1
 refine jk (aH (hb.run pins s1 σ H1 F Γ I1 (fo.same S1) (rl.same S1) (R.left a9)) (λu2 s2 ⟨d2,v2,H2,e2,I2,r2,S2,i2⟩=>?_) λ_ _ x=>cb.later e1 S1 (x.bind _))
 have dg:=R.next a9 e2
 show az _ _ (h_ ((false,eval c X.env)::de pos [])) _ _ s2
 refine jk (aH (hc.run pins s2 σ H2 F Γ I2 ((fo.same S1).same S2) ((rl.same S1).same S2) (R.left dg)) (λu3 s3 ⟨d3,v3,H3,e3,I3,r3,S3,i3⟩=>l9 ?_) λ_ _ x=>cb.later e1 S1 (cb.later e2 S2 (x.bind _)))
 have oF:=R.next dg e3
 cases d with
 | int i =>
   cases d2 with
   | int j =>
     cases d3 with
     | int k =>
       obtain⟨⟨⟨h1,h2⟩,⟨h3,h4⟩,h5,h6⟩,e4⟩:=R.dz (show R.guard ((-1073741824<=i/\i<1073741824)/\(-1073741824<=j/\j<1073741824)/\0<k/\k<1073741824) (.ok (kZ i k (ku i j k))) ≠ .no from oF)
       rw[Is.bT.mp i1] at r1
       rw[Is.bT.mp i2] at r2
       rw[Is.bT.mp i3] at r3
       obtain⟨t,rfl⟩:=(show ∃t,u=kM i t from r1)
       obtain⟨t',rfl⟩:=(show ∃t,u2=kM j t from r2)
       obtain⟨t'',rfl⟩:=(show ∃t,u3=kM k t from r3)
       refine call_range_3 (by lia) (fm (Z5 (tg:=tg) (R:=λJ H'=>J=CV i k (ku i j k)/\H'=H3) I3 h1 h2 h3 h4 h5 h6 ⟨rfl,rfl⟩) λki s4 ⟨it,fp,tn,J,H',ei,I4,T,t0,fk,eJ,eH⟩=>?_) (.inl (a5m (by lia)))
       subst eJ eH
       exact⟨_,it,fp,tn,_,H',(R.step e1 _).trans ((R.step e2 _).trans ((R.step e3 _).trans e4)),ei,I4,(S1.trans S2).trans S3,T,t0,fk,Z7 i k _⟩
     | _=>exact absurd rfl oF
   | _=>exact absurd rfl oF
 | _=>exact absurd rfl oF
end
section
variable {prog:bw}{w:aY}{A:Around}{E:ae->aq->Prop}{s:aq}
open HT in
theorem Z9{t sl:Addr}{items:Array ae}{vl vu:ae}{lo hi:Option Int}{Q:ae->aq->Prop}(ht:qX s.heap t items)(hs:s.heap.IsSliceOf sl vl vu .none)(pl:q_ vl lo)(pu:q_ vu hi)
 (hw:HT.bC items.size 0 lo=0/\HT.bC items.size items.size hi=items.size) (h:Q (.ref t) s):az (aJ prog w) A (wY (.ref t) (.ref sl)) Q E s:=by
 obtain⟨os,tx,tB,xQ⟩:=id hs
 have rQ:s.TypeIs (.ref sl) "slice":=⟨os,tx,tB⟩
 unfold wY
 try with_reducible refine oK ?_
 first | refine ay (aP ?_) | skip
 refine ay (a5s ht.typeIs (by decide) ?_)
 refine ay (oM (name:=bt "__getitem__") ht.typeIs Jq
  (j_ Jq ht.typeIs a5t ?_ (a5u _ _)))
 show az _ _ (a5v (.ref t)>>=_) _ _ s
 refine ay (tupleItemsOf_ ht ?_)
 refine ay (DD rQ ?_)
 rw[if_pos (by decide)]
 refine ay (K6 hs pl pu ?_)
 have Z_:(((HT.bC items.size 0 lo:Nat):Int)==0&&(1:Int)==1&&(HT.bC items.size items.size hi-HT.bC items.size 0 lo)==items.size)=true:=by
  rw[hw.1,hw.2];simp
 show az _ _ (if (((HT.bC items.size 0 lo:Nat):Int)==0&&(1:Int)==1&&(HT.bC items.size items.size hi-HT.bC items.size 0 lo)==items.size)=true then _ else _) _ _ s
 rw[if_pos Z_]
 unfold Builtin.Tuple.tupleIsExact
 refine ay (ay (DD ht.typeIs ?_))
 refine aP ?_
 rw[if_pos (by decide)]
 exact ay (vc (aP ⟨_,rfl,aP h⟩))
end
section
variable {X:Cx}{e a b c:Expr}{g ga gb gc:G->R D}{lo hi:Option Expr}{gl gh:G->R (Option Int)}{pos p2:Pos}
def a0a(K:aK):V->Option Int->Option Int->Hp->VK->Prop:=λx lo hi H Q=>∃a xs,x = .ref a/\cE K H a xs/\(HT.bC xs.length 0 lo=0/\HT.bC xs.length xs.length hi=xs.length)/\Q (.ref a) H
theorem w2l:oZ X (a0a X.K):=by
 intro pins s σ H x v vl vu lo hi sl Q I rx hs pl pu h
 obtain⟨a,xs,rfl,hx,hw,q⟩:=h
 cases rx
 obtain⟨its,r,ht,hz⟩:=I.tuple hx
 have hlen:its.toArray.size=xs.length:=by rw[dj];exact r.length.symm
 refine⟨"tuple",_,PyProof.Rows.slot_tuple_getitem.lookup,ht.typeIs,?_⟩
 exact Z9 ht hs pl pu (by rw[hlen];exact hw) ⟨.ref a,H,I,rfl,q⟩
structure wD (X:Cx) (e:Option Expr) (g:G->R (Option Int)):Prop where
 run:∀(pins:List (Addr×Obj)) (s:aq) (σ:St) (H:Hp) (F:List Addr) (Γ:G),Inv X pins σ H s->cn H F->Rel X.K H F Γ σ->g Γ ≠ .no ->
  az (aJ X.prog X.w) X.A (evalPart e X.env) (λu s'=>∃o H',g Γ = .ok o/\Inv X pins σ H' s'/\q_ u o/\aW H H') (cb X pins σ H (g Γ)) s
theorem pN:wD X none kX:=⟨λpins s σ H F Γ I fo rl hg=>by
 rw[evalPart_none]
 exact aP ⟨none,H,rfl,I,.none,.refl _⟩⟩
theorem mV(h:PD X e g):wD X (some e) (jL g):=⟨λpins s σ H F Γ I fo rl hg=>by
 rw[evalPart_some]
 refine aH (h.run pins s σ H F Γ I fo rl (R.left hg)) (λu s1 ⟨d,x,H1,e1,I1,r1,S1,i1⟩=>?_) λ_ _ x=>x.bind _
 have a9:=R.next hg e1
 cases d with
 | int i =>
   rw[Is.bT.mp i1] at r1
   obtain⟨t,rfl⟩:=(show ∃t,u=kM i t from r1)
   exact⟨some i,H1,R.step e1 _,I1,.int i t,S1⟩
 | _=>exact absurd rfl a9⟩
theorem aC.cut{K:aK}{H:Hp}{ds:List D}{xs:List V}(h:aC K H ds xs)(lo hi:Option Int):aC K H (iM ds lo hi) (nG xs lo hi):=by
 have hl:=h.length
 unfold iM nG
 rw[hl]
 exact(h.drop _).take _
theorem w5g{r:V->Option Int->Option Int->Hp->VK->Prop}(hr:oZ X.bZ r)(ha:PD X a ga)(hl:wD X lo gl)(hh:wD X hi gh){pins:List (Addr×Obj)}{s:aq}{σ:St}{H:Hp}{F:List Addr}{Γ:G}(I:Inv X pins σ H s)(fo:cn H F)(rl:Rel X.K H F Γ σ)
 {α:Type} {rr:R α} {k:D->Option Int->Option Int->R α} (mJ:rr=(ga Γ>>=λd=>gl Γ>>=λl=>gh Γ>>=λh=>k d l h)) (hg:rr ≠ .no) {Q:ae->aq->Prop}
 (hq:∀d x l h H3,k d l h ≠ .no->rr=k d l h->aW H H3->Is X.K H3 d x->cn H3 F->Rel X.K H3 F Γ σ->r x l h H3 λz H'=>∀u s',Inv X pins σ H' s'->RelV z u->Q u s') :
 az (aJ X.prog X.w) X.A (eval (.Subscript a (.Slice lo hi none p2) pos) X.env) Q (cb X pins σ H rr) s:=by
 subst mJ
 refine S4 (aH (ha.run pins s σ H F Γ I fo rl (R.left hg)) (λv s1 ⟨d,x,H1,e1,I1,r1,S1,i1⟩=>?_) λ_ _ x=>x.bind _)
 have a9:=R.next hg e1
 refine wpAny_Slice (aH (hl.run pins s1 σ H1 F Γ I1 (fo.same S1) (rl.same S1) (R.left a9)) (λvl s2 ⟨l,H2,e2,I2,pl,S2⟩=>?_) λ_ _ x=>cb.later e1 S1 (x.bind _))
 have dg:=R.next a9 e2
 refine aH (hh.run pins s2 σ H2 F Γ I2 ((fo.same S1).same S2) ((rl.same S1).same S2) (R.left dg)) (λvu s3 ⟨h,H3,e3,I3,pu,S3⟩=>?_) λ_ _ x=>cb.later e1 S1 (cb.later e2 S2 (x.bind _))
 have oF:=R.next dg e3
 have GZ:=(S1.trans S2).trans S3
 rw[evalPart_none]
 refine aP ?_
 have I4:Inv X pins σ H3 { s3 with heap:=s3.heap.push { cls:=.type "slice",data:=.fields #[vl,vu,.none] } }:=I3.kept (t':=s3.toks) λb ob q=>bB _ q
 obtain⟨T,id,hT,ht,hgi⟩:=hr pins { s3 with heap:=s3.heap.push { cls:=.type "slice",data:=.fields #[vl,vu,.none] } } σ H3 x v vl vu l h s3.heap.objs.size _ (I4.dw _) r1 (Heap.IsSliceOf.new ..) pl pu (hq d x l h H3 oF ((R.step e1 _).trans ((R.step e2 _).trans (R.step e3 _))) GZ ((i1.same S2).same S3) (fo.same GZ) (rl.same GZ))
 show az (aJ X.prog X.w) X.A (subscriptTail a (.Slice lo hi none p2) v (.ref s3.heap.objs.size)) _ _ { s3 with heap:=s3.heap.push { cls:=.type "slice",data:=.fields #[vl,vu,.none] } }
 refine tail_any (ops:=[.ref s3.heap.objs.size,v]) ht hT (aH hgi (λu s5 ⟨z,H5,I5,rz,q5⟩=>q5 u s5 I5.fJ rz) λ_ _ z=>di z) (by with_unfolding_all rfl)
theorem oG(ha:PD X a ga)(hl:wD X lo gl)(hh:wD X hi gh):PD X (.Subscript a (.Slice lo hi none p2) pos) (kq ga gl gh):=⟨λpins s σ H F Γ I fo rl hg =>
 w5g (oZ.or (oZ.or UZ w2l) Va) ha hl hh I fo rl (k:=Bt) rfl hg λd x l h H3 hk er S i wt wu=>by
  cases d with
  | tup ds =>
    obtain⟨p,xs,rfl,h1,h2⟩:=Is.eQ.mp i
    by_cases hw:HT.bC xs.length 0 l=0/\HT.bC xs.length xs.length h=xs.length
    ·refine .inl (.inr ⟨p,xs,rfl,h1,hw,λu s' I' rz=>⟨_,.ref p,H3,er,I',rz,S,Is.eQ.mpr ⟨p,xs,rfl,h1,?_⟩⟩⟩)
     have:=h2.cut l h
     unfold nG at this
     rw[hw.1,hw.2,w_,DG,xc] at this
     exact this
    ·refine .inl (.inl ⟨p,xs,rfl,h1,hw,λq hq u s' I' rz=>?_⟩)
     have S2:=iA hq (.tup (nG xs l h))
     exact⟨_,.ref q,_,er,I',rz,S.trans S2,Is.eQ.mpr ⟨q,_,rfl,cE.of dq,(h2.cut l h).same S2⟩⟩
  | lst ds =>
    obtain⟨p,xs,rfl,h1,h2⟩:=Is.fb.mp i
    refine .inr ⟨p,xs,rfl,h1,λq hq u s' I' rz=>?_⟩
    have S2:=iA hq (.lst (nG xs l h))
    exact⟨_,.ref q,_,er,I',rz,S.trans S2,Is.fb.mpr ⟨q,_,rfl,bW.of dq,(h2.cut l h).same S2⟩⟩
  | _=>exact absurd rfl hk⟩
end
end L3
namespace L3
open PySem PySem.Spec PyProof.Rows L2
section
variable {prog:bw}{w:aY}{A:Around}{E:ae->aq->Prop}{s:aq}
end
section
variable {X:Cx}{e:Expr}{g:G->R D}{pos pt:Pos}
end
def G0:List ae:=[.type "ValueError",.type "Exception",.type "BaseException",.type "object"]
def w6y(h:Heap)(C:Addr):Prop:=∃bm N nm q bs hdct sn sub ab col dd k0 k1 k2 k3 k5 mN,h.get? C=some (excClassObj nm q C N bs bm hdct sn sub ab col dd k0 k1 k2 k3 k5 "ValueError.__new__")/\h.Ns N mN/\mN "__init__"=none/\OwnTail h G0 bm
theorem x7h{K:aK}{h:Heap}{C:Addr}(X:K.In h)(q:To K C G0 "ValueError.__new__"=true):w6y h C:=by
 unfold To at q
 cases e:K.lookup C with
 | none=>rw[e] at q;cases q
 | some o =>
   rw[e] at q
   obtain⟨cls,dd,data,sl⟩:=o
   split at q
   ·rename_i heq
    obtain⟨rfl,rfl,rfl,rfl⟩:cls=_/\dd=_/\data=_/\sl=_:=by
     have z:=iZ heq
     injection z with z1 z2 z3 z4
     exact⟨z1,z2,z3,z4⟩
    split at q
    ·rename_i hm hs
     rename_i cd xa xb C' bm k0 k1 k2 k3 n k5
     simp only[gN,beq_iff_eq,Bool.not_eq_true'] at q
     obtain⟨⟨⟨⟨⟨q1,q2⟩,q3⟩,q4⟩,q5⟩,q6⟩:=q
     obtain⟨nm,bs,mro,ns,qn,hd,sn,sub,ab,col,del⟩:=cd
     subst q1 q2
     have h1:mro = .ref C'::bm:=hm
     have h2:del=false:=q3
     subst h1 h2
     have h3:sl=#[k0,k1,k2,k3,some (.builtin "ValueError.__new__"),k5]:=by
      cases sl with | mk l=>exact congrArg Array.mk hs
     subst h3
     exact⟨bm,ns,nm,qn,bs,hd,sn,sub,ab,col,dd,k0,k1,k2,k3,k5,_,X _ _ e,.of_isNs (PySem.W.isNs_of_in X q5),PySem.W.nsMap_none_of_in X q5 q6,PySem.W.tail_of_in X q4⟩
    ·cases q
   ·cases q
structure zV (K:aK) (mg:Str->Option ae) (c:Er) (C:Addr):Prop where
 ns:nj K dU c.nm=some (some (.ref C))
 mg:mg c.nm=some (.ref C)
 ex:To K C G0 "ValueError.__new__"=true
section
variable {X:Cx}{e:Expr}{g:G->R D}{pos np eF:Pos}
theorem w7y{pins:List (Addr×Obj)}{σ:St}{H:Hp}{s:aq}{q:Addr}(I:Inv X pins σ H s)(hq:s.heap.get? q=none):H q=none:=by
 cases e:H q with
 | none=>rfl
 | some o=>obtain⟨ob,h⟩:=PK (I.aQ q o e);rw[hq] at h;cases h
theorem PX{c:Er}{C:Addr}{x:Str}{d:D}(hX:zV X.K X.mg c C)(he:PD X e (gC d))(hc:X.calm=true)(hex:X.ex=[]:=by rfl)(hxn:x=c.nm:=by rfl)(hg:Gl X x:=by rfl)(jW:(x==("__debug__":Str))=false:=by decide)
 (hs:bR [e] X.env=(false,eval e X.env)::bR [] X.env:=by rfl):PQ X (.Raise (some (.Call (.Name x np) [e] [] eF)) none pos) (Bw c):=by
 refine⟨λpins s σ H F Γ I fo rl _=>?_⟩
 subst hxn
 obtain⟨bm,N,nm,q,bs,hdct,sn,sub,ab,col,dd,k0,k1,k2,k3,k5,mN,hC,hN,hni,T⟩:=x7h I.mod.s_ hX.ex
 refine wpAny_Raise_call_subT (C:=C) (nm:=nm) (q:=q) (N:=N) (bs:=bs) (bm:=bm) (hdct:=hdct) (sn:=sn) (sub:=sub) (ab:=ab) (col:=col) (dd:=dd) (k0:=k0) (k1:=k1) (k2:=k2) (k3:=k3) (k5:=k5)
  PySem.F.excBase_ValueError (mN:=mN) (T.hasType PySem.F.excBase_ValueError.hasBase) (I.ok.hd hc) (by rw[hs];rfl) hni (vm I hg hX.mg ⟨rfl,?_⟩ jW)
 rw[hs]
 refine JT (jk (aH (he.run pins s σ H F Γ I fo rl (λz=>nomatch z)) (λu s1 ⟨d',v,H1,e1,I1,r1,S1,i1⟩=>l9 ?_) λx s1 ⟨c',H',e',_⟩=>by cases e'))
 refine⟨rfl,by show 1<=cq;decide,I1.bk _ _ hC,hN.keeps I1.bk,T.keeps I1.bk,λh' en M=>?_⟩
 obtain⟨t,hte,PY,B3⟩:=M.there
 have I2:Inv X pins σ H1 { s1 with heap:=h' }:=I1.kept (t':=s1.toks) λb o q=>M.keeps b o q
 obtain⟨g1,g2,g3,g4⟩:=I1.gone hex M.new
 exact⟨c,Γ,σ,H1,F,rfl,⟨I2,en,C,_,_,rfl,hX.mg,w7y I1 M.new,g1,g2,g3,g4,hte,rfl,rfl,⟨_,rfl⟩,.inl rfl⟩,fo.same S1,rl.same S1,.of_same S1⟩
end
section
variable {K:aK}{M:oI}{A:Around}{E:ae->aq->Prop}{s:aq}
end
structure CY (K:aK) (C:Addr):Prop where
 ga:uN K (.ref C) "__getattribute__"=some (some (.builtin "BaseException.__getattribute__"))
 gn:uN K (.ref C) "__getattr__"=some none
 cl:uN K (.ref C) "__class__"=some (some (.builtin "object.__class__"))
 mo:Jl K C (.type "object")=some true
 mb:Jl K C (.type "BaseException")=some true
 ty:PySem.W.typeIn K (.ref C)=some (.type "type")
 is:(PySem.W.clsIn K C).isSome=true
section
variable {K:aK}{prog:bw}{w:aY}{A:Around}{E:ae->aq->Prop}{s:aq}{a C:Addr}{o:Obj}
end
section
variable {X:Cx}{pos p pn:Pos}
structure PCl (X:Cx) (es:List Expr) (vs:List ae):Prop where
 run:∀{E:ae->aq->Prop} {pos:Pos} {pins:List (Addr×Obj)} {σ:St} {H:Hp} {s:aq} {Q:List ae->aq->Prop},Inv X pins σ H s->Q vs s->az (aJ X.prog X.w) X.A (h_ (de pos (bR es X.env))) Q E s
def mk(X:Cx)(v:ae):Cx:={ X with A:=X.A.mark (some v),calm:=false }
end
section
variable {X:Cx}{pos np PZ:Pos}
structure a9u (X:Cx) (B:Addr):Prop where
 cl:CY X.K B
 ns:∀(c:Er) (C:Addr),X.mg c.nm=some (.ref C)->nj X.K dU c.nm=some (some (.ref C))/\Jl X.K C (.ref B)=some true
end
section
variable {X:Cx}{pos p pn:Pos}
end
section
variable {X:Cx}{e a b c:Expr}{g ga gb gc:G->R D}{pos pos':Pos}{es:List Expr}{gs:G->R (List D)}
end
section
variable {P:bw}{w:aY}{K:aK}{mg:Str->Option ae}{base:Heap}
theorem P0{x qual:Str}{st:Stmt}{f:Addr}{fd:da}{N ps:List Str}{k:Nat}(Fu:p9 K x qual st f fd)(S:bM N ps (bI st))(hb:oY K fd ps []):gH P w K mg base (k+1) f fd ps (λ_=>.no):=by
 refine⟨?_,hb,Fu.kp⟩
 obtain⟨oc,od,kV,doc,pm,an,b7,ct,pZ,rfl,lk,fq⟩:=Fu.ex
 exact Ek lk fq S (λvs H Q E h=>absurd rfl h.choose_spec.2.1) λA outer s H vs Q E hr fS=>absurd rfl fS.choose_spec.2.1
end
section
variable {X:Cx}{e a b c:Expr}{g ga gb gc:G->R D}{pos pos' p p2:Pos}{es:List Expr}{gs:G->R (List D)}{lo hi:Option Expr}{gl gh:G->R (Option Int)}
def w7i(K:aK):R2:=λx y H Q=>∃l b xs zs,x = .ref l/\y = .ref b/\bW K H l xs/\bW K H b zs/\xs.length+zs.length<=cq/\∀p,H p=none->Q (.ref p) (upd H p (.lst (xs++zs)))
theorem w3m:eE X (hJ .Add) (w7i X.K):=by
 intro pins s σ H x y v u Q I rx ry h
 obtain⟨l,b,xs,zs,rfl,rfl,hH,hB,hz,q⟩:=h
 cases rx
 cases ry
 obtain⟨i1,r1,pl1,_⟩:=I.list hH
 obtain⟨i2,r2,pl2,_⟩:=I.list hB
 have n1:=r1.length
 have n2:=r2.length
 obtain⟨⟨c1,d1,t1,s1⟩,o1,k1,m1,j1⟩:=pl1.isList
 obtain⟨⟨c2,d2,t2,s2⟩,o2,k2,m2,j2⟩:=pl2.isList
 simp only at k1 j1 k2 j2
 subst k1 j1 k2 j2
 refine Jo ⟨_,o1,rfl⟩ ⟨_,o2,rfl⟩ noFill_list_add seq_list_add PySem.F.slot_list_add PySem.F.entry_list_add (PySem.F.args_list_add_2 _ _) (list_addW l b i1.toArray i2.toArray m1 m2 d1 d2 s1 s2 (by simp only[dj];lia)) ⟨o1,o2,?_⟩
 have ea:i1.toArray++i2.toArray=(i1++i2).toArray:=by simp
 rw[ea]
 exact⟨.ref _,_,I.Lg (t':=s.toks) (r1.append r2) (by rw[hU];lia),rfl,q _ I.fresh⟩
theorem G1(ha:PD X a ga)(hb:PD X b gb):PF X (.BinOp a .Add b pos) (ya ga gb):=by
 refine⟨λpins s σ H F Γ I fo rl hg=>?_⟩
 refine SR (aH (ha.run pins s σ H F Γ I fo rl (R.left hg)) (λv s1 ⟨dx,x,H1,e1,I1,r1,S1,i1⟩=>?_) λ_ _ x=>x.bind _)
 have a9:=R.next hg e1
 refine aH (hb.run pins s1 σ H1 F Γ I1 (fo.same S1) (rl.same S1) (R.left a9)) (λu s2 ⟨dy,y,H2,e2,I2,r2,S2,i2⟩=>?_) λ_ _ x=>cb.later e1 S1 (x.bind _)
 have eU:=R.next a9 e2
 have qq:=i1.same S2
 have key:∀xs ys,dx = .lst xs->dy = .lst ys->∃zx zy,x = .ref zx/\y = .ref zy/\∃vx vy,bW X.K H2 zx vx/\bW X.K H2 zy vy/\aC X.K H2 xs vx/\aC X.K H2 ys vy:=λxs ys q1 q2=>by
  subst q1 q2
  obtain⟨zx,vx,rfl,a1,a2⟩:=Is.fb.mp qq
  obtain⟨zy,vy,rfl,b1,b2⟩:=Is.fb.mp i2
  exact⟨zx,zy,rfl,rfl,vx,vy,a1,b1,a2,b2⟩
 have both:∃xs ys,dx = .lst xs/\dy = .lst ys:=by
  cases dx with
  | lst xs =>
    cases dy with
    | lst ys=>exact⟨xs,ys,rfl,rfl⟩
    | _=>exact absurd rfl eU
  | _=>cases dy<;>exact absurd rfl eU
 obtain⟨xs,ys,rfl,rfl⟩:=both
 obtain⟨zx,zy,rfl,rfl,vx,vy,a1,b1,a2,b2⟩:=key xs ys rfl rfl
 obtain⟨⟨hc,hn⟩,e3⟩:=R.dz (show R.guard (xs.length+ys.length<=1000/\D.bQ (xs++ys)=true) (.ok (xs++ys)) ≠ .no from eU)
 have hz:vx.length+vy.length<=cq:=by rw[<-a2.length,<-b2.length];exact uk hc
 refine aH (w3m (X:=X.bZ) pins s2 σ H2 (.ref zx) (.ref zy) _ _ (λz H'=>∃l,z = .ref l/\H2 l=none/\H'=upd H2 l (.lst (vx++vy))) (I2.dw _) r1 r2 ⟨zx,zy,vx,vy,rfl,rfl,a1,b1,hz,λl hl=>⟨l,rfl,hl,rfl⟩⟩) (λu s' ⟨z,H',I',rz,l,ez,hl,eH⟩=>?_) λ_ _ z=>di z
 subst ez eH
 have S3:=iA hl (.lst (vx++vy))
 exact⟨xs++ys,l,vx++vy,_,(R.step e1 _).trans ((R.step e2 _).trans e3),I'.fJ,rz,(S1.trans S2).trans S3,S1.free (S2.free hl),dq,aC.aS ((((fo.same S1).same S2).same S3).cons dq) _ _ hn ((a2.append b2).same S3)⟩
end
section
variable {X:Cx}{e a b c:Expr}{g ga gb gc:G->R D}{lo:Option Expr}{gl:G->R (Option Int)}{pos p2 p3:Pos}
end
section
variable {X:Cx}
theorem w3o:fX X (hJ .Mult) y4v:=zc (C:=yd) (d:=λi j=>.int (i*j)) (λ_ _ _ _=>Is.bT.mpr rfl) (v:=λi j=>.int (i*j)) (vn λ_ _ _ _ _ _ _ hc q=>mul_int q (by
 have key:∀{k:Int},k.natAbs<yc->JU k<=4000:=λ{k} h=>PyProof.Rows.intBits_le (b_ h (by unfold yc;decide +kernel))
 exact PyProof.Rows.mulOk_of_bits (key hc.1) (key hc.2) (by decide)))
theorem x9k(hc:X.calm=true):jo X (.builtin "max") (λxs H Q=>∃(a:Addr) (ns:List Int),xs=[.ref a]/\ns≠[]/\bW X.K H a (ns.map V.int)/\Q (.int (kv ns)) H):=by
 intro pins s σ H xs us Q I r h
 obtain⟨a,ns,rfl,aU,hq,q⟩:=h
 obtain⟨u,rfl,ru⟩:=rP r
 cases ru
 obtain⟨its,rv,pl,_⟩:=I.list hq
 have hi:ka its ns:=intsAre_of rv
 obtain⟨ys,hy⟩:=hi.allInts.items
 have hl:=pl.isList
 rw[hy] at hl
 have hn:numsOf its.toArray.toList=ns:=by rw[show its.toArray.toList=its from rfl,hi.numsOf]
 rw[hy,nums_intItems] at hn
 have hlen:ys.size=ns.length:=by rw[<-hn,bD,jg]
 have PZ:0<ys.size:=by rw[hlen];exact List.length_pos_iff.mpr aU
 refine max_intList (I.ok.hd hc) hl PZ λv h' tk hv hk=>?_
 obtain⟨t,rfl⟩:=intItems_at hv
 obtain⟨h1,h2⟩:=argBest_gt (JV ys) (ys.size-1)
 have em:JV ys (argBest (λi j=>decide (JV ys i>JV ys j)) (ys.size-1))=kv ns:=by
  refine LR ?_ λb hb=>?_
  ·rw[<-hn,numAt_eq];exact getD_mem (by rw[bD,jg];lia)
  ·rw[<-hn] at hb
   obtain⟨j,hj,rfl⟩:=mem_getD hb
   rw[bD,jg] at hj
   rw[<-numAt_eq];exact h2 j (by lia)
 rw[em]
 exact⟨.int (kv ns),H,I.kept hk,⟨t,rfl⟩,q⟩
theorem w4t(hc:X.calm=true):mQ X (.builtin "max") vE:=by
 refine⟨_,jo.or (x9k (X:=X.bZ) hc) (UI (X:=X.bZ) hc),λH xs ds i hg=>?_⟩
 unfold vE at hg
 split at hg
 ·rename_i ys
  obtain⟨v,rfl,h⟩:=n_ i
  obtain⟨a,zs,rfl,h1,h2⟩:=Is.fb.mp h
  cases q:gv ys with
  | none=>rw[q] at hg;exact absurd rfl hg
  | some ns =>
    cases ns with
    | nil=>rw[q] at hg;exact absurd rfl hg
    | cons n ns =>
      have:=vA q
      subst this
      rw[h2.wd] at h1
      exact .inl ⟨a,n::ns,rfl,by simp,h1,_,by unfold vE;simp only[q],.refl _,Is.bT.mpr rfl⟩
 ·rename_i i' j'
  obtain⟨v,v',rfl,h,h'⟩:=Pf i
  exact .inr ⟨i',j',by rw[Is.bT.mp h,Is.bT.mp h'],_,rfl,.refl _,Is.bT.mpr rfl⟩
 ·exact absurd rfl hg
end
section
variable {X:Cx}{e a b c:Expr}{g ga gb gc:G->R D}{lo:Option Expr}{st:Expr}{gl gt:G->R (Option Int)}{pos p2 p3:Pos}
end
theorem Is.isNon{K:aK}{H:Hp}{d:D}{v:V}(h:Is K H d v):decide (v = .bS)=d.isNon:=by
 cases d with
 | bS=>rw[Is.y_.mp h];rfl
 | bl b=>rw[Is.jt.mp h];rfl
 | int b=>rw[Is.bT.mp h];rfl
 | str b=>unfold Is at h;rw[h];rfl
 | tup ds=>obtain⟨a,xs,rfl,_⟩:=Is.eQ.mp h;rfl
 | lst ds=>obtain⟨a,xs,rfl,_⟩:=Is.fb.mp h;rfl
 | kn=>unfold Is at h;obtain⟨a,ob,rfl,_⟩:=h;rfl
 | exc c=>unfold Is at h;obtain⟨a,ob,C,rfl,_⟩:=h;rfl
section
variable {X:Cx}{a b:Expr}{pos:Pos}
theorem P1:fX X (m8 .IsNot) y7d:=by
 refine⟨_,UH (X:=X.bZ),λH x y dx dy ix iy hg=>?_⟩
 cases dy with
 | bS=>exact⟨Is.y_.mp iy,.bl (!dx.isNon),rfl,.refl _,Is.jt.mpr (by rw[ix.isNon])⟩
 | _=>exact absurd rfl hg
end
section
variable {X:Cx}{e a b c:Expr}{g ga gb gc:G->R D}{pos pos' p p2:Pos}{es:List Expr}{gs:G->R (List D)}
theorem x9x{a b:Int}(ha:0<=a)(hb:0<=b)(h:b≥((JU a:Nat):Int)):a/2^b.toNat=0:=by
 obtain⟨n,rfl⟩:=sV ha
 obtain⟨k,rfl⟩:=sV hb
 have hk:n<2^k:=by
  unfold JU at h
  by_cases hn:n=0
  ·subst hn;exact Su k
  ·rw[a6d,if_neg (by simpa using hn)] at h
   exact(Nat.log2_lt hn).mp (by lia)
 rw[rk]
 exact a7i (Sz n) (by exact_mod_cast hk)
theorem w5x:fX X (hJ .RShift) EL:=zc (C:=λi j=>0<=i/\0<=j) (d:=λi j=>.int (i/2^j.toNat)) (λ_ _ _ _=>Is.bT.mpr rfl) (v:=λi j=>.int (i/2^j.toNat)) (vn λi j _ _ _ _ _ hc q=>by
 have h1:(0:Int)<=i:=hc.1
 have h2:(0:Int)<=j:=hc.2
 by_cases hb:j≥((JU i:Nat):Int)
 ·refine AutoIntOps.rshift_1 (by lia) hb ?_
  rw[if_neg (by lia),<-x9x h1 h2 hb]
  exact q
 ·refine AutoIntOps.rshift_2 (by lia) hb ?_
  rw[a5l i (Int.le_of_lt (Int.pow_pos (by lia)))]
  exact q)
theorem w3g{apos eF:Pos}(ha:PD X a ga)
 (uq:JQ a "bit_length" X.env (eval a X.env)=eval a X.env:=by rfl)
 (ur:((de eF (bR [] X.env)).all (λx=>!x.1)&&(rA eF (rB [] X.env)).all (λx=>x.1.isSome)
   && decide (([]:List Expr).length+([]:List qZ).length+(if ([]:List qZ).isEmpty then 0 else 1)<30))=true:=by rfl)
 (uu:(apos.endLine==eF.line)=true:=by rfl) (hs:bR [] X.env=[]:=by rfl) :
 PD X (.Call (.Attribute a "bit_length" apos) [] [] eF) (y4u ga):=by
 refine⟨λpins s σ H F Γ I fo rl hg=>?_⟩
 refine JR uq ur uu rfl (aH (ha.run pins s σ H F Γ I fo rl (R.left hg)) (λv s1 ⟨d,x,H1,e1,I1,r1,S1,i1⟩=>?_) λ_ _ x=>x.bind _)
 have a9:=R.next hg e1
 cases d with
 | int i =>
   rw[Is.bT.mp i1] at r1
   obtain⟨t,rfl⟩:=r1
   refine⟨"int",_,PySem.F.plainAttrs_int,slot_int_bit_length,type_int_bit_length,typeIs_int _ _ _,(λ_ e=>nomatch e),?_⟩
   rw[hs]
   refine JS rfl ?_
   show az _ _ (evalArgs (Value.builtin "int.bit_length") true [] []) _ _ s1
   refine PyProof.Rows.evalArgs_nil3 ?_
   exact call_int_bit_length (fD.bind e1 S1 ⟨.int (ye i),.int (ye i),H1,rfl,I1.tok _,⟨_,rfl⟩,.refl _,Is.bT.mpr rfl⟩)
 | _=>exact absurd rfl a9
end
section
variable {X:Cx}{e a b c:Expr}{g ga gb gc:G->R D}{pos pos' p p2:Pos}{es:List Expr}{gs:G->R (List D)}
structure CZ (X:Cx) (es:List Expr) (g:G->R (List D)):Prop where
 run:∀(pos:Pos) (pins:List (Addr×Obj)) (s:aq) (σ:St) (H:Hp) (F:List Addr) (Γ:G),Inv X pins σ H s->cn H F->Rel X.K H F Γ σ->g Γ ≠ .no ->
  az (aJ X.prog X.w) X.A (h_ (de pos (bR es X.env))) (λus s'=>∃ds vs H',g Γ = .ok ds/\Inv X pins σ H' s'/\Vals vs us/\aW H H'/\aC X.K (aS F H') ds vs) (cb X pins σ H (g Γ)) s
theorem C0:CZ X [] aB:=⟨λpos pins s σ H F Γ I fo rl hg=>l9 ⟨[],[],H,rfl,I,.nil,.refl _,aC.nil⟩⟩
theorem iW(ha:gY X e g)(hr:CZ X es gs)(hs:bR (e::es) X.env=(false,eval e X.env)::bR es X.env:=by rfl):CZ X (e::es) (ai g gs):=by
 refine⟨λpos pins s σ H F Γ I fo rl hg=>?_⟩
 rw[hs]
 show az _ _ (h_ ((false,eval e X.env)::de pos (bR es X.env))) _ _ s
 refine jk (aH (ha.run pins s σ H F Γ I fo rl (R.left hg)) (λu s1 ⟨d,x,H1,e1,I1,r1,S1,i1⟩=>?_) λ_ _ x=>x.bind _)
 have a9:=R.next hg e1
 refine aH (hr.run pos pins s1 σ H1 F Γ I1 (fo.same S1) (rl.same S1) (R.left a9)) (λus s2 ⟨ds,vs,H2,e2,I2,r2,S2,i2⟩=>?_) λ_ _ x=>cb.later e1 S1 (x.bind _)
 exact⟨d::ds,x::vs,H2,(R.step e1 _).trans (R.step e2 _),I2,.cons r1 r2,S1.trans S2,aC.cons (i1.same (gG S2)) i2⟩
theorem w5q(ha:gY X a ga)(hb:PD X b gb)(hs:K_ b:=by intro _ _;rfl):gY X (.Subscript a b pos) (au aX ga gb):=by
 refine⟨λpins s σ H F Γ I fo rl hg=>?_⟩
 refine S4 (aH (ha.run pins s σ H F Γ I fo rl (R.left hg)) (λv s1 ⟨dx,x,H1,e1,I1,r1,S1,i1⟩=>?_) λ_ _ x=>x.bind _)
 have a9:=R.next hg e1
 refine aH (hb.run pins s1 σ H1 F Γ I1 (fo.same S1) (rl.same S1) (R.left a9)) (λu s2 ⟨dy,y,H2,e2,I2,r2,S2,i2⟩=>?_) λ_ _ x=>cb.later e1 S1 (x.bind _)
 have dg:=R.next a9 e2
 have qq:=i1.same (gG S2)
 have fin:∀(d:D) (z:V),aX dx dy = .ok d->Is X.K (aS F H2) d z->∀(w':ae) (s':aq),EP X.bZ pins σ (λz' H'=>z'=z/\H'=H2) w' s'->∃d v H',au aX ga gb Γ = .ok d/\Inv X pins σ H' s'/\RelV v w'/\aW H H'/\Is X.K (aS F H') d v:=λd z ed iz w' s' ⟨z',H',I',rz,ez,eH⟩=>by
  subst ez eH
  exact⟨d,z',H',(R.step e1 _).trans ((R.step e2 _).trans ed),I'.fJ,rz,S1.trans S2,iz⟩
 cases dx with
 | tup ds =>
   cases dy with
   | int i =>
     obtain⟨p,xs,rfl,h1,h2⟩:=Is.eQ.mp qq
     have oz:=wc (lH (F:=F)) h1
     cases q:cu ds i with
     | none=>exact absurd (show aX (.tup ds) (.int i) = .no by simp only[aX,q]) dg
     | some d =>
       obtain⟨z,ez,iz⟩:=h2.cu q
       exact aH (Lc (X:=X.bZ) a b pins s2 σ H2 _ y v u _ (I2.dw _) r1 r2 ⟨p,xs,i,z,rfl,Is.bT.mp i2,oz,ez,rfl,rfl⟩ (hs _ _)) (λw' s' h=>fin d z (by show aX (.tup ds) (.int i) = .ok d;simp only[aX,q]) iz w' s' h) λ_ _ z=>di z
   | _=>exact absurd rfl dg
 | lst ds =>
   cases dy with
   | int i =>
     obtain⟨p,xs,rfl,h1,h2⟩:=Is.fb.mp qq
     have oz:=aW.seq (lH (F:=F)) h1
     cases q:cu ds i with
     | none=>exact absurd (show aX (.lst ds) (.int i) = .no by simp only[aX,q]) dg
     | some d =>
       obtain⟨z,ez,iz⟩:=h2.cu q
       exact aH (Lb (X:=X.bZ) a b pins s2 σ H2 _ y v u _ (I2.dw _) r1 r2 ⟨p,xs,i,z,rfl,Is.bT.mp i2,oz,ez,rfl,rfl⟩ (hs _ _)) (λw' s' h=>fin d z (by show aX (.lst ds) (.int i) = .ok d;simp only[aX,q]) iz w' s' h) λ_ _ z=>di z
   | _=>exact absurd rfl dg
 | _=>exact absurd rfl dg
end
def C1(N:List Str)(env:Env)(x0 y:Str)(scope:cT):Bool :=
 decide (scope.kind = .function)&&scope.names.all (λp=>decide (p.2 ≠ .cell)&&(decide (p.2 ≠ .local)||decide (scope.names.lookup p.1=some .local))&&(decide (p.2 ≠ .free)||((env.cells.lookup p.1).isSome&&(decide (env.scope.names.lookup p.1=some .cell)||decide (env.scope.names.lookup p.1=some .free)))))
  && decide (scope.names.lookup x0=some .local/\scope.names.lookup y=some .local/\x0≠y/\(x0 ∉ N∨y ∉ N))&&decide (scope.names.lookup (("":Str))=none)&&N.all (λz=>decide (scope.names.lookup z≠some .local)||decide (z=x0∨z=y))&&decide ((∀z∈N,z≠("":Str))∨(x0 ∉ N/\y ∉ N))
structure C2 (N:List Str) (env:Env) (x0 y:Str) (scope:cT):Prop where
 kind:scope.kind = .function
 pK:∀p∈scope.names,p.2 ≠ .cell
 names:∀p∈scope.names,p.2 = .local->scope.names.lookup p.1=some .local
 free:∀p∈scope.names,p.2 = .free->(∃c,env.cells.lookup p.1=some c)/\(env.scope.names.lookup p.1=some .cell∨env.scope.names.lookup p.1=some .free)
 loc:scope.names.lookup x0=some .local/\scope.names.lookup y=some .local/\x0≠y/\(x0 ∉ N∨y ∉ N)
 nil:scope.names.lookup (("":Str))=none
 only:∀z∈N,scope.names.lookup z=some .local->z=x0∨z=y
 none:(∀z∈N,z≠("":Str))∨(x0 ∉ N/\y ∉ N)
theorem P2{N:List Str}{env:Env}{x0 y:Str}{scope:cT}(h:C1 N env x0 y scope=true):C2 N env x0 y scope:=by
 unfold C1 at h
 simp only[gN,rj,DU,decide_eq_true_eq] at h
 obtain⟨⟨⟨⟨⟨h1,h2⟩,h3⟩,h4⟩,h5⟩,h6⟩:=h
 refine⟨h1,λp hp=>(h2 p hp).1.1,λp hp e=>((h2 p hp).1.2).resolve_left λz=>z e,λp hp e=>?_,h3,h4,λz hz e=>(h5 z hz).resolve_left λq=>q e,h6⟩
 have q:=((h2 p hp).2).resolve_left λz=>z e
 exact⟨Option.isSome_iff_exists.mp q.1,q.2⟩
def fE(X:Cx)(x0 y:Str)(scope:cT)(C:Addr)(aA:aq)(aD:Hp)(fp:List Addr)(pn:List (Addr×Obj)):Cx :=
 { X with N:=x0::y::X.N.map (λz=>if z=x0∨z=y then ("":Str) else z),s₀:=aA,H₀:=aD,env:=ib scope (cJ X.env scope.names []) C X.env,outer:=X.stack,ex:=fp,fn:=λ_=>false,pn:=pn,xe:=λ_ _=>False }
theorem x4d{X:Cx}{x0 y:Str}{scope:cT}{C Dd:Addr}{fp:List Addr}{pins pl:List (Addr×Obj)}{σ a8:St}{aD H':Hp}{aA s1:aq}{xs:List V}{its:List ae}{n:Nat}(I:Inv X pins σ aD aA)
 (J:Inv (fE X x0 y scope C aA aD fp (X.pn++pins)) pl a8 H' s1) (hD:aA.heap.objs.size<=Dd) (hn:H' Dd=none) (hd:s1.heap.get? Dd=some { cls:=.type "list",data:=.seq its.toArray n }) (rv:Vals xs its) (hz:xs.length<=cq) (hf:∀b∈fp,eD X pins aD b) :
 Inv X pins σ (upd H' Dd (.lst xs)) s1:=by
 have os:s1.os=aA.os:=J.os
 have un:Un (cY X.stack) fp aD H' aA.heap s1.heap:=J.base
 have aQ:du X.prog X.w H' s1.heap:=J.aQ
 have bare:m6 s1.gens:=J.bare
 clear J
 obtain⟨hh,gg,dd,tt,kT⟩:=s1
 obtain rfl:kT=aA.os:=os
 have zk:∀b o,aA.heap.get? b=some o->b≠Dd:=λb o e=>cX (b_ (bx e) hD)
 refine I.call (h':=hh) (g':=gg) (d':=dd) (t':=tt) (ch:=fp) ⟨un.keep,un.slot,λb o e n' hx=>?_,un.there,λb ys e=>?_,λb o u e=>?_,λb ps e=>?_⟩ (GJ aQ hn ⟨hz,its,n,rv,hd⟩) bare λb hb=>?_
 ·rw[bP (zk b o e)];exact un.free b o e n' hx
 ·have q:=un.l_ b ys e
  rw[bP (fI q hn)];exact q
 ·have q:=un.kP b o u e
  rw[bP (fI q hn)];exact q
 ·obtain⟨more,q⟩:=un.md b ps e
  exact⟨more,by rw[bP (fI q hn)];exact q⟩
 ·obtain⟨f0,f1,f2,f3,f4,f5⟩:=hf b hb
  exact⟨f3.imp_right λz=>wX z,f1,f4,f5⟩
theorem w0k{X:Cx}{x0 y:Str}{scope:cT}{C:Addr}{fp:List Addr}{pins:List (Addr×Obj)}{σ:St}{aD:Hp}{aA:aq}(I:Inv X pins σ aD aA)(c:C2 X.N X.env x0 y scope)(hC:aA.heap.objs.size<=C)(hf:∀b∈fp,eD X pins aD b)(ho:∀b∈fp,b<aA.heap.objs.size) :
 (fE X x0 y scope C aA aD fp (X.pn++pins)).Ok:=by
 have cells:∀x k,(cJ X.env scope.names []).lookup x=some k->X.env.cells.lookup x=some k:=λx k e=>by
  rcases mR scope.names [] (iG e) with q | q
  ·simp at q
  ·exact q
 refine⟨I.ok.mod,c.kind,I.ok.glob,I.ok.blt,hC,λx z k h1 h2=>I.ok.inj x z k (cells x k h1) (cells z k h2),λx hx=>?_,λx k h _=>absurd h (by simp[fE]),I.ok.hd,I.ok.frames,.inl rfl,λb hb=>?_,I.bs,dD I.ok.kQ I.sz,λb o e hb=>?_,λb hb z=>?_,I.stack,I.xG⟩
 ·have o8:(ic scope X.env).names.lookup x=some .cell∨(ic scope X.env).names.lookup x=some .free:=hx
  have hm:∃k,(x,k)∈scope.names/\(k = .free∨k = .cell):=by
   rcases o8 with q | q <;>
   ·have m:=iG q
    unfold ic at m
    simp only[uY] at m
    obtain⟨⟨n,k⟩,hm,e⟩:=m
    by_cases hc:(k==kO&&X.env.scope.kind == .function&&X.env.kindOf n==some .cell)=true
    ·rw[if_pos hc] at e
     have e1:n=x:=congrArg oP e
     subst e1
     rw[gN,gN] at hc
     exact⟨k,hm,.inl (wm hc.1.1)⟩
    ·rw[if_neg hc] at e
     have e1:n=x:=congrArg oP e
     have e2:=congrArg sX e
     dsimp only at e2
     subst e1 e2
     exact⟨_,hm,by first | exact .inr rfl | exact .inl rfl⟩
  obtain⟨k,hm,hk⟩:=hm
  rcases hk with rfl | rfl
  ·obtain⟨⟨a,ea⟩,_⟩:=c.free _ hm rfl
   obtain⟨c',h1,_⟩:=pJ (qv ea scope.names [] hm)
   exact⟨c',h1⟩
  ·exact absurd rfl (c.pK _ hm)
 ·refine⟨cX (b_ (ho b hb) hC),λx k e=>(hf b hb).2.2.2.2.1 x k (cells x k e)⟩
 ·rcases(hf b hb).2.2.2.1 with z | z
  ·exact I.ok.td b o e z
  ·exact absurd (b_ (b_ (bx e) I.ok.kQ) z) (dS _)
 ·rcases List.mem_cons.mp (I.kg b z) with q | q
  ·exact(hf b hb).2.1 q
  ·exact(hf b hb).2.2.1 q
section
variable {X:Cx}{x0 y:Str}{scope:cT}
theorem x0y{C Dd:Addr}{fp:List Addr}{pins:List (Addr×Obj)}{σ:St}{aD:Hp}{aA:aq}{cB:Heap}{tk:Nat}{oD:Obj}{m:Str->Option ae}(I:Inv X pins σ aD aA)(c:C2 X.N X.env x0 y scope)(hC:aA.heap.objs.size<=C)(hD:aA.heap.objs.size<=Dd)(dC:Dd≠C)(hf:∀b∈fp,eD X pins aD b)(ho:∀b∈fp,b<aA.heap.objs.size)
 (old:∀b o,aA.heap.get? b=some o->cB.get? b=some o) (p7:cB.Ns C m) (hd:cB.get? Dd=some oD) (zl:∀v,oD.data ≠ .cell v) :
 Inv (fE X x0 y scope C aA aD fp (X.pn++pins)) [(Dd,oD)] (none::none::σ) aD { aA with heap:=cB,toks:=tk }:=by
 have cells:∀x k,(cJ X.env scope.names []).lookup x=some k->X.env.cells.lookup x=some k:=λx k e=>by
  rcases mR scope.names [] (iG e) with q | q
  ·simp at q
  ·exact q
 have zm:∀b,aA.heap.objs.size<=b->b ∉ cY X.stack:=λb hb z=>by
  rcases List.mem_cons.mp (I.kg b z) with q | q
  ·exact absurd (b_ I.lt (by rw[<-q];exact hb)) (dS _)
  ·exact I.A_ hb q
 refine⟨w0k I c hC hf ho,rfl,I.bare,Un.kept old,⟨m,p7,λi x v e1 e2 e3=>?_⟩,λx k e=>?_,I.aQ.fresh hC,λx k e=>I.mf x k (cells x k e),λp hp=>?_,I.aQ.kept old,?_⟩
 ·cases i with
  | zero=>simp at e2
  | succ i =>
  cases i with
  | zero=>simp at e2
  | succ i =>
    have zo:σ[i]? = some (some v):=by simpa using e2
    have dR:(X.N.map (λz=>if z=x0∨z=y then ("":Str) else z))[i]? = some x:=by simpa [fE] using e1
    rw[cf] at dR
    cases hz:X.N[i]? with
    | none=>rw[hz] at dR;cases dR
    | some z =>
      rw[hz] at dR
      simp only[AI,xj] at dR
      have oj:ny (ic scope X.env) x:=e3
      have ja:∀{k:lW},(ic scope X.env).names.lookup x=some k->∃k',(x,k')∈scope.names/\(k'=k∨(k' = .free/\k = .cell)):=λ{k} q=>by
       have m':=iG q
       unfold ic at m'
       simp only[uY] at m'
       obtain⟨⟨n,k0⟩,hm,e⟩:=m'
       by_cases hc:(k0==kO&&X.env.scope.kind == .function&&X.env.kindOf n==some .cell)=true
       ·rw[if_pos hc] at e
        have e1:n=x:=congrArg oP e
        have e2:=congrArg sX e
        dsimp only at e2
        subst e1 e2
        rw[gN,gN] at hc
        exact⟨k0,hm,.inr ⟨wm hc.1.1,rfl⟩⟩
       ·rw[if_neg hc] at e
        have e1:n=x:=congrArg oP e
        have e2:=congrArg sX e
        dsimp only at e2
        subst e1 e2
        exact⟨_,hm,.inl rfl⟩
      have zp:∀k',(x,k')∈scope.names->x≠("":Str):=λk' hm z=>by
       subst z
       obtain⟨c',h1,_⟩:=pJ hm
       rw[c.nil] at h1;cases h1
      have ne:x≠("":Str):=by
       rcases oj with q | q | q<;>(obtain⟨k',hm,_⟩:=ja q;exact zp k' hm)
      by_cases kG:z=x0∨z=y
      ·rw[if_pos kG] at dR;exact absurd dR.symm ne
      ·rw[if_neg kG] at dR
       subst dR
       have fr:(z,kO)∈scope.names:=by
        rcases oj with q | q | q
        ·obtain⟨k',hm,hk⟩:=ja q
         rcases hk with rfl | ⟨_,hk⟩
         ·exact absurd (c.only z (kN hz) (c.names _ hm rfl)) kG
         ·cases hk
        ·obtain⟨k',hm,hk⟩:=ja q
         rcases hk with rfl | ⟨rfl,_⟩
         ·exact absurd rfl (c.pK _ hm)
         ·exact hm
        ·obtain⟨k',hm,hk⟩:=ja q
         rcases hk with rfl | ⟨_,hk⟩
         ·exact hm
         ·cases hk
       obtain⟨⟨ca,Px⟩,hv⟩:=c.free _ fr rfl
       obtain⟨m0,Py,zq⟩:=I.loc
       obtain⟨u,ru,lk⟩:=zq i z v hz zo (.inr hv)
       refine⟨u,ru,?_⟩
       rcases lk with ⟨q,_⟩ | ⟨_,k,ek,hk⟩
       ·exfalso
        have q':X.env.scope.names.lookup z=some .local:=q
        rcases hv with w | w<;>(rw[q'] at w;cases w)
       ·obtain⟨c',h1,_⟩:=pJ (qv ek scope.names [] fr)
        have h2:=cells z c' h1
        rw[ek] at h2;cases h2
        refine .inr ⟨?_,k,h1,?_⟩
        ·rcases oj with q | q | q
         ·exfalso
          obtain⟨k',hm,cQ⟩:=ja q
          rcases cQ with rfl | ⟨_,cQ⟩
          ·exact kG (c.only z (kN hz) (c.names _ hm rfl))
          ·cases cQ
         ·exact .inl q
         ·exact .inr q
        ·obtain⟨o,dm,fR⟩:=hk
         exact⟨o,old _ _ dm,fR⟩
 ·obtain⟨v,o,dm,fR⟩:=I.cell x k (cells x k e)
  exact⟨v,o,old _ _ dm,fR⟩
 ·rcases List.mem_append.mp hp with q | q
  ·obtain⟨h1,h2,h3,h4,h5⟩:=I.pin p q
   refine⟨old _ _ h1,h2,cX (b_ (bx h1) hC),λz=>?_,h5⟩
   rcases List.mem_cons.mp (I.kg p.1 z) with q' | q'
   ·exact h3 q'
   ·exact h4 q'
  ·have e:p=(Dd,oD):=by simpa using q
   subst e
   exact⟨hd,I.aQ.fresh hD,dC,zm Dd hD,zl⟩
 ·show σ.length+1+1=(x0::y::X.N.map _).length
  rw[dE,dE,bD,I.len]
structure zW (X:Cx) (x0 y:Str) (scope:cT) (ifs:List Expr) (elt:Expr) (f:D->D->G->R (Option D)):Prop where
 run:∀(C:Addr) (aA:aq) (aD:Hp) (fp:List Addr) (pn:List (Addr×Obj)) (pins:List (Addr×Obj)) (s:aq) (σ:St) (H:Hp) (F:List Addr) (Γ:G) (d d2:D),Inv (fE X x0 y scope C aA aD fp pn) pins σ H s->cn H F->Rel X.K H F (.ro d :: .ro d2::Γ) σ->(∃o,f d d2 Γ = .ok o) ->
  az (aJ X.prog X.w) X.A (forIn ifs true λc r=>if r=true then do let ok <-rn c (ib scope (cJ X.env scope.names []) C X.env) (eval c (ib scope (cJ X.env scope.names []) C X.env));pure (oQ ok) else pure (oQ r)) (λok gZ =>
   if ok=true then az (aJ X.prog X.w) X.A (eval elt (ib scope (cJ X.env scope.names []) C X.env)) (λu eW=>∃e v H',f d d2 Γ = .ok (some e)/\Inv (fE X x0 y scope C aA aD fp pn) pins σ H' eW/\RelV v u/\aW H H'/\Is X.K (aS F H') e v) (λ_ _=>False) gZ
   else f d d2 Γ = .ok none/\∃H',Inv (fE X x0 y scope C aA aD fp pn) pins σ H' gZ/\aW H H') (λ_ _=>False) s
theorem C3{elt:Expr}{ge:G->R D}(he:∀C aA aD fp pn,gY (fE X x0 y scope C aA aD fp pn) elt ge):zW X x0 y scope [] elt (y0w ge):=by
 refine⟨λC aA aD fp pn pins s σ H F Γ d d2 I fo rl ⟨o,eo⟩=>?_⟩
 refine S9 ?_
 rw[if_pos rfl]
 have aU:ge (.ro d :: .ro d2::Γ) ≠ .no:=λz=>by unfold y0w at eo;rw[z] at eo;cases eo
 refine aH ((he C aA aD fp pn).run pins s σ H F (.ro d :: .ro d2::Γ) I fo rl aU) (λu s4 ⟨e,v,H',e1,I',rv,S,iv⟩=>⟨e,v,H',R.step e1 _,I',rv,S,iv⟩) λx s' ⟨c,H',e1,_⟩=>?_
 unfold y0w at eo;rw[e1] at eo;cases eo
theorem x9c{elt c:Expr}{gc:G->R Bool}{ge:G->R D}(hc:∀C aA aD fp pn,jU (fE X x0 y scope C aA aD fp pn) c gc)(he:∀C aA aD fp pn,gY (fE X x0 y scope C aA aD fp pn) elt ge):zW X x0 y scope [c] elt (vF gc ge):=by
 refine⟨λC aA aD fp pn pins s σ H F Γ d d2 I fo rl ⟨o,eo⟩=>?_⟩
 have aU:gc (.ro d :: .ro d2::Γ) ≠ .no:=λz=>by unfold vF at eo;rw[z] at eo;cases eo
 refine a7b (aH ((hc C aA aD fp pn).run pins s σ H F (.ro d :: .ro d2::Γ) I fo rl aU) (λk s3 ⟨H1,e1,I1,S1⟩=>?_) λx s' ⟨c',H',e1,_⟩=>?_)
 ·have om:(if k=true then ge (.ro d :: .ro d2::Γ)>>=λe=>R.ok (some e) else .ok none) = .ok o:=by
   unfold vF at eo;rw[e1] at eo;exact eo
  cases k with
  | false =>
    rw[if_neg oN]
    exact⟨R.step e1 _,H1,I1,S1⟩
  | true =>
    rw[if_pos rfl] at om ⊢
    have GL:ge (.ro d :: .ro d2::Γ) ≠ .no:=λz=>by rw[z] at om;cases om
    refine aH ((he C aA aD fp pn).run pins s3 σ H1 F (.ro d :: .ro d2::Γ) I1 (fo.same S1) (rl.same S1) GL) (λu s4 ⟨e,v,H',e2,I',rv,S,iv⟩=>⟨e,v,H',(R.step e1 _).trans (R.step e2 _),I',rv,S1.trans S,iv⟩) λx s' ⟨c',H',e2,_⟩=>?_
    rw[e2] at om;cases om
 ·unfold vF at eo;rw[e1] at eo;cases eo
def uy(K:aK)(H:Hp)(F:List Addr)(J:It)(ds:List D):Prop:=∀H1,aW H H1 ->
 (∀i:Nat,i<ds.length->J.go i H1/\∀v H2,J.xK i H1 v H2->aW H1 H2/\∃d1 d2 q v1 v2,ds[i]? = some (.tup [d1,d2])/\v = .ref q/\cE K H2 q [v1,v2]/\Is K (aS F H2) d1 v1/\Is K (aS F H2) d2 v2)/\J.stop ds.length H1
theorem x9d{prog:bw}{w:aY}{A:Around}{Z:Aw->aq->Prop}{s0:aq}{elt iter:Expr}{es ifs:List Expr}{kt}{pt pos:Pos}{scope:cT}{it acc:ae}{env:Env}(K:Nat->aq->Prop)
 (one:∀n s,K n s->az (aJ prog w) A (hG it) (λr s1=>match r with
   | some v=>az (aJ prog w) A (Ji (.Tuple es kt pt) it v) (λ_ s2=>az (aJ prog w) A (jh (.Tuple es kt pt) env v) (λ_ s3 =>
      az (aJ prog w) A (forIn ifs true λc r=>if r=true then do let ok <-rn c env (eval c env);pure (oQ ok) else pure (oQ r)) (λok s4 =>
       if ok=true then az (aJ prog w) A (eval elt env) (λx s5 =>
        az (aJ prog w) A (call (.builtin "list.append") [acc,x]) (λ_ s6=>∃m,m<n/\K m s6) (AZ (aJ prog w) A env λe s'=>Z (.error e) s') s5) (AZ (aJ prog w) A env λe s'=>Z (.error e) s') s4
       else ∃m,m<n/\K m s4) (AZ (aJ prog w) A env λe s'=>Z (.error e) s') s3) (AZ (aJ prog w) A env λe s'=>Z (.error e) s') s2) (AZ (aJ prog w) A env λe s'=>Z (.error e) s') s1
   | none=>Z (.ok .next) s1) (AZ (aJ prog w) A env λe s'=>Z (.error e) s') s)
 (n:Nat) (h0:K n s0):m9 (aJ prog w) A (.compLoop (.ListComp elt [⟨.Tuple es kt pt,iter,ifs,0⟩] scope pos) 0 it acc env) Z s0:=by
 refine codeAny_loop rfl K (λn s hK=>?_) n h0
 show az _ A ((compTurn (.ListComp elt [⟨.Tuple es kt pt,iter,ifs,0⟩] scope pos) 0 it acc env).onRaise (λx=>do Tn x env;theTreesLotGoes x)) _ _ s
 refine wpAny_noted ?_
 rw[compTurn_list]
 refine ay (AX (ay (aH (one n s hK) (λr s1 q1=>?_) λ_ _ q=>q)))
 cases r with
 | some v =>
   refine ay (aH q1 (λ_ s2 q2=>?_) λ_ _ q=>q)
   refine ay (aH q2 (λ_ s3 q3=>ay (aH q3 (λok s4 q4=>?_) λ_ _ q=>q)) λ_ _ q=>q)
   cases ok with
   | true=>exact ay (ay (aH q4 (λx s5 q5=>ay (aH q5 (λ_ s6 q6=>aP (aP ⟨rfl,q6⟩)) λ_ _ q=>q)) λ_ _ q=>q))
   | false=>exact aP ⟨rfl,q4⟩
 | none=>exact aP q1
theorem P4{elt iter:Expr}{p0 px pt pos:Pos}{kt}{ifs:List Expr}{f:D->D->G->R (Option D)}{pins:List (Addr×Obj)}{σ:St}{aD:Hp}{aA:aq}{F:List Addr}{Γ:G}{items:List D}{it:Addr}{fp:List Addr}{tn:Nat->Heap->Prop}{J:It}{E:ae->aq->Prop}{total:List D}
 (hp:zW X x0 y scope ifs elt f) (c:C2 X.N X.env x0 y scope) (hN:X.N.Nodup) (eA:X.calm=true) (I:Inv X pins σ aD aA) (fo:cn aD F) (rl:Rel X.K aD F Γ σ) (T:Turn X.prog X.w X.K (.Tuple [.Name x0 p0,.Name y px] kt pt) J fp it tn) (t0:tn 0 aA.heap) (hf:∀b∈fp,eD X pins aD b) (hj:uy X.K aD F J items)
 (ht:cj (z8z f Γ) items [] = .ok total) (hl:items.length<=100000) {RR:ae->Addr->Aw->aq->Prop}
 (hR:∀(Dd C:Addr) (xs:List V) (H':Hp) (m:Str->Option ae) (s':aq),aA.heap.objs.size<=C->Dd≠C->aD Dd=none->H' Dd=none->H' C=none->aA.heap.objs.size<=Dd->aW aD H'->aC X.K (aS F H') total xs->Inv X pins σ (upd H' Dd (.lst xs)) s'->s'.heap.Ns C m->RR (.ref Dd) C (.ok .next) s') :
 az (aJ X.prog X.w) X.A (xr []) (λacc gZ=>az (aJ X.prog X.w) X.A (DV scope X.env.globals (cJ X.env scope.names []) [] X.env.qual none .none (some X.env)) (λsA eW =>
  m9 (aJ X.prog X.w) X.A (.compStart (.ListComp elt [⟨.Tuple [.Name x0 p0,.Name y px] kt pt,iter,ifs,0⟩] scope pos) 0 (.ref it) acc { sA with scope:=ic scope X.env }) (RR acc sA.locals) eW) E gZ) E aA:=by
 have ho:∀b∈fp,b<aA.heap.objs.size:=λb hb=>by obtain⟨o,e,_⟩:=T.obj _ _ t0 b hb;exact bx e
 refine lY (a7c c.pK (by intro y hy;simp at hy) (λcB mS oo=>?_) c.kind)
 dsimp only at mS oo ⊢
 generalize oq:aA.heap.push { cls:=.type "list",dict:=none,data:=.seq ([]:List ae).toArray }=H2 at mS oo ⊢
 have mT:H2.objs.size=aA.heap.objs.size+1:=by rw[<-oq,fG]
 generalize PA:H2.objs.size=C at mS oo mT ⊢
 generalize qw:aA.heap.objs.size=Dd at mT ⊢
 obtain⟨⟨dC,hC,hD⟩,below⟩:=GN mT qw
 have old:∀b o,aA.heap.get? b=some o->cB.get? b=some o:=λb o e=>by
  refine oo.extBut b o (below b (bx e)).1 ?_
  exact bB _ (oq ▸ bB _ e)
 have qx:cB.get? Dd=some { cls:=.type "list",dict:=none,data:=.seq ([]:List ae).toArray }:=by
  refine oo.extBut _ _ dC ?_
  refine bB _ ?_
  rw[<-oq,<-qw]
  exact c_ _ rfl
 have J0:∀tk,Inv (fE X x0 y scope C aA aD fp (X.pn++pins)) [(Dd,{ cls:=.type "list",dict:=none,data:=.seq ([]:List ae).toArray })] (none::none::σ) aD { aA with heap:=cB,toks:=tk }:=λtk =>
  x0y I c hC hD dC hf ho old mS qx (λv z=>nomatch z)
 have t1:tn 0 cB:=T.keep _ _ _ t0 λb hb o e=>old b o e
 have ot:∀{H':Hp} {o:Obj},(∀b∈fp,H' b=none)->∀b∈fp,eD (fE X x0 y scope C aA aD fp (X.pn++pins)) [(Dd,o)] H' b:=λ{H' o} hn b hb=>by
  obtain⟨f0,f1,f2,f3,f4,f5⟩:=hf b hb
  have lt:=ho b hb
  refine⟨hn b hb,(below b lt).1,λz=>?_,.inl hb,λx k e=>?_,λp ck=>?_⟩
  ·rcases List.mem_cons.mp (I.kg b z) with q | q
   ·exact f1 q
   ·exact f2 q
  ·rcases mR scope.names [] (iG e) with q | q
   ·simp at q
   ·exact f4 x k q
  ·rcases List.mem_append.mp ck with q | q
   ·exact f5 p q
   ·have e:p=(Dd,o):=by simpa using q
    subst e
    exact eC (below b lt).2
 have wq:(fE X x0 y scope C aA aD fp (X.pn++pins)).N.Nodup:=by
  show(x0::y::X.N.map (λz=>if z=x0∨z=y then ("":Str) else z)).Nodup
  have ne0:∀q:Str,scope.names.lookup q=some .local->q ∉ X.N.map (λz=>if z=x0∨z=y then ("":Str) else z)∨True:=λ_ _=>.inr trivial
  have out:∀q:Str,scope.names.lookup q=some .local->(q=x0∨q=y)->q ∉ X.N.map (λz=>if z=x0∨z=y then ("":Str) else z):=λq hq hqq z=>by
   obtain⟨z',hz,e⟩:=List.mem_map.mp z
   by_cases w':z'=x0∨z'=y
   ·rw[if_pos w'] at e
    subst e
    rw[c.nil] at hq;cases hq
   ·rw[if_neg w'] at e
    subst e
    exact w' hqq
  refine List.nodup_cons.mpr ⟨λz=>?_,List.nodup_cons.mpr ⟨out y c.loc.2.1 (.inr rfl),?_⟩⟩
  ·rcases List.mem_cons.mp z with e | e
   ·exact c.loc.2.2.1 e
   ·exact out x0 c.loc.1 (.inl rfl) e
  ·have inj:∀a∈X.N,∀b∈X.N,(if a=x0∨a=y then ("":Str) else a)=(if b=x0∨b=y then ("":Str) else b)->a=b∨((a=x0∨a=y)/\(b=x0∨b=y)):=λa ha b hb e=>by
    by_cases qa:a=x0∨a=y
    ·by_cases qb:b=x0∨b=y
     ·exact .inr ⟨qa,qb⟩
     ·rw[if_pos qa,if_neg qb] at e;exact absurd e.symm ((c.none.resolve_right λz=>qa.elim (λe=>z.1 (e ▸ ha)) λe=>z.2 (e ▸ ha)) b hb)
    ·by_cases qb:b=x0∨b=y
     ·rw[if_neg qa,if_pos qb] at e;exact absurd e ((c.none.resolve_right λz=>qb.elim (λe=>z.1 (e ▸ hb)) λe=>z.2 (e ▸ hb)) a ha)
     ·rw[if_neg qa,if_neg qb] at e;exact .inl e
   have gen:∀l:List Str,(∀a∈l,a∈X.N)->l.Nodup->(l.map (λz=>if z=x0∨z=y then ("":Str) else z)).Nodup:=by
    intro l
    induction l with
    | nil=>intro _ _;exact S_
    | cons a l ih =>
      intro hs nd
      obtain⟨n1,n2⟩:=List.nodup_cons.mp nd
      rw[cN]
      refine List.nodup_cons.mpr ⟨λz=>?_,ih (λb hb=>hs b (bY _ hb)) n2⟩
      obtain⟨b,hb,e⟩:=List.mem_map.mp z
      rcases inj b (hs b (bY _ hb)) a (hs a bV) e with q | q
      ·exact n1 (q ▸ hb)
      ·have ha:=hs a bV
       have yi:=hs b (bY _ hb)
       have uz:b≠a:=λz=>n1 (z ▸ hb)
       have both:x0∈X.N/\y∈X.N:=by
        rcases q.1 with rfl | rfl<;>rcases q.2 with rfl | rfl
        ·exact absurd rfl uz
        ·exact⟨yi,ha⟩
        ·exact⟨ha,yi⟩
        ·exact absurd rfl uz
       rcases c.loc.2.2.2 with z | z
       ·exact z both.1
       ·exact z both.2
   exact gen X.N (λ_ h=>h) hN
 let L:Nat->aq->Prop:=λn s'=>∃(i:Nat) (H':Hp) (o o2:Option V) (xs:List V) (its:List ae) (acc:List D) (k:Nat),n=items.length-i/\i<=items.length/\Inv (fE X x0 y scope C aA aD fp (X.pn++pins)) [(Dd,{ cls:=.type "list",dict:=none,data:=.seq its.toArray k })] (o::o2::σ) H' s' /\
  aW aD H'/\(∀b∈fp,H' b=none)/\tn i s'.heap/\Vals xs its/\acc.length<=i/\aC X.K (aS F H') acc xs/\cj (z8z f Γ) (items.drop i) acc = .ok total
 have loop:∀eW:aq,L items.length eW->m9 (aJ X.prog X.w) X.A (.compLoop (.ListComp elt [⟨.Tuple [.Name x0 p0,.Name y px] kt pt,iter,ifs,0⟩] scope pos) 0 (.ref it) (.ref Dd) (ib scope (cJ X.env scope.names []) C X.env)) (RR (.ref Dd) C) eW:=λeW h4=>by
  refine x9d L (λn s' hL=>aH (E:=λ_ _=>False) ?_ (λ_ _ q=>q) λ_ _ z=>z.elim) items.length h4
  obtain⟨i,H',o,o2,xs,its,acc,k,en,hi,J',S',sC,sD,rv,mO,ia,eg⟩:=hL
  obtain⟨qy,qz⟩:=hj H' S'
  have PB:=J'.pin (Dd,{ cls:=.type "list",dict:=none,data:=.seq its.toArray k }) (dh _ (by simp))
  have lJ:xs.length<=100000:=by rw[<-ia.length];exact dD mO (dD hi hl)
  have ly:(100000:Nat)<=cq:=by rw[lV];decide
  by_cases bO:i<items.length
  ·obtain⟨go,yl⟩:=qy i bO
   refine fm (T.item (fE X x0 y scope C aA aD fp (X.pn++pins)) rfl rfl rfl eA i _ s' _ H' (λ_ _=>False) J' (ot sC) sD go) λr s2 ⟨u,hr,h1⟩=>?_
   subst hr
   refine aH h1 (λ_ s2 ⟨x,H5,J5,r5,y5,iB,qA⟩=>?_) λ_ _ z=>z.elim
   obtain⟨S5,d1,d2,q,v1,v2,ed,rfl,G2,G3,G4⟩:=yl x H5 y5
   have zr:=J5.pinned (ot qA) (T.obj _ _ iB)
   have S6:=S'.trans S5
   have qB:items.drop i = .tup [d1,d2]::items.drop (i+1):=by
    rw[DW bO]
    have:items[i] = .tup [d1,d2]:=by
     have:=cD bO
     rw[ed] at this;exact(iZ this).symm
    rw[this]
   rw[qB] at eg
   have zt:∃od,f d1 d2 Γ = .ok od/\(match od with | some e=>cj (z8z f Γ) (items.drop (i+1)) (acc++[e]) | none=>cj (z8z f Γ) (items.drop (i+1)) acc) = .ok total:=by
    unfold cj at eg
    have ep:z8z f Γ (.tup [d1,d2])=f d1 d2 Γ:=rfl
    rw[ep] at eg
    cases q:f d1 d2 Γ with
    | no=>rw[q] at eg;cases eg
    | er c'=>rw[q] at eg;cases eg
    | ok od =>
      refine⟨od,rfl,?_⟩
      rw[q] at eg
      cases od with
      | none=>exact eg
      | some e=>exact eg
   obtain⟨od,ou,sE⟩:=zt
   have qC:PG (fE X x0 y scope C aA aD fp (X.pn++pins)).bZ (.Tuple [.Name x0 p0,.Name y px] kt pt) (L2.dW X.K 2 (L2.ai (rM 0) (L2.ai (rM 1) L2.aB))) :=
    KP (X:=(fE X x0 y scope C aA aD fp (X.pn++pins)).bZ) eA (Be (tj (X:=(fE X x0 y scope C aA aD fp (X.pn++pins)).bZ) wq rfl (.inl (AW c.loc.1)) (.inr (AW c.loc.1))) (Be (tj (X:=(fE X x0 y scope C aA aD fp (X.pn++pins)).bZ) wq rfl (.inl (AW c.loc.2.1)) (.inr (AW c.loc.2.1))) KO rfl) rfl) rfl rfl
   refine aH (qC _ s2 (o::o2::σ) H5 (.ref q) u (λa8 H'=>a8=some v1::some v2::σ/\H'=H5) (zr.dw _) r5 ⟨q,[v1,v2],rfl,G2,rfl,v1,[v2],rfl,v2,[],rfl,rfl,rfl,rfl⟩) (λ_ s3 ⟨CL,H6,J6,e6,qD⟩=>?_) λ_ _ z=>z.elim
   subst e6 qD
   have zu:=J6.fJ
   have zv:=fo.same S6
   have back:∀{s5:aq} {H7:Hp} {cR:St},Inv (fE X x0 y scope C aA aD fp (X.pn++pins)) ([(Dd,{ cls:=.type "list",dict:=none,data:=.seq its.toArray k })]++rN fp s2.heap) cR H7 s5->tn (i+1) s5.heap/\(∀b∈fp,H7 b=none):=λ{s5 H7 cR} J7=>by
    refine⟨T.keep _ _ _ iB λb hb o' e=>(J7.pin (b,o') (dh _ (dh _ (oX hb e)))).1,λb hb=>?_⟩
    obtain⟨o',e,dd⟩:=T.obj _ _ iB b hb
    exact(J7.pin (b,o') (dh _ (dh _ (oX hb e)))).2.1
   refine aH (hp.run C aA aD fp (X.pn++pins) _ s3 _ H6 F Γ d1 d2 zu zv (CK (CK (rl.same S6) G4) G3) ⟨od,ou⟩) (λok s4 h4=>?_) λ_ _ z=>z.elim
   cases ok with
   | false =>
     rw[if_neg oN] at h4 ⊢
     obtain⟨ef,H7,J7,S7⟩:=h4
     rw[ou] at ef;cases ef
     obtain⟨ox,oy⟩:=back J7
     exact⟨items.length-(i+1),wo en bO,i+1,H7,some v1,some v2,xs,its,acc,k,rfl,bO,J7.kj,S6.trans S7,oy,ox,rv,Ta mO,ia.same (gG (S5.trans S7)),sE⟩
   | true =>
     rw[if_pos rfl] at h4 ⊢
     refine aH h4 (λu7 s5 ⟨e,v7,H7,ef,J7,r7,S7,zw⟩=>?_) λ_ _ z=>z.elim
     rw[ou] at ef;cases ef
     obtain⟨ox,oy⟩:=back J7
     have J8:=J7.kj
     have kH:=J8.pin (Dd,{ cls:=.type "list",dict:=none,data:=.seq its.toArray k }) (dh _ (by simp))
     have hlen:its.length=acc.length:=by rw[<-rv.length,<-ia.length]
     refine Tb (l:=Dd) (items:=its.toArray) (x:=u7) ⟨k,kH.1⟩ (λh' zz sF=>?_) (by rw[dj,<-rv.length];exact dD lJ ly)
     obtain⟨k',cQ⟩:=zz
     have zD:its.toArray.push u7=(its++[u7]).toArray:=by simp
     rw[zD] at cQ
     have J9:Inv (fE X x0 y scope C aA aD fp (X.pn++pins)) [] (some v1::some v2::σ) H7 s5:=J8.rL λp ck=>by simp at ck
     have zG:Inv (fE X x0 y scope C aA aD fp (X.pn++pins)) [] (some v1::some v2::σ) H7 { s5 with heap:=h' }:=J9.turned (t':=s5.toks) (it:=Dd) (λb o' hb e'=>(sF.2 b hb).trans e') kH.2.1 dC (.inr hD) (λx' sG e' z=>by
      rcases mR scope.names [] (iG e') with q | q
      ·simp at q
      ·obtain⟨v',o',dm,_⟩:=I.cell x' sG q
       exact(below sG (bx dm)).2 z) (λp ck z=>by
      rcases List.mem_append.mp ck with q | q
      ·obtain⟨oz,_⟩:=I.pin p q
       exact(below p.1 (bx oz)).2 z
      ·simp at q)
     have zH:Inv (fE X x0 y scope C aA aD fp (X.pn++pins)) [(Dd,{ cls:=.type "list",dict:=none,data:=.seq (its++[u7]).toArray k' })] (some v1::some v2::σ) H7 { s5 with heap:=h' }:=zG.rL λp ck=>by
      have e':p=(Dd,{ cls:=.type "list",dict:=none,data:=.seq (its++[u7]).toArray k' }):=by simpa using ck
      subst e'
      exact⟨cQ,kH.2.1,dC,kH.2.2.2.1,λv z=>nomatch z⟩
     refine⟨items.length-(i+1),wo en bO,i+1,H7,some v1,some v2,xs++[v7],its++[u7],acc++[e],k',rfl,bO,zH,S6.trans S7,oy,T.keep _ _ _ ox λb hb o' e'=>(sF.2 b (below b (ho b hb)).2).trans e',rv.append (.cons r7 .nil),by rw[hU,w7];exact Tc mO,(ia.same (gG (S5.trans S7))).append (aC.cons zw aC.nil),sE⟩
  ·have kB:i=items.length:=Td hi (Js bO)
   subst kB
   refine fm (T.done (fE X x0 y scope C aA aD fp (X.pn++pins)) rfl rfl rfl eA _ _ s' _ H' (λ_ _=>False) J' (ot sC) sD qz) λr s1 ⟨hr,J1⟩=>?_
   subst hr
   have oA:=J1.pin (Dd,{ cls:=.type "list",dict:=none,data:=.seq its.toArray k }) (dh _ (by simp))
   rw[AF] at eg
   have:acc=total:=by unfold cj at eg;cases eg;rfl
   subst this
   obtain⟨mC,jY,_⟩:=J1.loc
   exact hR Dd C xs H' mC s1 hC dC (I.aQ.fresh hD) oA.2.1 J1.free hD S' ia (x4d I J1 hD oA.2.1 oA.1 rv (dD lJ ly) hf) jY
 have L0:∀tk,L items.length { aA with heap:=cB,toks:=tk }:=λtk=>⟨0,aD,none,none,[],[],[],_,rfl,ji _,J0 tk,.refl _,λb hb=>(hf b hb).1,t1,.nil,bA _,aC.nil,by rw[w_];exact ht⟩
 exact Tf (loop _ (L0 _)) (T.self _ 0 _ _ _ t1 (loop _ (L0 _)))
theorem C4{elt iter:Expr}{p0 px pt pos:Pos}{kt}{ifs:List Expr}{f:D->D->G->R (Option D)}{gi:G->R (List D)}(hi:iT uy X (.Tuple [.Name x0 p0,.Name y px] kt pt) iter gi)(hp:zW X x0 y scope ifs elt f)(hN:X.N.Nodup)(eA:X.calm=true)
 (qE:C1 X.N X.env x0 y scope=true:=by rfl) (qF:DX scope X.env=pure (cJ X.env scope.names []):=by rfl) (hs:∀x,xt iter X.env x=pure x:=by intro _;rfl) :
 PF X (.ListComp elt [⟨.Tuple [.Name x0 p0,.Name y px] kt pt,iter,ifs,0⟩] scope pos) (z6d gi f):=by
 refine⟨λpins s σ H F Γ I fo rl hg=>?_⟩
 have c:=P2 qE
 rw[eval_ListComp]
 refine DY (use:=none) rfl hs qF c.kind c.names (aH (hi.run pins s σ H F Γ I fo rl (R.left hg)) (λxv cy cB=>aH cB (λki aA qG=>?_) λ_ _ x=>x.bind _) λ_ _ x=>x.bind _)
 obtain⟨items,it,fp,tn,J,aD,e1,rfl,I2,S2,T,t0,fk,jc⟩:=qG
 have eU:=R.next hg e1
 obtain⟨hl,e2⟩:=R.dz eU
 have aU:cj (z8z f Γ) items [] ≠ .no:=by
  have:=R.next hg e1
  rw[e2] at this;exact this
 obtain⟨total,et⟩:=tG aU
 refine P4 (RR:=λacc C=>DZ (aJ X.prog X.w) X.A _ none _ acc C) hp c hN eA I2 (fo.same S2) (rl.same S2) T t0 fk jc et hl ?_
 intro Dd C xs H' m s' hC dC hn iL jY hD S' ia I' qH
 refine⟨m,qH,λiU qI=>?_⟩
 have jb:∀{b:Addr} {o:Obj},aA.heap.get? b=some o->b≠C:=λe=>cX (b_ (bx e) hC)
 have GO:Inv X pins σ (upd H' Dd (.lst xs)) { s' with heap:=iU }:=I'.turned (t':=s'.toks) (it:=C) (λb o hb e=>qI.extBut b o hb e) (by rw[bP (eC dC)];exact jY) (jC (b_ I2.lt hC)) (.inr (dD I2.sz hC))
  (λx k e=>by obtain⟨v,o,ho,_⟩:=I2.cell x k e;exact jb ho) (λp ck=>jb (I2.pin p ck).1)
 have S3:=iA iL (.lst xs)
 refine⟨total,Dd,xs,_,(R.step e1 _).trans (e2.trans et),GO,rfl,(S2.trans S').trans S3,S2.free hn,dq,ia.same λb o hb=>?_⟩
 obtain⟨z1,z2⟩:=kD hb
 have i_:b≠Dd:=fI z2 iL
 rw[fc λz=>(List.mem_cons.mp z).elim i_ z1,bP i_]
 exact z2
end
section
variable {prog:bw}{w:aY}{A:Around}{E:ae->aq->Prop}{s:aq}
theorem w3q{it t:Addr}{i:Nat}{items:Array ae}{x:ae}{Q:ae->aq->Prop}(hit:s.heap.IsTupleIter it t i)(ht:s.heap.IsTuple t items)(hx:items[i]? = some x)(hQ:∀h',h'.IsTupleIter it t (i+1)->sQ it s.heap h'->Q x { s with heap:=h' }) :
 az (aJ prog w) A (vd (.ref it)) Q E s:=by
 obtain⟨⟨o,ho,hc,hd⟩,⟨ol,uA,_,nl,wF⟩⟩:=ni hit ht
 refine ay (oM (name:=bt "__next__") hit.typeIs JW (j_ JW hit.typeIs a7k (show az _ _ (oV (.ref it) 0>>=_) _ _ s from ay (f_ ho hd (x:=.ref t) rfl (show az _ _ (if (gJ t==lU)=true then _ else _) _ _ s from ?_))) (a7l _)))
 rw[if_neg (by exact λz=>oN z)]
 refine(show az _ _ (oV (.ref it) 1>>=_) _ _ s from ay (f_ ho hd (x:=.int i 0) rfl (show az _ _ (seqItems? (.ref t)>>=_) _ _ s from ay (rC uA wF ?_))))
 simp only[rk,hx]
 refine ay (sY ho hd (by simp) (aP ⟨x,rfl,aP (hQ _ ⟨_,sS _ ho (AY (oU hd _)),(JX ..).trans hc,by rw[oU hd];simp[rawInt]⟩ (rD ..))⟩))
theorem x0i{it t:Addr}{i:Nat}{items:Array ae}{Q:ae->aq->Prop}(hh:A.handled=none)(hit:s.heap.IsTupleIter it t i)(ht:s.heap.IsTuple t items)(hx:items[i]? = none)
 (hE:∀h' e,JY it s.heap h'->(∃o,h'.get? e=some o/\o.cls = .type "StopIteration")->E (.ref e) { s with heap:=h' }):az (aJ prog w) A (vd (.ref it)) Q E s:=by
 obtain⟨⟨o,ho,hc,hd⟩,⟨ol,uA,_,nl,wF⟩⟩:=ni hit ht
 refine ay (oM (name:=bt "__next__") hit.typeIs JW (j_ JW hit.typeIs a7k (show az _ _ (oV (.ref it) 0>>=_) _ _ s from ay (f_ ho hd (x:=.ref t) rfl (show az _ _ (if (gJ t==lU)=true then _ else _) _ _ s from ?_))) (a7l _)))
 rw[if_neg (by exact λz=>oN z)]
 refine(show az _ _ (oV (.ref it) 1>>=_) _ _ s from ay (f_ ho hd (x:=.int i 0) rfl (show az _ _ (seqItems? (.ref t)>>=_) _ _ s from ay (rC uA wF ?_))))
 simp only[rk,hx]
 refine ay (vc (ay (sY ho hd (by simp) (show az _ _ (JZ (.type "StopIteration") []>>=_) _ _ _ from ay ?_))))
 simp only[JZ,newTuple]
 refine ay (lY (ay (m:=J2 _ _) (J3 (a:=lU) (by first | rfl | (simp only[J2];rfl)) (lY ?_ (by size_fits)))) (by size_fits))
 simp only[Tp]
 refine ay (wpAny_handled ?_)
 first | rw[show A.in1.handled=none from hh] | rw[hh]
 exact ay (aP (wpAny_throw (hE _ _ (((rD ..).extBut.push _).push _) ⟨_,c_ _ rfl,rfl⟩)))
def eB(b:Bool)(h:Heap)(it l:Addr)(i:Nat):Prop:=if b=true then h.IsListIter it l i else h.IsTupleIter it l i
def eX(b:Bool)(h:Heap)(l:Addr)(xs:Array ae):Prop:=if b=true then h.IsList l xs else h.IsTuple l xs
theorem eB.mv{b:Bool}{h h':Heap}{it l:Addr}{i:Nat}(st:eB b h it l i)(k:∀o,h.get? it=some o->h'.get? it=some o):eB b h' it l i:=by
 cases b
 ·exact Heap.IsTupleIter.at (h:=h) st k
 ·exact Heap.IsListIter.at (h:=h) st k
theorem eX.mv{b:Bool}{h h':Heap}{l:Addr}{xs:Array ae}(st:eX b h l xs)(k:∀o,h.get? l=some o->h'.get? l=some o):eX b h' l xs:=by
 cases b
 ·obtain⟨o,e,r⟩:=(show h.IsTuple l xs from st);exact⟨o,k o e,r⟩
 ·exact Heap.IsList.at (h:=h) st k
theorem eB.obj{b:Bool}{h:Heap}{it l:Addr}{i:Nat}(st:eB b h it l i):∃o vs,h.get? it=some o/\o.data = .fields vs:=by
 cases b
 ·obtain⟨o,e,c,d⟩:=(show h.IsTupleIter it l i from st);exact⟨o,_,e,d⟩
 ·obtain⟨o,e,c,d⟩:=(show h.IsListIter it l i from st);exact⟨o,_,e,d⟩
theorem G5{b:Bool}{it t:Addr}{i:Nat}{items:Array ae}{x:ae}{Q:ae->aq->Prop}(hit:eB b s.heap it t i)(ht:eX b s.heap t items)(hx:items[i]? = some x)(hQ:∀h',eB b h' it t (i+1)->sQ it s.heap h'->Q x { s with heap:=h' }) :
 az (aJ prog w) A (vd (.ref it)) Q E s:=by
 cases b
 ·exact w3q hit ht hx hQ
 ·exact a7m hit ht hx hQ
theorem P5{b:Bool}{it t:Addr}{i:Nat}{items:Array ae}{Q:ae->aq->Prop}(hh:A.handled=none)(hit:eB b s.heap it t i)(ht:eX b s.heap t items)(hx:items[i]? = none)
 (hE:∀h' e,JY it s.heap h'->(∃o,h'.get? e=some o/\o.cls = .type "StopIteration")->E (.ref e) { s with heap:=h' }):az (aJ prog w) A (vd (.ref it)) Q E s:=by
 cases b
 ·exact x0i hh hit ht hx hE
 ·exact a7n hh hit ht hx hE
end
section
variable {prog:bw}{w:aY}{A:Around}{E:ae->aq->Prop}{s:aq}{b1 b2:Bool}
theorem w2f{z TI TO i1 i2 l1 l2:Addr}{k1 k2:Nat}{xs ys:Array ae}{x y a b:ae}{Q:ae->aq->Prop}(D:xy z TI TO i1 i2 l1 l2)(hz:IsZip s.heap z TI TO .none)(uB:gQ s.heap TI (.ref i1) (.ref i2))(uC:gQ s.heap TO a b)
 (h1:eB b1 s.heap i1 l1 k1) (h2:eB b2 s.heap i2 l2 k2) (oH:eX b1 s.heap l1 xs) (mh:eX b2 s.heap l2 ys) (hx:xs[k1]? = some x) (hy:ys[k2]? = some y)
 (hQ:∀h',IsZip h' z TI TO (rawInt s.heap.objs.size)->gQ h' TO x y->eB b1 h' i1 l1 (k1+1)->eB b2 h' i2 l2 (k2+1)->gQ h' s.heap.objs.size x y->h'.objs.size=s.heap.objs.size+1->(∀c o,c≠z->c≠TO->c≠i1->c≠i2->s.heap.get? c=some o->h'.get? c=some o)->Q (.ref s.heap.objs.size) { s with heap:=h' }) :
 az (aJ prog w) A (gr.«zip.__next__» ⟨[.ref z],[]⟩) (λfin s'=>∃v,fin = .done (.ret v)/\Q v s') E s:=by
 refine(show az _ _ (oV (.ref z) 2>>=_) _ _ _ from ay (f_ hz rfl (x:=.bool false) rfl (show az _ _ (oV (.ref z) 3>>=_) _ _ _ from ay (f_ hz rfl (x:=.ref TI) rfl (ay (rC uB rfl (show az _ _ (A0 (.ref z)>>=_) _ _ _ from ay ?_)))))))
 unfold A0
 refine ay (f_ hz rfl (x:=.none) rfl (aP ?_));simp only[if_true]
 refine ay (vc (ay (f_ hz rfl (x:=.ref TO) rfl (ay (pU hz (by simp) λg1 (C5:IsZip g1 z TI TO .ellipsis) n1=>ay ?_)))))
 simp only[a7o,a7p,a7q,Tq]
 refine ay (ay (J4 (show az _ _ (vd (.ref i1)>>=_) _ _ _ from ay (G5 (h1.mv λo e=>n1.extBut _ _ D.i1z e) (oH.mv λo e=>n1.extBut _ _ D.l1z e) hx λg2 f1 n2=>aP ?_))))
 have zX:gQ g2 TO a b:=n2.extBut _ _ D.TOi1 (n1.extBut _ _ D.TOz uC)
 refine ay (rC zX rfl (ay (Tr zX λg3 (P6:gQ g3 TO x b) n3=>ay (J_ (aP ?_)))))
 refine ay (ay (J4 (show az _ _ (vd (.ref i2)>>=_) _ _ _ from ay (G5 (h2.mv λo e=>n3.extBut _ _ D.TOi2.symm (n2.extBut _ _ D.i12.symm (n1.extBut _ _ D.i2z e))) (mh.mv λo e=>n3.extBut _ _ D.l2TO (n2.extBut _ _ D.l2i1 (n1.extBut _ _ D.l2z e))) hy λg4 f2 n4=>aP ?_))))
 have P7:gQ g4 TO x b:=n4.extBut _ _ D.TOi2 P6
 refine ay (rC P7 rfl (ay (Tr P7 λg5 (P8:gQ g5 TO x y) n5=>ay (J_ (aP (aP (ay (rC P8 rfl (ay (Ts ?_))))))))))
 have sz:g5.objs.size=s.heap.objs.size:=by rw[n5.1,n4.1,n3.1,n2.1,n1.1]
 have P9:IsZip g5 z TI TO .ellipsis:=n5.extBut _ _ D.TOz.symm (n4.extBut _ _ D.i2z.symm (n3.extBut _ _ D.TOz.symm (n2.extBut _ _ D.i1z.symm C5)))
 have kp:∀c o,c≠z->c≠TO->c≠i1->c≠i2->s.heap.get? c=some o->g5.get? c=some o:=λc o c1 c2 c3 c4 e=>n5.extBut _ _ c2 (n4.extBut _ _ c4 (n3.extBut _ _ c2 (n2.extBut _ _ c3 (n1.extBut _ _ c1 e))))
 have f15:eB b1 g5 i1 l1 (k1+1):=f1.mv λo e=>n5.extBut _ _ D.TOi1.symm (n4.extBut _ _ D.i12 (n3.extBut _ _ D.TOi1.symm e))
 have f25:eB b2 g5 i2 l2 (k2+1):=f2.mv λo e=>n5.extBut _ _ D.TOi2.symm e
 have P_:z<g5.objs.size:=bx P9
 refine(show az _ _ (Ka (.ref z) (.ref g5.objs.size)>>=_) _ _ _ from ay ?_)
 unfold Ka
 have hz6:IsZip (g5.push { cls:=.type "tuple",data:=.seq #[x,y] }) z TI TO .ellipsis:=bB _ P9
 refine ay (pU hz6 (by simp) λg7 (hz7:IsZip g7 z TI TO (rawInt g5.objs.size)) n7=>pU hz7 (by simp) λg8 (Qa:IsZip g8 z TI TO (rawInt g5.objs.size)) n8=>?_)
 have up:∀c o,c≠z->g5.get? c=some o->g8.get? c=some o:=λc o c1 e=>n8.extBut _ _ c1 (n7.extBut _ _ c1 (bB _ e))
 have t8:gQ g8 g5.objs.size x y:=n8.extBut _ _ (jC P_) (n7.extBut _ _ (jC P_) (c_ _ rfl))
 have s8:g8.objs.size=g5.objs.size+1:=by rw[n8.1,n7.1,fG]
 rw[sz] at Qa t8 s8
 refine aP ⟨_,rfl,(show Q (.ref g5.objs.size) _ from ?_)⟩
 rw[sz]
 exact hQ g8 Qa (up _ _ D.TOz P8) (f15.mv λo e=>up _ o D.i1z e) (f25.mv λo e=>up _ o D.i2z e) t8 s8 λc o c1 c2 c3 c4 e=>up c o c1 (kp c o c1 c2 c3 c4 e)
theorem w4y{z TI TO i1 i2 l1 l2:Addr}{k1 k2:Nat}{xs ys:Array ae}{a b:ae}{Q:Fin->aq->Prop}(hh:A.handled=none)(D:xy z TI TO i1 i2 l1 l2)(hz:IsZip s.heap z TI TO .none)(uB:gQ s.heap TI (.ref i1) (.ref i2))(uC:gQ s.heap TO a b)
 (h1:eB b1 s.heap i1 l1 k1) (h2:eB b2 s.heap i2 l2 k2) (oH:eX b1 s.heap l1 xs) (mh:eX b2 s.heap l2 ys) (uD:xs[k1]? = none∨ys[k2]? = none)
 (hE:∀h' e,(∀c o,c≠z->c≠TO->c≠i1->c≠i2->s.heap.get? c=some o->h'.get? c=some o)->(∃o,h'.get? e=some o/\o.cls = .type "StopIteration")->E (.ref e) { s with heap:=h' }) :
 az (aJ prog w) A (gr.«zip.__next__» ⟨[.ref z],[]⟩) Q E s:=by
 refine(show az _ _ (oV (.ref z) 2>>=_) _ _ _ from ay (f_ hz rfl (x:=.bool false) rfl (show az _ _ (oV (.ref z) 3>>=_) _ _ _ from ay (f_ hz rfl (x:=.ref TI) rfl (ay (rC uB rfl (show az _ _ (A0 (.ref z)>>=_) _ _ _ from ay ?_)))))))
 unfold A0
 refine ay (f_ hz rfl (x:=.none) rfl (aP ?_));simp only[if_true]
 refine ay (vc (ay (f_ hz rfl (x:=.ref TO) rfl (ay (pU hz (by simp) λg1 (C5:IsZip g1 z TI TO .ellipsis) n1=>ay ?_)))))
 simp only[a7o,a7p,a7q,Tq]
 have apart:∀{g:Heap} {e:Addr} {oe:Obj},IsZip g z TI TO .ellipsis->g.get? e=some oe->oe.cls = .type "StopIteration"->e≠z:=λq1 q2 q3 q4=>by subst q4;rw[q1] at q2;cases q2;simp at q3
 refine ay (ay (J4 (show az _ _ (vd (.ref i1)>>=_) _ _ _ from ay ?_)))
 cases hx:xs[k1]? with
 | none =>
   refine P5 hh (h1.mv λo e=>n1.extBut _ _ D.i1z e) (oH.mv λo e=>n1.extBut _ _ D.l1z e) hx λg2 e n2 ⟨oe,zY,zZ⟩=>?_
   have Gy:IsZip g2 z TI TO .ellipsis:=n2 _ _ D.i1z.symm C5
   exact pU Gy (by simp) λg3 _ n3=>hE g3 e (λc o c1 _ c3 _ q=>n3.extBut _ _ c1 (n2 _ _ c3 (n1.extBut _ _ c1 q))) ⟨oe,n3.extBut _ _ (apart Gy zY zZ) zY,zZ⟩
 | some x =>
   have hy:ys[k2]? = none:=uD.resolve_left λq=>by rw[hx] at q;cases q
   refine G5 (h1.mv λo e=>n1.extBut _ _ D.i1z e) (oH.mv λo e=>n1.extBut _ _ D.l1z e) hx λg2 f1 n2=>aP ?_
   have zX:gQ g2 TO a b:=n2.extBut _ _ D.TOi1 (n1.extBut _ _ D.TOz uC)
   refine ay (rC zX rfl (ay (Tr zX λg3 P6 n3=>ay (J_ (aP ?_)))))
   refine ay (ay (J4 (show az _ _ (vd (.ref i2)>>=_) _ _ _ from ay (P5 hh (h2.mv λo e=>n3.extBut _ _ D.TOi2.symm (n2.extBut _ _ D.i12.symm (n1.extBut _ _ D.i2z e))) (mh.mv λo e=>n3.extBut _ _ D.l2TO (n2.extBut _ _ D.l2i1 (n1.extBut _ _ D.l2z e))) hy λg4 e n4 ⟨oe,zY,zZ⟩=>?_))))
   have Qb:IsZip g4 z TI TO .ellipsis:=n4 _ _ D.i2z.symm (n3.extBut _ _ D.TOz.symm (n2.extBut _ _ D.i1z.symm C5))
   exact pU Qb (by simp) λg5 _ n5=>hE g5 e (λc o c1 c2 c3 c4 q=>n5.extBut _ _ c1 (n4 _ _ c4 (n3.extBut _ _ c2 (n2.extBut _ _ c3 (n1.extBut _ _ c1 q))))) ⟨oe,n5.extBut _ _ (apart Qb zY zZ) zY,zZ⟩
theorem w2e{z TI TO i1 i2 l1 l2:Addr}{k1 k2:Nat}{xs ys:Array ae}{x y a b:ae}{Q:Option ae->aq->Prop}(D:xy z TI TO i1 i2 l1 l2)(hz:IsZip s.heap z TI TO .none)(uB:gQ s.heap TI (.ref i1) (.ref i2))(uC:gQ s.heap TO a b)
 (h1:eB b1 s.heap i1 l1 k1) (h2:eB b2 s.heap i2 l2 k2) (oH:eX b1 s.heap l1 xs) (mh:eX b2 s.heap l2 ys) (hx:xs[k1]? = some x) (hy:ys[k2]? = some y)
 (hQ:∀h',IsZip h' z TI TO (rawInt s.heap.objs.size)->gQ h' TO x y->eB b1 h' i1 l1 (k1+1)->eB b2 h' i2 l2 (k2+1)->gQ h' s.heap.objs.size x y->h'.objs.size=s.heap.objs.size+1->(∀c o,c≠z->c≠TO->c≠i1->c≠i2->s.heap.get? c=some o->h'.get? c=some o)->Q (some (.ref s.heap.objs.size)) { s with heap:=h' }) :
 az (aJ prog w) A (hG (.ref z)) Q E s:=by
 have hT:s.TypeIs (.ref z) "zip":=⟨_,hz,rfl⟩
 unfold hG
 exact ay (ve (oM (name:=bt "__next__") hT Kb (j_ Kb hT a7r (w2f D hz uB uC h1 h2 oH mh hx hy λh' a1 a2 a3 a4 a5 a6 a7=>aP (hQ h' a1 a2 a3 a4 a5 a6 a7)) (a7s _))))
theorem w2d{z TI TO i1 i2 l1 l2:Addr}{k1 k2:Nat}{xs ys:Array ae}{a b:ae}{Q:Option ae->aq->Prop}(hh:A.handled=none)(D:xy z TI TO i1 i2 l1 l2)(hz:IsZip s.heap z TI TO .none)(uB:gQ s.heap TI (.ref i1) (.ref i2))(uC:gQ s.heap TO a b)
 (h1:eB b1 s.heap i1 l1 k1) (h2:eB b2 s.heap i2 l2 k2) (oH:eX b1 s.heap l1 xs) (mh:eX b2 s.heap l2 ys) (uD:xs[k1]? = none∨ys[k2]? = none)
 (hQ:∀h',(∀c o,c≠z->c≠TO->c≠i1->c≠i2->s.heap.get? c=some o->h'.get? c=some o)->Q none { s with heap:=h' }):az (aJ prog w) A (hG (.ref z)) Q E s:=by
 have hT:s.TypeIs (.ref z) "zip":=⟨_,hz,rfl⟩
 unfold hG
 refine ay (ve (oM (name:=bt "__next__") hT Kb (j_ Kb hT a7r (w4y hh D hz uB uC h1 h2 oH mh uD λh' e hk ⟨o,ho,hc⟩=>?_) (a7s _))))
 exact ay (Kc (T:="StopIteration") (b:=true) ⟨o,ho,hc⟩ Tt (aP (hQ _ hk)))
end
def G6(b:Bool):String:=if b=true then "list_iterator" else "tuple_iterator"
abbrev zA (b:Bool) (h:Heap) (l:Addr):Heap:=h.push { cls:=.type (G6 b),data:=.fields #[.ref l,.int 0 0] }
abbrev zB (b1 b2:Bool) (h:Heap) (l1 l2:Addr):Heap:=zA b2 (zA b1 h l1) l2
abbrev zC (b1 b2:Bool) (h:Heap) (l1 l2:Addr):Heap:=(zB b1 b2 h l1 l2).push { cls:=.type "tuple",data:=.seq #[.ref h.objs.size,.ref (zA b1 h l1).objs.size] }
abbrev zE (b1 b2:Bool) (h:Heap) (l1 l2:Addr):Heap:=(zC b1 b2 h l1 l2).push { cls:=.type "tuple",data:=.seq #[.none,.none] }
abbrev zF (b1 b2:Bool) (h:Heap) (l1 l2:Addr):Heap:=(zE b1 b2 h l1 l2).push { cls:=.type "zip",data:=.fields #[.none,.bool false,.bool false,.ref (zB b1 b2 h l1 l2).objs.size,.ref (zC b1 b2 h l1 l2).objs.size] }
theorem x9j(b1 b2:Bool)(l1 l2:Addr)(xs ys:Array ae) :
 AR (gr.«zip.__new__» ⟨[.type "zip",.ref l1,.ref l2],[]⟩) (λ_ R s=>eX b1 s.heap l1 xs/\eX b2 s.heap l2 ys/\R (.ok (.ret (.ref (zE b1 b2 s.heap l1 l2).objs.size))) { s with heap:=zF b1 b2 s.heap l1 l2 }) :=
 .of_wp λprog w A R s h=>by
  obtain⟨hp,g,d,tk,os⟩:=s
  obtain⟨q1,q2,h⟩:=h
  have C6:=sub_zip
  cases b1<;>cases b2
  ·have e1:Kd (sZ ⟨hp,g,d,tk,os⟩) l1 xs:=q1
   have e2:Kd (sZ ⟨hp.push { cls:=.type "tuple_iterator",data:=.fields #[.ref l1,.int 0 0] },g,d,tk,os⟩) l2 ys:=(show eX false _ l2 ys from eX.mv q2 λo e=>bB _ e)
   wp_walk using xq e1,xq e2
   exact⟨_,rfl,h⟩
  ·have e1:Kd (sZ ⟨hp,g,d,tk,os⟩) l1 xs:=q1
   have e2:D2 (sZ ⟨hp.push { cls:=.type "tuple_iterator",data:=.fields #[.ref l1,.int 0 0] },g,d,tk,os⟩) l2 ys:=(show eX true _ l2 ys from eX.mv q2 λo e=>bB _ e)
   wp_walk using xq e1,rq e2
   exact⟨_,rfl,h⟩
  ·have e1:D2 (sZ ⟨hp,g,d,tk,os⟩) l1 xs:=q1
   have e2:Kd (sZ ⟨hp.push { cls:=.type "list_iterator",data:=.fields #[.ref l1,.int 0 0] },g,d,tk,os⟩) l2 ys:=(show eX false _ l2 ys from eX.mv q2 λo e=>bB _ e)
   wp_walk using rq e1,xq e2
   exact⟨_,rfl,h⟩
  ·have e1:D2 (sZ ⟨hp,g,d,tk,os⟩) l1 xs:=q1
   have e2:D2 (sZ ⟨hp.push { cls:=.type "list_iterator",data:=.fields #[.ref l1,.int 0 0] },g,d,tk,os⟩) l2 ys:=(show eX true _ l2 ys from eX.mv q2 λo e=>bB _ e)
   wp_walk using rq e1,rq e2
   exact⟨_,rfl,h⟩
section
variable {prog:bw}{w:aY}{A:Around}{E:ae->aq->Prop}{s:aq}{b1 b2:Bool}
theorem w4v{l1 l2:Addr}{xs ys:Array ae}{Q:ae->aq->Prop}(q1:eX b1 s.heap l1 xs)(q2:eX b2 s.heap l2 ys)
 (h:∀h',IsZip h' (s.heap.objs.size+4) (s.heap.objs.size+2) (s.heap.objs.size+3) .none->gQ h' (s.heap.objs.size+2) (.ref s.heap.objs.size) (.ref (s.heap.objs.size+1))->gQ h' (s.heap.objs.size+3) .none .none->eB b1 h' s.heap.objs.size l1 0->eB b2 h' (s.heap.objs.size+1) l2 0->h'.objs.size=s.heap.objs.size+5 ->
   (∀c o,s.heap.get? c=some o->h'.get? c=some o)->Q (.ref (s.heap.objs.size+4)) { s with heap:=h' }):az (aJ prog w) A (call (.type "zip") [.ref l1,.ref l2]) Q E s:=by
 refine callType_new F.called_zip (by decide) (F.typeCall_zip_2 _ _) (F.newCall_zip_2 _ _) (λobj=>F.args_object_init_3 obj _ _) F.entry_zip_new (x9j b1 b2 l1 l2 xs ys) ⟨q1,q2,?_⟩
 have y1:(zA b1 s.heap l1).objs.size=s.heap.objs.size+1:=fG ..
 have y2:(zB b1 b2 s.heap l1 l2).objs.size=s.heap.objs.size+2:=by rw[fG,y1]
 have y3:(zC b1 b2 s.heap l1 l2).objs.size=s.heap.objs.size+3:=by rw[fG,y2]
 have y4:(zE b1 b2 s.heap l1 l2).objs.size=s.heap.objs.size+4:=by rw[fG,y3]
 have y5:(zF b1 b2 s.heap l1 l2).objs.size=s.heap.objs.size+5:=by rw[fG,y4]
 have u5:(zF b1 b2 s.heap l1 l2).get? (zE b1 b2 s.heap l1 l2).objs.size=some _:=c_ _ rfl
 have u4:(zF b1 b2 s.heap l1 l2).get? (zC b1 b2 s.heap l1 l2).objs.size=some _:=bB _ (c_ _ rfl)
 have u3:(zF b1 b2 s.heap l1 l2).get? (zB b1 b2 s.heap l1 l2).objs.size=some _:=bB _ (bB _ (c_ _ rfl))
 have u2:(zF b1 b2 s.heap l1 l2).get? (zA b1 s.heap l1).objs.size=some { cls:=.type (G6 b2),data:=.fields #[.ref l2,.int 0 0] }:=bB _ (bB _ (bB _ (c_ _ rfl)))
 have u1:(zF b1 b2 s.heap l1 l2).get? s.heap.objs.size=some { cls:=.type (G6 b1),data:=.fields #[.ref l1,.int 0 0] }:=bB _ (bB _ (bB _ (bB _ (c_ _ rfl))))
 show _/\_
 rw[y2,y3,y4] at u5
 rw[y1,y2] at u3
 rw[y3] at u4
 rw[y1] at u2
 rw[y4]
 have i1:eB b1 (zF b1 b2 s.heap l1 l2) s.heap.objs.size l1 0:=by
  cases b1
  ·exact⟨_,u1,rfl,rfl⟩
  ·exact⟨_,u1,rfl,rfl⟩
 have i2:eB b2 (zF b1 b2 s.heap l1 l2) (s.heap.objs.size+1) l2 0:=by
  cases b2
  ·exact⟨_,u2,rfl,rfl⟩
  ·exact⟨_,u2,rfl,rfl⟩
 exact⟨⟨_,u5,rfl⟩,h _ u5 u3 u4 i1 i2 y5 λc o x=>bB _ (bB _ (bB _ (bB _ (bB _ x))))⟩
end
section
variable {X:Cx}{pins:List (Addr×Obj)}{σ:St}{H:Hp}{s:aq}{h':Heap}
theorem G7{ch:List Addr}{t':Nat}(I:Inv X pins σ H s)(hf:∀b∈ch,eD X pins H b)(k:∀b o,b ∉ ch->s.heap.get? b=some o->h'.get? b=some o):Inv X pins σ H { s with heap:=h',toks:=t' }:=by
 have rK:∀b u,H b=some u->b ∉ ch:=λb u e z=>by rw[(hf b z).1] at e;cases e
 have nL:X.env.locals ∉ ch:=λz=>(hf _ z).2.1 rfl
 refine I.step (g':=s.gens) (d':=s.drawn) (ch:=ch) (λb hb=>?_) (λb o _ _ hc e _=>k b o hc e) (λb o _ _ hc e _=>⟨o.slots,k b o hc e⟩) (λ_ _ _ _ n=>n) (λb o hc e=>⟨o,k b o hc e⟩) (λ_ _ e=>e) (λ_ _ _ e=>e) (λb ps e=>⟨#[],by rw[e];simp⟩) (λm hm=>?_) (λb u e=>?_) I.bare
 ·obtain⟨f0,f1,f2,f3,f4,f5⟩:=hf b hb
  exact⟨f3.imp_right λz=>wX z,f1,f4,f5⟩
 ·obtain⟨o,es,ep,ho,r⟩:=hm
  exact⟨o,es,ep,k _ o nL ho,r⟩
 ·refine(I.aQ b u e).nu (λc v hc q=>k c v ?_ q) (λ_ q=>q) λ_ _ q=>q
  rcases hc with z | z
  ·rw[z];exact rK b u e
  ·exact rK c _ z
theorem G8{ch:List Addr}{t':Nat}{T:Addr}{xs:List V}{its:List ae}(I:Inv X pins σ H s)(hf:∀b∈ch,eD X pins H b)(k:∀b o,b ∉ ch->s.heap.get? b=some o->h'.get? b=some o)(hT:s.heap.objs.size<=T)(hz:xs.length<=cq)(rv:Vals xs its)(ht:qX h' T its.toArray):Inv X pins σ (upd H T (.tup xs)) { s with heap:=h',toks:=t' }:=by
 have rK:∀b u,H b=some u->b ∉ ch:=λb u e z=>by rw[(hf b z).1] at e;cases e
 have nL:X.env.locals ∉ ch:=λz=>(hf _ z).2.1 rfl
 have hn:H T=none:=I.aQ.fresh hT
 have neT:∀b o,s.heap.get? b=some o->b≠T:=λb o e=>cX (b_ (bx e) hT)
 have nT:∀b u,H b=some u->b≠T:=λb u e=>fI e hn
 refine I.step (g':=s.gens) (d':=s.drawn) (ch:=ch) (λb hb=>?_) (λb o _ _ hc e _=>k b o hc e) (λb o _ _ hc e _=>⟨o.slots,k b o hc e⟩) (λb o _ e n=>by rw[bP (neT b o e)];exact n) (λb o hc e=>⟨o,k b o hc e⟩)
  (λb u e=>by rw[bP (nT b _ e)];exact e) (λb o u e=>by rw[bP (nT b _ e)];exact e) (λb ps e=>⟨#[],by rw[bP (nT b _ e),e];simp⟩) (λm hm=>?_) (λb u e=>?_) I.bare
 ·obtain⟨f0,f1,f2,f3,f4,f5⟩:=hf b hb
  exact⟨f3.imp_right λz=>wX z,f1,f4,f5⟩
 ·obtain⟨o,es,ep,ho,r⟩:=hm
  exact⟨o,es,ep,k _ o nL ho,r⟩
 ·by_cases hb:b=T
  ·subst hb
   rw[dq] at e
   cases e
   exact⟨hz,its,rv,ht⟩
  ·rw[bP hb] at e
   refine(I.aQ b u e).nu (λc v hc q=>k c v ?_ q) (λc q=>by rw[bP (nT c _ q)];exact q) λc u' q=>by rw[bP (nT c _ q)];exact q
   rcases hc with z | z
   ·rw[z];exact rK b u e
   ·exact rK c _ z
def Sq(b:Bool)(K:aK)(H:Hp)(l:Addr)(xs:List V):Prop:=if b=true then bW K H l xs else cE K H l xs
theorem wG{b:Bool}{l:Addr}{xs:List V}(I:Inv X pins σ H s)(h:Sq b X.K H l xs):∃its:List ae,Vals xs its/\eX b s.heap l its.toArray/\xs.length<=cq:=by
 cases b
 ·obtain⟨its,rv,p,hz⟩:=I.tuple h
  exact⟨its,rv,(show s.heap.IsTuple l its.toArray from p),hz⟩
 ·obtain⟨its,rv,p,hz⟩:=I.list h
  exact⟨its,rv,p.isList,hz⟩
theorem Qc{b:Bool}{l:Addr}{xs ys:List V}(I:Inv X pins σ H s)(h:Sq b X.K H l xs)(h':Sq b X.K H l ys):xs=ys:=by
 cases b
 ·exact I.KN h h'
 ·exact I.Bc h h'
theorem Sq.same{b:Bool}{K:aK}{H H':Hp}{l:Addr}{xs:List V}(h:Sq b K H l xs)(S:aW H H'):Sq b K H' l xs:=by
 cases b
 ·exact wc S h
 ·exact S.seq h
end
def G9(b1 b2:Bool)(K:aK)(l1 l2:Addr):It :=
 ⟨λi H=>∃xs x ys y,Sq b1 K H l1 xs/\xs[i]? = some x/\Sq b2 K H l2 ys/\ys[i]? = some y,
  λi H v H'=>∃T x y,v = .ref T/\H T=none/\H'=upd H T (.tup [x,y])/\(∀xs,Sq b1 K H l1 xs->xs[i]? = some x)/\∀ys,Sq b2 K H l2 ys->ys[i]? = some y,
  λi H=>∃xs ys,Sq b1 K H l1 xs/\Sq b2 K H l2 ys/\(xs.length<=i∨ys.length<=i)⟩
theorem x8k{P:bw}{w:aY}{K:aK}{b1 b2:Bool}{elts:List Expr}{kt}{pt:Pos}{z TI TO i1 i2 l1 l2:Addr}(D:xy z TI TO i1 i2 l1 l2):Turn P w K (.Tuple elts kt pt) (G9 b1 b2 K l1 l2) [z,TI,TO,i1,i2] z
 (λi h=>IsZip h z TI TO .none/\gQ h TI (.ref i1) (.ref i2)/\(∃a b,gQ h TO a b)/\eB b1 h i1 l1 i/\eB b2 h i2 l2 i) where
 mem:=by simp
 obj:=λi h ⟨q1,q2,⟨a,b,q3⟩,q4,q5⟩ c hc=>by
  simp only[fh,gR,or_false] at hc
  rcases hc with rfl | rfl | rfl | rfl | rfl
  ·exact⟨_,q1,λv z=>nomatch z⟩
  ·exact⟨_,q2,λv z=>nomatch z⟩
  ·exact⟨_,q3,λv z=>nomatch z⟩
  ·obtain⟨o,vs,e,d⟩:=q4.obj;exact⟨o,e,λv z=>by rw[d] at z;cases z⟩
  ·obtain⟨o,vs,e,d⟩:=q5.obj;exact⟨o,e,λv z=>by rw[d] at z;cases z⟩
 keep:=λi h h' ⟨q1,q2,⟨a,b,q3⟩,q4,q5⟩ k=>⟨k z (by simp) _ q1,k TI (by simp) _ q2,⟨a,b,k TO (by simp) _ q3⟩,q4.mv λo e=>k i1 (by simp) o e,q5.mv λo e=>k i2 (by simp) o e⟩
 item:=by
  intro X hP hw hK hc i pins s σ H E I hf ⟨q1,q2,⟨a,b,q3⟩,q4,q5⟩ ⟨xs,x,ys,y,s1,ex,s2,ey⟩
  subst hP hw hK
  obtain⟨Qd,C7,o1,z1⟩:=wG I s1
  obtain⟨kU,C8,o2,z2⟩:=wG I s2
  obtain⟨u,hu,ru⟩:=C7.get ex
  obtain⟨v,hv,rv⟩:=C8.get ey
  refine w2e D q1 q2 q3 q4 q5 o1 o2 (x:=u) (y:=v) (by simpa using hu) (by simpa using hv) λh' a1 a2 a3 a4 a5 a6 a7=>⟨_,rfl,?_⟩
  refine wpAny_letOwnedTupleGo_zip (s:={ s with heap:=h' }) a1 λiU c1 c2=>?_
  have Tz:s.heap.objs.size≠z:=jC (bx q1)
  have kk:∀c o,c ∉ [z,TI,TO,i1,i2]->s.heap.get? c=some o->iU.get? c=some o:=λc o hc e=>by
   simp only[fh,gR,or_false,not_or] at hc
   exact c2.extBut _ _ hc.1 (a7 c o hc.1 hc.2.2.1 hc.2.2.2.1 hc.2.2.2.2 e)
  have tT:qX iU s.heap.objs.size [u,v].toArray:=⟨_,c2.extBut _ _ Tz a5,rfl,_,rfl⟩
  have I1:=G8 (t':=s.toks) (xs:=[x,y]) I hf kk (bA _) (by rw[lV];exact(by decide:(2:Nat)<=16777216)) (.cons ru (.cons rv .nil)) tT
  refine⟨.ref s.heap.objs.size,_,I1,rfl,⟨_,x,y,rfl,I.aQ.fresh (bA _),rfl,λxs' q=>by rw[Qc I q s1];exact ex,λys' q=>by rw[Qc I q s2];exact ey⟩,?_,λc hc=>?_⟩
  ·exact⟨c1,c2.extBut _ _ D.TIz (a7 _ _ D.TIz D.TITO D.TIi1 D.TIi2 q2),⟨_,_,c2.extBut _ _ D.TOz a2⟩,a3.mv λo e=>c2.extBut _ _ D.i1z e,a4.mv λo e=>c2.extBut _ _ D.i2z e⟩
  ·rw[bP]
   ·exact(hf c hc).1
   ·intro e
    have ex:∃o,s.heap.get? c=some o:=by
     simp only[fh,gR,or_false] at hc
     rcases hc with rfl | rfl | rfl | rfl | rfl
     ·exact⟨_,q1⟩
     ·exact⟨_,q2⟩
     ·exact⟨_,q3⟩
     ·obtain⟨o,_,e,_⟩:=q4.obj;exact⟨o,e⟩
     ·obtain⟨o,_,e,_⟩:=q5.obj;exact⟨o,e⟩
    obtain⟨o,eo⟩:=ex
    exact absurd (bx eo) (by rw[e];exact dS _)
 done:=by
  intro X hP hw hK hc i pins s σ H E I hf ⟨q1,q2,⟨a,b,q3⟩,q4,q5⟩ ⟨xs,ys,s1,s2,uD⟩
  subst hP hw hK
  obtain⟨Qd,C7,o1,z1⟩:=wG I s1
  obtain⟨kU,C8,o2,z2⟩:=wG I s2
  have n1:=C7.length
  have n2:=C8.length
  refine w2d (I.ok.hd hc) D q1 q2 q3 q4 q5 o1 o2 (uD.imp (λz=>by simp;lia) λz=>by simp;lia) λh' kk=>⟨rfl,G7 (t':=s.toks) I hf λc o hc e=>?_⟩
  simp only[fh,gR,or_false,not_or] at hc
  exact kk c o hc.1 hc.2.2.1 hc.2.2.2.1 hc.2.2.2.2 e
 self:=λ_ _ _ _ _ st h=>a7t st.1 h
theorem Qe:∀{xs ys:List D} {i:Nat} {x y:D},xs[i]? = some x->ys[i]? = some y->(iN xs ys)[i]? = some (.tup [x,y])
 | [],_,_,_,_,h,_=>by simp at h
 | _::_,[],_,_,_,_,h=>by simp at h
 | a::xs,b::ys,0,x,y,h1,h2=>by simp at h1 h2;subst h1 h2;simp[iN]
 | a::xs,b::ys,i+1,x,y,h1,h2=>by simp only[iN,a7u] at *;exact Qe h1 h2
theorem Qf:∀xs ys:List D,(iN xs ys).length=min xs.length ys.length
 | [],_=>by simp[iN]
 | _::_,[]=>by simp[iN]
 | a::xs,b::ys=>by simp[iN,Qf xs ys]
theorem w4f{b1 b2:Bool}{K:aK}{H:Hp}{F:List Addr}{l1 l2:Addr}{xs ys:List V}{ds es:List D}(fo:cn H F)(h1:Sq b1 K H l1 xs)(h2:Sq b2 K H l2 ys)(i1:aC K (aS F H) ds xs)(i2:aC K (aS F H) es ys):uy K H F (G9 b1 b2 K l1 l2) (iN ds es):=λH1 S=>by
 have q1:=h1.same S
 have q2:=h2.same S
 have n1:=i1.length
 have n2:=i2.length
 have nz:=Qf ds es
 refine⟨λi hi=>⟨⟨xs,xs[i]'(by lia),ys,ys[i]'(by lia),q1,cD (by lia),q2,cD (by lia)⟩,λv H2 y=>?_⟩,⟨xs,ys,q1,q2,by lia⟩⟩
 obtain⟨T,x,y',rfl,hT,rfl,e1,e2⟩:=y
 obtain⟨d,ed,iv⟩:=i1.uh (e1 xs q1)
 obtain⟨d',Cc,GU⟩:=i2.uh (e2 ys q2)
 have S2:=iA hT (.tup [x,y'])
 exact⟨S2,d,d',T,x,y',Qe ed Cc,rfl,cE.of dq,iv.same (gG (S.trans S2)),GU.same (gG (S.trans S2))⟩
theorem x8g{n l1 l2:Nat}(h1:l1<n)(h2:l2<n):xy (n+4) (n+2) (n+3) n (n+1) l1 l2:=by
 constructor<;>(show @Ne Nat _ _;lia)
theorem w0r:qY ("zip":Str)=some (.type "zip"):=by decide +kernel
section
variable {X:Cx}{a b:Expr}{ga gb:G->R D}
theorem Qg{F:List Addr}{H:Hp}{d:D}{v:V}{ds:List D}(fo:cn H F)(i:Is X.K H d v)(e:mx d = .ok ds)(n:D.bQ ds=true):∃b l xs,v = .ref l/\Sq b X.K H l xs/\aC X.K (aS F H) ds xs:=by
 cases d with
 | tup es =>
   cases e
   obtain⟨l,xs,rfl,h1,h2⟩:=Is.eQ.mp i
   exact⟨false,l,xs,rfl,h1,aC.aS fo _ xs n h2⟩
 | lst es =>
   cases e
   obtain⟨l,xs,rfl,h1,h2⟩:=Is.fb.mp i
   exact⟨true,l,xs,rfl,h1,aC.aS fo _ xs n h2⟩
 | _=>cases e
theorem G_{elts:List Expr}{kt}{pt p pos:Pos}(ha:PD X a ga)(hb:PD X b gb)(hm:X.mg "zip"=none)(hg:Gl X "zip":=by rfl)(hs:bR [a,b] X.env=[(false,eval a X.env),(false,eval b X.env)]:=by rfl)(oi:bR [b] X.env=[(false,eval b X.env)]:=by rfl) :
 iT uy X (.Tuple elts kt pt) (.Call (.Name "zip" p) [a,b] [] pos) (gZip ga gb):=by
 refine⟨λpins s σ H F Γ I fo rl cM=>?_⟩
 refine DT (nB I hg hm w0r (u_ ?_ (by rw[hs,oi]) (by rw[oi];rfl)))
 rw[hs]
 show az _ _ (h_ ((false,eval a X.env)::de pos [(false,eval b X.env)])) _ _ s
 refine jk (aH (ha.run pins s σ H F Γ I fo rl (R.left cM)) (λu s1 ⟨d,v,H1,e1,I1,r1,S1,i1⟩=>?_) λ_ _ x=>x.bind _)
 have a9:=R.next cM e1
 show az _ _ (h_ ((false,eval b X.env)::de pos [])) _ _ s1
 refine jk (aH (hb.run pins s1 σ H1 F Γ I1 (fo.same S1) (rl.same S1) (R.left a9)) (λu2 s2 ⟨d2,v2,H2,e2,I2,r2,S2,i2⟩=>l9 ?_) λ_ _ x=>cb.later e1 S1 (x.bind _))
 have dg:=R.next a9 e2
 obtain⟨ds,ed⟩:∃ds,mx d = .ok ds:=by
  cases q:mx d with
  | ok ds=>exact⟨ds,rfl⟩
  | no=>exact absurd (by show(mx d>>=_)=R.no;rw[q];rfl) dg
  | er c=>cases d<;>cases q
 have oF:=R.next dg ed
 obtain⟨es,ee⟩:∃es,mx d2 = .ok es:=by
  cases q:mx d2 with
  | ok ds=>exact⟨ds,rfl⟩
  | no=>exact absurd (by show(mx d2>>=_)=R.no;rw[q];rfl) oF
  | er c=>cases d2<;>cases q
 have hg4:=R.next oF ee
 obtain⟨⟨n1,n2⟩,e5⟩:=R.dz hg4
 have Ha:=(fo.same S1).same S2
 obtain⟨b1,l1,xs,rfl,q1,j1⟩:=Qg (X:=X) Ha (i1.same S2) ed n1
 obtain⟨b2,l2,ys,rfl,q2,j2⟩:=Qg (X:=X) Ha i2 ee n2
 cases (show u=gJ l1 from r1)
 cases (show u2=gJ l2 from r2)
 obtain⟨Qd,C7,o1,z1⟩:=wG I2 q1
 obtain⟨kU,C8,o2,z2⟩:=wG I2 q2
 have lt:∀{b:Bool} {l:Addr} {its:Array ae},eX b s2.heap l its->l<s2.heap.objs.size:=λ{b l its} o=>by
  cases b
  ·obtain⟨o',e,_⟩:=(show s2.heap.IsTuple l its from o);exact bx e
  ·obtain⟨o',e,_⟩:=(show s2.heap.IsList l its from o);exact bx e
 have m1:=lt o1
 have m2:=lt o2
 refine w4v o1 o2 λh' a1 a2 a3 a4 a5 a6 a7=>?_
 refine a7t (s:={ s2 with heap:=h' }) a1 ?_
 have I3:Inv X pins σ H2 { s2 with heap:=h' }:=I2.kept (t':=s2.toks) a7
 have D:xy (s2.heap.objs.size+4) (s2.heap.objs.size+2) (s2.heap.objs.size+3) s2.heap.objs.size (s2.heap.objs.size+1) l1 l2:=x8g m1 m2
 refine⟨iN ds es,s2.heap.objs.size+4,_,_,G9 b1 b2 X.K l1 l2,H2,(R.step e1 _).trans ((R.step e2 _).trans ((R.step ed _).trans ((R.step ee _).trans e5))),rfl,I3,S1.trans S2,x8k D,⟨a1,a2,⟨_,_,a3⟩,a4,a5⟩,λc hc=>?_,w4f Ha q1 q2 j1 j2⟩
 simp only[fh,gR,or_false] at hc
 have sM:s2.heap.objs.size<=c:=by rcases hc with rfl | rfl | rfl | rfl | rfl<;>lia
 exact I2.tq sM (I2.aQ.fresh sM)
end
def Hc(K:aK)(H:Hp)(F:List Addr)(J:It)(ds:List D):Prop:=∀H1,(∀b o,b ∉ F->H b=some o->H1 b=some o) ->
 (∀i:Nat,i<ds.length->J.go i H1/\∀v H2,J.xK i H1 v H2->aW H1 H2/\∃d1 d2 q v1 v2,ds[i]? = some (.tup [d1,d2])/\v = .ref q/\cE K H2 q [v1,v2]/\∀F',(∀b,b∈F'->b∈F∨H b=none)->Is K (aS F' H2) d1 v1/\Is K (aS F' H2) d2 v2)/\J.stop ds.length H1
section
variable {X:Cx}{e a b c:Expr}{g ga gb gc:G->R D}{pos:Pos}
theorem w3a(i k:Nat){x y0:Str}{px py pt:Pos}{kt}{iter:Expr}{body:List Stmt}{gi:G->R (List D)}{gb:G->R Fl}(hp:zP X)(eA:X.calm=true)(hi:iT Hc X (.Tuple [.Name x px,.Name y0 py] kt pt) iter gi)(hb:lN X body gb)(hN:X.N.Nodup)(GS:X.N[i]? = some x:=by rfl)(hiy:X.N[k]? = some y0:=by rfl)(hx:Loc X.env.scope x:=by first | exact iJ rfl | exact fF rfl)(hy:Loc X.env.scope y0:=by first | exact iJ rfl | exact fF rfl)
 (hf:X.fn x=true∨X.env.scope.names.lookup x=some .local:=by first | exact .inl rfl | exact .inr rfl | assumption)
 (hfy:X.fn y0=true∨X.env.scope.names.lookup y0=some .local:=by first | exact .inl rfl | exact .inr rfl | assumption)
 (hs:∀x,xt iter X.env x=pure x:=by intro _;rfl):PQ X (.For (.Tuple [.Name x px,.Name y0 py] kt pt) iter body [] pos) (vG i k gi gb):=by
 refine⟨λpins s σ H F Γ I fo rl hg=>?_⟩
 refine wpAny_For (aH (hi.run pins s σ H F Γ I fo rl (jO hg)) (λv s1 h1=>aH h1 (λki s2 h2=>?_) λ_ _ x=>x.lift fo rl _) λ_ _ x=>x.lift fo rl _) hs
 obtain⟨ds,it,fp,tn,J,H2,e1,rfl,I2,S2,T,t0,fk,jd⟩:=h2
 have eg:vG i k gi gb Γ=gD gb i k ds Γ:=jP e1
 rw[eg] at hg ⊢
 have ck:=hp pins H F (gD gb i k ds Γ)
 have uv:∀{H':Hp},(∀b∈fp,H' b=none)->∀b∈fp,eD X pins H' b:=λhn b hb=>⟨hn b hb,(fk b hb).2⟩
 refine a7h (λn s'=>∃(j:Nat) (a8:St) (H':Hp) (F':List Addr) (Γ':G),n=ds.length-j/\j<=ds.length/\Inv X pins a8 H' s'/\tn j s'.heap/\(∀b∈fp,H' b=none)/\cn H' F'/\Rel X.K H' F' Γ' a8/\Ext H2 F H' F'/\gD gb i k (ds.drop j) Γ'=gD gb i k ds Γ) ?_ ds.length
  ⟨0,σ,H2,F,Γ,by lia,ji _,I2,t0,λb hb=>(fk b hb).1,fo.same S2,rl.same S2,.refl,by rw[w_]⟩
 rintro n s3 ⟨j,oE,H3,F3,uw,en,hj,I3,t3,zQ,wt,wu,E3,ux⟩
 have wx:Ext H F H3 F3:=(Ext.of_same S2).trans E3
 obtain⟨qy,qz⟩:=jd H3 λb o hb h=>E3.keep b o hb h
 by_cases bO:j<ds.length
 ·obtain⟨go,yl⟩:=qy j bO
  refine oR ck (fm (T.item X rfl rfl rfl eA j pins s3 oE H3 _ I3 (uv zQ) t3 go) λr s4 ⟨u,hr,h4⟩=>?_)
  subst hr
  refine oR ck (fm h4 λ_ s5 ⟨y,H5,I5,r5,y5,iB,qA⟩=>?_)
  obtain⟨S5,d1,d2,q,v1,v2,ed,rfl,G2,iv⟩:=yl y H5 y5
  obtain⟨G3,G4⟩:=iv F3 λb hb=>E3.old b hb
  have fo5:=wt.same S5
  have rl5:=wu.same S5
  have E5:=E3.trans (Ext.of_same S5)
  have Hd:Ext H F H5 F3:=(Ext.of_same S2).trans E5
  have qB:ds.drop j = .tup [d1,d2]::ds.drop (j+1):=by
   rw[DW bO]
   have:ds[j] = .tup [d1,d2]:=by
    have:=cD bO
    rw[ed] at this;exact(iZ this).symm
   rw[this]
  have GV:=I5.pinned (uv qA) (T.obj _ _ iB)
  have qC:PG X.bZ (.Tuple [.Name x px,.Name y0 py] kt pt) (L2.dW X.K 2 (L2.ai (rM i) (L2.ai (rM k) L2.aB))):=KP (X:=X.bZ) eA (Be (tj (X:=X.bZ) hN GS hx hf) (Be (tj (X:=X.bZ) hN hiy hy hfy) KO rfl) rfl) rfl rfl
  refine oR ck (aH (qC _ s5 oE H5 (.ref q) u (λa8 H'=>a8=(oE.set i (some v1)).set k (some v2)/\H'=H5) (GV.dw _) r5 ⟨q,[v1,v2],rfl,G2,rfl,v1,[v2],rfl,v2,[],rfl,rfl,rfl,rfl⟩) (λ_ s6 ⟨CL,H6,I6,e6,qD⟩=>?_) λ_ _ z=>di z)
  subst e6 qD
  have j5:gD gb i k (.tup [d1,d2]::ds.drop (j+1)) uw=gD gb i k ds Γ:=by rw[<-qB];exact ux
  have zR:gb ((uw.set i (.ro d1)).set k (.ro d2)) ≠ .no:=λz=>by
   rw[<-j5] at hg
   unfold gD at hg
   rw[z] at hg
   exact hg rfl
  have back:∀{s7:aq} {cR:St} {H7:Hp},Inv X (pins++rN fp s5.heap) cR H7 s7->Inv X pins cR H7 s7/\tn (j+1) s7.heap/\∀b∈fp,H7 b=none:=λ{s7 cR H7} I7=>by
   refine⟨I7.kj,T.keep _ _ _ iB λb hb o e=>(I7.pin (b,o) (dh _ (dh _ (oX hb e)))).1,λb hb=>?_⟩
   obtain⟨o,e,dd⟩:=T.obj _ _ iB b hb
   exact(I7.pin (b,o) (dh _ (dh _ (oX hb e)))).2.1
  refine oR ck (aH (hb.run _ s6 _ H6 F3 _ I6.fJ fo5 ((rl5.CM G3).CM G4) zR) (λf s7 q7=>?_) λx7 s7 q7=>?_)
  ·cases f with
   | next =>
     obtain⟨fZ,e7,cR,H7,F7,I7,f6,f7,E7⟩:=q7
     obtain⟨b1,b2,b3⟩:=back I7
     refine⟨ds.length-(j+1),by lia,j+1,cR,H7,F7,fZ,rfl,bO,b1,b2,b3,f6,f7,E5.trans E7,?_⟩
     rw[<-j5]
     conv=>rhs;unfold gD
     rw[e7]
   | cont =>
     obtain⟨fZ,e7,cR,H7,F7,I7,f6,f7,E7⟩:=q7
     obtain⟨b1,b2,b3⟩:=back I7
     refine⟨ds.length-(j+1),by lia,j+1,cR,H7,F7,fZ,rfl,bO,b1,b2,b3,f6,f7,E5.trans E7,?_⟩
     rw[<-j5]
     conv=>rhs;unfold gD
     rw[e7]
   | brk =>
     obtain⟨fZ,e7,cR,H7,F7,I7,f6,f7,E7⟩:=q7
     refine⟨fZ,?_,cR,H7,F7,I7.kj,f6,f7,Hd.trans E7⟩
     rw[<-j5]
     conv=>lhs;unfold gD
     rw[e7]
   | ret v7 =>
     refine qJ.map q7 Hd (λ_ _ I7=>I7.kj) (λd7 e7=>?_) λd7 e7=>?_
     ·rw[<-j5]
      conv=>lhs;unfold gD
      rw[e7]
     ·rw[<-j5]
      conv=>lhs;unfold gD
      rw[e7]
  ·obtain⟨c7,fZ,cR,H7,F7,e7,zS,f6,f7,E7⟩:=q7
   refine⟨c7,fZ,cR,H7,F7,?_,?_,f6,f7,Hd.trans E7⟩
   ·rw[<-j5]
    conv=>lhs;unfold gD
    rw[e7]
   ·obtain⟨I7,e',C',oe,vs,q1,q2,q3,q4,q5,q6,GW,q8⟩:=zS
    refine⟨I7.kj,e',C',oe,vs,q1,q2,q3,q4,q5,q6,λp mG=>GW p ?_,?_⟩
    ·rcases List.mem_append.mp mG with z | z
     ·exact m7 _ z
     ·exact dh _ (m7 _ z)
    ·obtain⟨w1,w2,w3,w4,w5⟩:=q8
     refine⟨w1,w2,w3,w4,?_⟩
     rcases w5 with w5 | ⟨T',oT,ts,z1,z2,z3,z4,z5,z6,z7⟩
     ·exact .inl w5
     ·refine .inr ⟨T',oT,ts,z1,z2,z3,z4,z5,λp mG=>z6 p ?_,z7⟩
      rcases List.mem_append.mp mG with z | z
      ·exact m7 _ z
      ·exact dh _ (m7 _ z)
 ·have ej:j=ds.length:=by lia
  subst ej
  refine oR ck (fm (T.done X rfl rfl rfl eA _ pins s3 oE H3 _ I3 (uv zQ) t3 qz) λr s4 ⟨hr,I4⟩=>?_)
  subst hr
  rw[AF] at ux
  exact D0 ⟨uw,ux.symm,oE,H3,F3,I4,wt,wu,wx⟩
end
def He(K:aK)(l:Addr):It :=
 ⟨λi H=>∃xs x,bW K H l xs/\xs[i]? = some x,
  λi H v H'=>∃T x,v = .ref T/\H T=none/\H'=upd H T (.tup [.int (i:Int),x])/\∀xs,bW K H l xs->xs[i]? = some x,
  λi H=>∃xs,bW K H l xs/\xs.length<=i⟩
theorem x4n{P:bw}{w:aY}{K:aK}{elts:List Expr}{kt}{pt:Pos}{e it l:Addr}(z8:e≠it):Turn P w K (.Tuple elts kt pt) (He K l) [e,it] e (λi h=>(∃old,pV h e it (i:Nat) old)/\h.IsListIter it l i) where
 mem:=by simp
 obj:=λi h ⟨⟨old,q1⟩,q2⟩ c hc=>by
  simp only[fh,gR,or_false] at hc
  rcases hc with rfl | rfl
  ·exact⟨_,q1,λv z=>nomatch z⟩
  ·obtain⟨o,e,c,d⟩:=q2;exact⟨o,e,λv z=>by rw[d] at z;cases z⟩
 keep:=λi h h' ⟨⟨old,q1⟩,q2⟩ k=>⟨⟨old,k e (by simp) _ q1⟩,q2.at λo z=>k it (by simp) o z⟩
 item:=by
  intro X hP hw hK hc i pins s σ H E I hf ⟨⟨old,q1⟩,q2⟩ ⟨xs,x,s1,ex⟩
  subst hP hw hK
  obtain⟨its,rv,p,hz⟩:=I.list s1
  obtain⟨u,hu,ru⟩:=rv.get ex
  refine wpAny_pyNext_enum_item q1 q2 p.isList (x:=u) (by simpa using hu) z8 λh' a1 a2 a3 a4 a5=>⟨_,rfl,?_⟩
  refine a7v (s:={ s with heap:=h',toks:=s.toks+1 }) a1 λiU c1 c2=>?_
  have Te:s.heap.objs.size≠e:=jC (bx q1)
  have kk:∀c o,c ∉ [e,it]->s.heap.get? c=some o->iU.get? c=some o:=λc o hc z=>by
   simp only[fh,gR,or_false,not_or] at hc
   exact c2.extBut _ _ hc.1 (a5 c o hc.1 hc.2 z)
  have tT:qX iU s.heap.objs.size [kM i s.toks,u].toArray:=⟨_,c2.extBut _ _ Te a3,rfl,_,rfl⟩
  have I1:=G8 (t':=s.toks+1) (xs:=[.int (i:Int),x]) I hf kk (bA _) (by rw[lV];exact(by decide:(2:Nat)<=16777216)) (.cons ⟨_,rfl⟩ (.cons ru .nil)) tT
  refine⟨.ref s.heap.objs.size,_,I1,rfl,⟨_,x,rfl,I.aQ.fresh (bA _),rfl,λxs' q=>by rw[I.Bc q s1];exact ex⟩,⟨⟨u,c1⟩,a2.extBut c2.extBut (eC z8)⟩,λc hc=>?_⟩
  rw[bP]
  ·exact(hf c hc).1
  ·intro z
   have ex:∃o,s.heap.get? c=some o:=by
    simp only[fh,gR,or_false] at hc
    rcases hc with rfl | rfl
    ·exact⟨_,q1⟩
    ·obtain⟨o,e,_⟩:=q2;exact⟨o,e⟩
   obtain⟨o,eo⟩:=ex
   exact absurd (bx eo) (by rw[z];exact dS _)
 done:=by
  intro X hP hw hK hc i pins s σ H E I hf ⟨⟨old,q1⟩,q2⟩ ⟨xs,s1,uD⟩
  subst hP hw hK
  obtain⟨its,rv,p,hz⟩:=I.list s1
  have n1:=rv.length
  refine wpAny_pyNext_enum_end (I.ok.hd hc) q1 q2 p.isList (by simp;lia) λh' kk=>⟨rfl,G7 (t':=s.toks) I hf λc o hc z=>?_⟩
  simp only[fh,gR,or_false,not_or] at hc
  exact kk c o hc.2 z
 self:=λ_ _ _ _ _ st h=>by obtain⟨⟨old,q1⟩,_⟩:=st;exact Ke q1 h
theorem Hf:∀{k:Nat} {xs:List D} {i:Nat} {x:D},xs[i]? = some x->(dY k xs)[i]? = some (.tup [.int ((k+i:Nat):Int),x])
 | _,[],_,_,h=>by simp at h
 | k,a::xs,0,x,h=>by simp at h;subst h;simp[dY]
 | k,a::xs,i+1,x,h=>by
   simp only[dY,a7u] at *
   rw[Hf h,show k+1+i=k+(i+1) by lia]
theorem Hg:∀(k:Nat) (xs:List D),(dY k xs).length=xs.length
 | _,[]=>rfl
 | k,a::xs=>by simp[dY,Hg (k+1) xs]
theorem x9q{K:aK}{H:Hp}{F:List Addr}{l:Addr}{xs:List V}{ds:List D}(h1:bW K H l xs)(i1:aC K (aS F H) ds xs):uy K H F (He K l) (dY 0 ds):=λH1 S=>by
 have q1:=S.seq h1
 have n1:=i1.length
 have nz:=Hg 0 ds
 refine⟨λi hi=>⟨⟨xs,xs[i]'(by lia),q1,cD (by lia)⟩,λv H2 y=>?_⟩,⟨xs,q1,by lia⟩⟩
 obtain⟨T,x,rfl,hT,rfl,e1⟩:=y
 obtain⟨d,ed,iv⟩:=i1.uh (e1 xs q1)
 have S2:=iA hT (.tup [.int (i:Int),x])
 have eg:=Hf (k:=0) ed
 rw[gO] at eg
 exact⟨S2,.int (i:Int),d,T,.int (i:Int),x,eg,rfl,cE.of dq,Is.bT.mpr rfl,iv.same (gG (S.trans S2))⟩
theorem Qh:qY ("enumerate":Str)=some (.type "enumerate"):=by decide +kernel
section
variable {X:Cx}{a b:Expr}{ga gb:G->R D}
theorem Qi{elts:List Expr}{kt}{pt p pos:Pos}(ha:PD X a ga)(hm:X.mg "enumerate"=none)(hg:Gl X "enumerate":=by rfl)(hs:bR [a] X.env=[(false,eval a X.env)]:=by rfl) :
 iT uy X (.Tuple elts kt pt) (.Call (.Name "enumerate" p) [a] [] pos) (y4d ga):=by
 refine⟨λpins s σ H F Γ I fo rl cM=>?_⟩
 refine DT (nB I hg hm Qh (u_ ?_ hs rfl))
 rw[hs]
 show az _ _ (h_ ((false,eval a X.env)::de pos [])) _ _ s
 refine jk (aH (ha.run pins s σ H F Γ I fo rl (R.left cM)) (λu s1 ⟨d,v,H1,e1,I1,r1,S1,i1⟩=>l9 ?_) λ_ _ x=>x.bind _)
 have a9:=R.next cM e1
 cases d with
 | lst ds =>
   obtain⟨n1,e5⟩:=R.dz (show R.guard (D.bQ ds=true) (.ok (dY 0 ds)) ≠ .no from a9)
   obtain⟨l,xs,rfl,q1,j1⟩:=Is.fb.mp i1
   have j1':=aC.aS (fo.same S1) _ xs n1 j1
   cases (show u=gJ l from r1)
   obtain⟨its,rv,pl,hz⟩:=I1.list q1
   refine call_enumerate_list pl.isList λh' a1 a2 a3 a4=>?_
   refine Ke (s:={ s1 with heap:=h' }) a1 ?_
   have I3:Inv X pins σ H1 { s1 with heap:=h' }:=I1.kept (t':=s1.toks) a4
   refine⟨dY 0 ds,s1.heap.objs.size+1,_,_,He X.K l,H1,(R.step e1 _).trans e5,rfl,I3,S1,x4n (it:=s1.heap.objs.size) (by show @Ne Nat _ _;lia),⟨⟨_,a1⟩,a2⟩,λc hc=>?_,x9q q1 j1'⟩
   simp only[fh,gR,or_false] at hc
   have sM:s1.heap.objs.size<=c:=by rcases hc with rfl | rfl<;>lia
   exact I1.tq sM (I1.aQ.fresh sM)
 | _=>exact absurd rfl a9
end
section
variable {X:Cx}{e a b c:Expr}{g ga gb gc:G->R D}{pos pos' p:Pos}
theorem x0a(i:Nat){x x0 y:Str}{elt iter:Expr}{p0 px pt:Pos}{kt}{scope:cT}{ifs:List Expr}{f:D->D->G->R (Option D)}{gi:G->R (List D)}(kB:iT uy X (.Tuple [.Name x0 p0,.Name y px] kt pt) iter gi)(hp:zW X x0 y scope ifs elt f)(hN:X.N.Nodup)(eA:X.calm=true)(hi:X.N[i]? = some x:=by rfl)(hx:Loc X.env.scope x:=by first | exact iJ rfl | exact fF rfl)
 (qM:xu (.ListComp elt [⟨.Tuple [.Name x0 p0,.Name y px] kt pt,iter,ifs,0⟩] scope p) (some (.Name x pos')) pos.line X.env=pure true:=by rfl) (hf:X.fn x=true∨X.env.scope.names.lookup x=some .local:=by first | exact .inl rfl | exact .inr rfl | assumption)
 (qE:C1 X.N X.env x0 y scope=true:=by rfl) (qF:DX scope X.env=pure (cJ X.env scope.names []):=by rfl) (hs:∀x,xt iter X.env x=pure x:=by intro _;rfl) :
 PQ X (.Assign [.Name x pos'] (.ListComp elt [⟨.Tuple [.Name x0 p0,.Name y px] kt pt,iter,ifs,0⟩] scope p) pos) (c6 i (z6d gi f)):=by
 refine⟨λpins s σ H F Γ I fo rl hg=>?_⟩
 have c:=P2 qE
 rw[Th _ _ _ _ qM]
 refine ay (AX (ay ?_))
 show az _ X.A (do let _ <-Ti (.ListComp elt [⟨.Tuple [.Name x0 p0,.Name y px] kt pt,iter,ifs,0⟩] scope p) scope X.env _ (xr []) false (eval iter X.env) (some (jh (.Name x pos') X.env))) _ _ s
 have oB:=jO hg
 refine ay (aH (DY (use:=some (jh (.Name x pos') X.env)) (Q:=λ_ s'=>qK X pins H F (c6 i (z6d gi f) Γ) .next s') rfl hs qF c.kind c.names
  (aH (kB.run pins s σ H F Γ I fo rl (R.left oB)) (λxv cy cB=>aH cB (λki aA qG=>?_) λ_ _ x=>(x.bind _).lift fo rl _) λ_ _ x=>(x.bind _).lift fo rl _)) (λ_ s' hq=>aP (aP hq)) λ_ _ e=>e)
 obtain⟨items,it,fp,tn,J,aD,e1,rfl,I2,S2,T,t0,fk,jc⟩:=qG
 have eU:=R.next oB e1
 obtain⟨hl,e2⟩:=R.dz eU
 have aU:cj (z8z f Γ) items [] ≠ .no:=by
  have:=R.next oB e1
  rw[e2] at this;exact this
 obtain⟨total,et⟩:=tG aU
 have eT:z6d gi f Γ = .ok total:=(R.step e1 _).trans (e2.trans et)
 refine P4 (RR:=λacc C=>DZ (aJ X.prog X.w) X.A _ (some (jh (.Name x pos') X.env)) _ acc C) hp c hN eA I2 (fo.same S2) (rl.same S2) T t0 fk jc et hl ?_
 intro Dd C xs H' m s' hC dC hn iL jY hD S' ia I' qH
 have jb:∀{b:Addr} {o:Obj},aA.heap.get? b=some o->b≠C:=λe=>cX (b_ (bx e) hC)
 have S3:=iA iL (.lst xs)
 have jJ:aW H (upd H' Dd (.lst xs)):=(S2.trans S').trans S3
 have hH:H Dd=none:=S2.free hn
 have um:aC X.K (aS (Dd::F) (upd H' Dd (.lst xs))) total xs:=ia.same λb o hb=>by
  obtain⟨z1,z2⟩:=kD hb
  have i_:b≠Dd:=fI z2 iL
  rw[fc λz=>(List.mem_cons.mp z).elim i_ z1,bP i_]
  exact z2
 show az _ X.A (jh (.Name x pos') X.env (.ref Dd)) _ _ s'
 refine Jh (Bb (v:=.ref Dd) I' hN hi hx rfl (λs3 I3 oC=>?_) hf)
 obtain⟨aa,oC,zK⟩:=oC
 have zL:aa≠C:=by
  rcases zK with z | z
  ·subst z;exact cX (b_ I2.lt hC)
  ·obtain⟨v,o,ho,_⟩:=I2.cell x aa z;exact jb ho
 refine⟨m,qH.sameBut oC (eC zL),λiU qI=>?_⟩
 have I4:Inv X pins (σ.set i (some (.ref Dd))) (upd H' Dd (.lst xs)) { s3 with heap:=iU }:=I3.turned (t':=s3.toks) (it:=C) (λb o hb e=>qI.extBut b o hb e) (by rw[bP (eC dC)];exact jY) (jC (b_ I2.lt hC)) (.inr (dD I2.sz hC))
  (λx k e=>by obtain⟨v,o,ho,_⟩:=I2.cell x k e;exact jb ho) (λp ck=>jb (I2.pin p ck).1)
 exact⟨_,jP eT,_,_,Dd::F,I4,(fo.same jJ).cons dq,rl.set_own fo jJ hH dq um,⟨λb o _ h=>jJ _ _ h,λb hb=>(List.mem_cons.mp hb).elim (λz=>.inr (z ▸ hH)) .inl⟩⟩
theorem w2z(ha:PD X a ga)(he:∀whole,rn a X.env whole=(do let v <-whole;SU a.pos;AQ [v] (truthy v)):=by intro _;rfl):jU X a (y8x ga):=by
 refine⟨λpins s σ H F Γ I fo rl hg=>?_⟩
 refine isTrue_plain (aH (ha.run pins s σ H F Γ I fo rl (R.left hg)) (λv s1 ⟨d,x,H1,e1,I1,r1,S1,i1⟩=>?_) λ_ _ x=>x.bind _) (he _)
 have a9:=R.next hg e1
 cases d with
 | lst ds =>
   obtain⟨l,xs,rfl,q1,j1⟩:=Is.fb.mp i1
   cases (show v=gJ l from r1)
   obtain⟨its,rv,pl,hz⟩:=I1.list q1
   have n1:=rv.length
   have n2:=j1.length
   refine wpAny_truthy_list pl.isList (by rw[lV] at hz;simp;lia) ⟨H1,(R.step e1 _).trans ?_,I1.tok _,S1⟩
   have:its.toArray.isEmpty=ds.isEmpty:=by
    cases ds with
    | nil=>cases its with
      | nil=>rfl
      | cons z zs=>simp at n1 n2;lia
    | cons d ds=>cases its with
      | nil=>rw[<-n2] at n1;simp at n1
      | cons z zs=>rfl
   rw[this]
 | _=>exact absurd rfl a9
theorem Hh:∀{bs:List Int} {us:List ae} {i:Nat} {v:ae},Vals (bs.map V.int) us->us[i]? = some v->∃b t,bs[i]? = some b/\v = .int b t
 | [],us,i,v,r,e=>by cases r;simp at e
 | b::bs,us,0,v,r,e=>by
   cases r with
   | cons r1 r2=>simp at e;subst e;obtain⟨t,r1⟩:=r1;exact⟨b,t,rfl,r1⟩
 | b::bs,us,i+1,v,r,e=>by
   cases r with
   | cons r1 r2 =>
     obtain⟨b',t,e1,e2⟩:=Hh (i:=i) r2 (by simpa using e)
     exact⟨b',t,by simpa using e1,e2⟩
theorem w0u(hc:X.calm=true):jo X (.builtin "any") (λxs H Q=>∃(a:Addr) (bs:List Int),xs=[.ref a]/\cE X.K H a (bs.map V.int)/\Q (.bl (bs.any (λb=>b != 0))) H):=by
 intro pins s σ H xs us Q I r h
 obtain⟨a,bs,rfl,hq,q⟩:=h
 obtain⟨u,rfl,ru⟩:=rP r
 cases ru
 obtain⟨its,rv,pl,_⟩:=I.tuple hq
 have hl:s.heap.IsTuple a its.toArray:=pl
 have bO:a<s.heap.objs.size:=by obtain⟨_,e,_⟩:=hl;exact bx e
 have hlen:its.length=bs.length:=by rw[<-rv.length,bD]
 refine call_any_walk (xq hl ?_)
 refine⟨s.heap.objs.size,[s.heap.objs.size,a],[s.heap.objs.size],its.toArray.size,_,_,λi=>((bs.map λb=>b != 0)[i]?).getD false,rfl,Walks.tuple (A:=X.A.in1) (I.ok.hd hc) _ a (cX bO) its.toArray,
  ⟨⟨_,c_ _ rfl,rfl,rfl⟩,hl.push _⟩,λi v s' Q' E' hP hQ=>?_,λh' tk hk=>?_⟩
 ·obtain⟨b,t,e,rfl⟩:=Hh rv (i:=i) (v:=v) (by simpa using hP)
  simp only[cf,e,AI,So] at hQ
  exact PyProof.Rows.truthy_int hQ
 ·have e:((bL its.toArray.size).any λi=>((bs.map λb=>b != 0)[i]?).getD false)=bs.any (λb=>b != 0):=by
   rw[dj,hlen]
   have:=GD (bs.map λb=>b != 0)
   rw[bD,SQ] at this
   exact this
  refine⟨.bl (bs.any (λb=>b != 0)),H,I.kept (λb x ex=>hk b x (λhm=>by rw[List.mem_singleton.mp hm] at ex;exact dS _ (bx ex)) (bB _ ex)),by rw[e];rfl,q⟩
theorem w4u(hc:X.calm=true):mQ X (.builtin "any") tH:=by
 refine⟨_,w0u (X:=X.bZ) hc,λH xs ds i hg=>?_⟩
 unfold tH at hg
 split at hg
 ·rename_i ys
  obtain⟨v,rfl,h⟩:=n_ i
  obtain⟨a,zs,rfl,h1,h2⟩:=Is.eQ.mp h
  cases q:gv ys with
  | none=>rw[q] at hg;exact absurd rfl hg
  | some ns =>
    have:=vA q
    subst this
    rw[h2.wd] at h1
    exact⟨a,ns,rfl,h1,.bl (ns.any (λn=>n != 0)),by show tH [.tup (ns.map D.int)]=_;simp only[tH,q],.refl _,Is.jt.mpr rfl⟩
 ·exact absurd rfl hg
end
section
variable {X:Cx}{e a b c:Expr}{g ga gb gc:G->R D}{pos pos' p:Pos}{gs:G->R (List D)}
end
theorem Rel.vH{K:aK}{H:Hp}{F:List Addr}{Γ:G}{σ:St}(fo:cn H F)(r:Rel K H F Γ σ)(i:Nat):∃F',(∀b∈F',b∈F)/\cn H F'/\Rel K H F' (L3.vH i Γ) σ:=by
 unfold L3.vH
 split
 ·rename_i ds e
  obtain⟨a,xs,h1,h2,h3,h4⟩:=r.own i ds e
  have sub:∀b∈F.filter (λb=>decide (b≠a)),b∈F:=λb hb=>(List.mem_filter.mp hb).1
  have out:a ∉ F.filter (λb=>decide (b≠a)):=λz=>(of_decide_eq_true (List.mem_filter.mp z).2) rfl
  have S:aW (aS F H) (aS (F.filter (λb=>decide (b≠a))) H):=λb o h=>by
   obtain⟨z1,z2⟩:=kD h
   rw[fc λz=>z1 (sub b z)]
   exact z2
  have hi:i<Γ.length:=by
   rcases dt i Γ.length with z | z
   ·exact z
   ·rw[eY z] at e;cases e
  refine⟨F.filter (λb=>decide (b≠a)),sub,λb hb=>fo b (sub b hb),⟨by rw[kd];exact r.len,λj d h=>?_,λj es h=>?_,λj k es fs c g1 g2 g3 g4=>?_⟩⟩
  ·by_cases hj:i=j
   ·subst hj
    rw[jB hi] at h
    cases h
    exact⟨.ref a,h1,Is.fb.mpr ⟨a,xs,rfl,bW.of (by rw[fc out];exact h3),h4.same S⟩⟩
   ·rw[gM hj] at h
    obtain⟨v,q1,q2⟩:=r.ro j d h
    exact⟨v,q1,q2.same S⟩
  ·by_cases hj:i=j
   ·subst hj
    rw[jB hi] at h
    cases h
   ·rw[gM hj] at h
    obtain⟨c,ys,q1,q2,q3,q4⟩:=r.own j es h
    refine⟨c,ys,q1,List.mem_filter.mpr ⟨q2,decide_eq_true λz=>?_⟩,q3,q4.same S⟩
    subst z
    exact hj (r.inj i j ds es c e h h1 q1)
  ·have back:∀(m:Nat) (es:List D),(Γ.set i (.ro (.lst ds)))[m]? = some (.own es)->Γ[m]? = some (.own es):=λm es h=>by
    by_cases hm:i=m
    ·subst hm
     rw[jB hi] at h
     cases h
    ·rw[gM hm] at h;exact h
   exact r.inj j k es fs c (back j es g1) (back k fs g2) g3 g4
 ·exact⟨F,λ_ h=>h,fo,r⟩
theorem w5k{X:Cx}(i:Nat){st:Stmt}{g:G->R Fl}(h:PQ X st g):PQ X st (yf i g):=by
 refine⟨λpins s σ H F Γ I fo rl hg=>?_⟩
 obtain⟨F',sub,GQ,qL⟩:=rl.vH fo i
 have E:Ext H F H F':=⟨λb o _ q=>q,λb hb=>.inl (sub b hb)⟩
 exact aH (h.run pins s σ H F' _ I GQ qL hg) (λ_ _ q=>qK.later E q) λ_ _ q=>sH.later E q
def Hi(y:Str)(names:List (Str×lW)):Bool:=decide (names.filter (λp=>p.2 == .cell)=[(y,.cell)])
theorem x0k{M:oI}{A:Around}{E:ae->aq->Prop}{s:aq}{scope:cT}{globals:Addr}{closure:List (Str×Addr)}{qual:Str}{env:Env}{y:Str}{Q:Env->aq->Prop}(h1:Hi y scope.names=true)
 (hQ:Q (newEnv scope s.heap.objs.size globals ((y,s.heap.objs.size+1)::closure) qual none .none (some env) Jf) { s with heap:=(s.heap.push { cls:=.type "dict",data:=.dict #[] }).push { cls:=.type "cell",data:=.cell none } }) :
 az M A (DV scope globals closure [] qual none .none (some env)) Q E s:=by
 have h1:=of_decide_eq_true h1
 have sz:(s.heap.push { cls:=.type "dict",data:=.dict #[] }).objs.size=s.heap.objs.size+1:=fG ..
 simp only[DV,Option.isSome_some,if_true]
 refine ay (Tu (ay ?_))
 refine wpAny_forIn_list _ (λrest b s'=>(rest.filter (λp=>p.2 == .cell)=[(y,.cell)]/\b=closure/\s'={ s with heap:=s.heap.push { cls:=.type "dict",data:=.dict #[] } })∨(rest.filter (λp=>p.2 == .cell)=[]/\b=(y,s.heap.objs.size+1)::closure/\s'={ s with heap:=(s.heap.push { cls:=.type "dict",data:=.dict #[] }).push { cls:=.type "cell",data:=.cell none } })) _ ?_ ?_ scope.names closure (.inl ⟨h1,rfl,rfl⟩)
 ·rintro⟨n,k⟩ rest b s' (⟨q1,rfl,rfl⟩ | ⟨q1,rfl,rfl⟩)
  ·by_cases hk:(k==rE)=true
   ·rw[AK,if_pos (show((n,k).2==rE)=true from hk)] at q1
    injection q1 with q2 q3
    injection q2 with q4 q5
    simp only[hk,if_true]
    refine ay (Tu (aP (.inr ⟨q3,?_,rfl⟩)))
    rw[q4,sz]
   ·rw[AK,if_neg (show ¬((n,k).2==rE)=true from hk)] at q1
    have cQ:(k==rE)=false:=by simpa using hk
    simp only[cQ,kf,if_false]
    exact aP (.inl ⟨q1,rfl,rfl⟩)
  ·by_cases hk:(k==rE)=true
   ·rw[AK,if_pos (show((n,k).2==rE)=true from hk)] at q1;cases q1
   ·rw[AK,if_neg (show ¬((n,k).2==rE)=true from hk)] at q1
    have cQ:(k==rE)=false:=by simpa using hk
    simp only[cQ,kf,if_false]
    exact aP (.inr ⟨q1,rfl,rfl⟩)
 ·rintro b s' (⟨q1,_,_⟩ | ⟨_,rfl,rfl⟩)
  ·cases q1
  ·simp only[Tq]
   exact ay (aP (aP hQ))
def Hj(N:List Str)(env:Env)(y:Str)(scope:cT):Bool :=
 decide (scope.kind = .function)&&scope.names.all (λp=>(decide (p.2 ≠ .cell)||decide (p.1=y))&&(decide (p.2 ≠ .local)||decide (scope.names.lookup p.1=some .local))&&(decide (p.2 ≠ .free)||((env.cells.lookup p.1).isSome&&(decide (env.scope.names.lookup p.1=some .cell)||decide (env.scope.names.lookup p.1=some .free)))))
  && (Hi y scope.names&&decide (scope.names.lookup y=some .cell))&&decide (scope.names.lookup (("":Str))=none)&&N.all (λz=>decide (scope.names.lookup z≠some .local))&&N.all (λz=>decide (z≠("":Str)))
structure C9 (N:List Str) (env:Env) (y:Str) (scope:cT):Prop where
 kind:scope.kind = .function
 pK:∀p∈scope.names,p.2 ≠ .cell∨p.1=y
 names:∀p∈scope.names,p.2 = .local->scope.names.lookup p.1=some .local
 free:∀p∈scope.names,p.2 = .free->(∃c,env.cells.lookup p.1=some c)/\(env.scope.names.lookup p.1=some .cell∨env.scope.names.lookup p.1=some .free)
 loc:Hi y scope.names=true/\scope.names.lookup y=some .cell
 nil:scope.names.lookup (("":Str))=none
 only:∀z∈N,scope.names.lookup z≠some .local
 none:∀z∈N,z≠("":Str)
theorem x4a{N:List Str}{env:Env}{y:Str}{scope:cT}(h:Hj N env y scope=true):C9 N env y scope:=by
 unfold Hj at h
 simp only[gN,rj,DU,decide_eq_true_eq] at h
 obtain⟨⟨⟨⟨⟨h1,h2⟩,h3⟩,h4⟩,h5⟩,h6⟩:=h
 refine⟨h1,λp hp=>(h2 p hp).1.1,λp hp e=>((h2 p hp).1.2).resolve_left λz=>z e,λp hp e=>?_,h3,h4,λz hz e=>h5 z hz e,h6⟩
 have q:=((h2 p hp).2).resolve_left λz=>z e
 exact⟨Option.isSome_iff_exists.mp q.1,q.2⟩
def g9(X:Cx)(y:Str)(scope:cT)(C cc:Addr)(aA:aq)(aD:Hp)(fp:List Addr)(pn:List (Addr×Obj)):Cx :=
 { X with N:=y::X.N.map (λz=>if z=y then ("":Str) else z),s₀:=aA,H₀:=aD,env:=ib scope ((y,cc)::cJ X.env scope.names []) C X.env,outer:=X.stack,ex:=fp,fn:=λz=>z==y,pn:=pn,xe:=λ_ _=>False }
theorem x4b{X:Cx}{y:Str}{scope:cT}{C cc Dd:Addr}{fp:List Addr}{pins pl:List (Addr×Obj)}{σ a8:St}{aD H':Hp}{aA s1:aq}{xs:List V}{its:List ae}{n:Nat}(I:Inv X pins σ aD aA)
 (J:Inv (g9 X y scope C cc aA aD fp (X.pn++pins)) pl a8 H' s1) (hD:aA.heap.objs.size<=Dd) (hn:H' Dd=none) (hd:s1.heap.get? Dd=some { cls:=.type "list",data:=.seq its.toArray n }) (rv:Vals xs its) (hz:xs.length<=cq) (hf:∀b∈fp,eD X pins aD b) :
 Inv X pins σ (upd H' Dd (.lst xs)) s1:=by
 have os:s1.os=aA.os:=J.os
 have un:Un (cY X.stack) fp aD H' aA.heap s1.heap:=J.base
 have aQ:du X.prog X.w H' s1.heap:=J.aQ
 have bare:m6 s1.gens:=J.bare
 clear J
 obtain⟨hh,gg,dd,tt,kT⟩:=s1
 obtain rfl:kT=aA.os:=os
 have zk:∀b o,aA.heap.get? b=some o->b≠Dd:=λb o e=>cX (b_ (bx e) hD)
 refine I.call (h':=hh) (g':=gg) (d':=dd) (t':=tt) (ch:=fp) ⟨un.keep,un.slot,λb o e n' hx=>?_,un.there,λb ys e=>?_,λb o u e=>?_,λb ps e=>?_⟩ (GJ aQ hn ⟨hz,its,n,rv,hd⟩) bare λb hb=>?_
 ·rw[bP (zk b o e)];exact un.free b o e n' hx
 ·have q:=un.l_ b ys e
  rw[bP (fI q hn)];exact q
 ·have q:=un.kP b o u e
  rw[bP (fI q hn)];exact q
 ·obtain⟨more,q⟩:=un.md b ps e
  exact⟨more,by rw[bP (fI q hn)];exact q⟩
 ·obtain⟨f0,f1,f2,f3,f4,f5⟩:=hf b hb
  exact⟨f3.imp_right λz=>wX z,f1,f4,f5⟩
theorem qN{X:Cx}{y:Str}{scope:cT}{cc:Addr}{x:Str}{k:Addr}(e:((y,cc)::cJ X.env scope.names []).lookup x=some k):(x=y/\k=cc)∨(x≠y/\X.env.cells.lookup x=some k):=by
 by_cases q:x=y
 ·subst q
  rw[Kf] at e
  exact .inl ⟨rfl,(iZ e).symm⟩
 ·rw[JP,beq_eq_false_iff_ne.mpr q] at e
  rcases mR scope.names [] (iG e) with z | z
  ·simp at z
  ·exact .inr ⟨q,z⟩
theorem w0j{X:Cx}{y:Str}{scope:cT}{C cc:Addr}{fp:List Addr}{pins:List (Addr×Obj)}{σ:St}{aD:Hp}{aA:aq}(I:Inv X pins σ aD aA)(c:C9 X.N X.env y scope)(hC:aA.heap.objs.size<=C)(kh:aA.heap.objs.size<=cc)(hf:∀b∈fp,eD X pins aD b)(ho:∀b∈fp,b<aA.heap.objs.size) :
 (g9 X y scope C cc aA aD fp (X.pn++pins)).Ok:=by
 have lt:∀x k,X.env.cells.lookup x=some k->k<aA.heap.objs.size:=λx k e=>by obtain⟨v,q⟩:=I.cell x k e;exact q.lt
 refine⟨I.ok.mod,c.kind,I.ok.glob,I.ok.blt,hC,λx z k h1 h2=>by
  rcases qN h1 with ⟨a1,a2⟩ | ⟨a1,a2⟩<;>rcases qN h2 with ⟨b1,b2⟩ | ⟨b1,b2⟩
  ·rw[a1,b1]
  ·have:=lt _ _ b2;rw[a2] at this;exact absurd (b_ this kh) (dS _)
  ·have:=lt _ _ a2;rw[b2] at this;exact absurd (b_ this kh) (dS _)
  ·exact I.ok.inj x z k a2 b2,λx hx=>?_,λx k h e=>by
  rcases qN e with ⟨_,a2⟩ | ⟨a1,_⟩
  ·rw[a2];exact kh
  ·exact absurd (beq_iff_eq.mp (show(x==y)=true from h)) a1,I.ok.hd,I.ok.frames,.inl rfl,λb hb=>?_,I.bs,dD I.ok.kQ I.sz,λb o e hb=>?_,λb hb z=>?_,I.stack,I.xG⟩
 ·have o8:(ic scope X.env).names.lookup x=some .cell∨(ic scope X.env).names.lookup x=some .free:=hx
  have hm:∃k,(x,k)∈scope.names/\(k = .free∨k = .cell):=by
   rcases o8 with q | q <;>
   ·have m:=iG q
    unfold ic at m
    simp only[uY] at m
    obtain⟨⟨n,k⟩,hm,e⟩:=m
    by_cases hc:(k==kO&&X.env.scope.kind == .function&&X.env.kindOf n==some .cell)=true
    ·rw[if_pos hc] at e
     have e1:n=x:=congrArg oP e
     subst e1
     rw[gN,gN] at hc
     exact⟨k,hm,.inl (wm hc.1.1)⟩
    ·rw[if_neg hc] at e
     have e1:n=x:=congrArg oP e
     have e2:=congrArg sX e
     dsimp only at e2
     subst e1 e2
     exact⟨_,hm,by first | exact .inr rfl | exact .inl rfl⟩
  obtain⟨k,hm,hk⟩:=hm
  rcases hk with rfl | rfl
  ·obtain⟨⟨a,ea⟩,_⟩:=c.free _ hm rfl
   obtain⟨c',h1,_⟩:=pJ (bY (y,cc) (qv ea scope.names [] hm))
   exact⟨c',h1⟩
  ·have:=(c.pK _ hm).resolve_left λz=>z rfl
   dsimp only at this
   subst this
   exact⟨cc,Kf⟩
 ·refine⟨cX (b_ (ho b hb) hC),λx k e=>by
   rcases qN e with ⟨_,a2⟩ | ⟨_,a2⟩
   ·intro z;have:=ho b hb;rw[<-z,a2] at this;exact absurd (b_ this kh) (dS _)
   ·exact(hf b hb).2.2.2.2.1 x k a2⟩
 ·rcases(hf b hb).2.2.2.1 with z | z
  ·exact I.ok.td b o e z
  ·exact absurd (b_ (b_ (bx e) I.ok.kQ) z) (dS _)
 ·rcases List.mem_cons.mp (I.kg b z) with q | q
  ·exact(hf b hb).2.1 q
  ·exact(hf b hb).2.2.1 q
theorem Qj{env:Env}:∀{names:List (Str×lW)} {x:Str},names.lookup x=some .cell ->
 (names.map λ(n,k)=>if (k==kO&&env.scope.kind == .function&&env.kindOf n==some .cell) then (n,rE) else (n,k)).lookup x=some .cell
 | [],_,h=>by simp at h
 | (n,k)::r,x,h=>by
   rw[cN]
   by_cases e:x=n
   ·subst e
    rw[Kf] at h
    cases h
    dsimp only
    rw[if_neg (by simp[show(rE==kO)=false from rfl]),Kf]
   ·rw[JP,beq_eq_false_iff_ne.mpr e] at h
    have:=Qj (env:=env) h
    dsimp only
    split<;>(rw[JP,beq_eq_false_iff_ne.mpr e];exact this)
section
variable {X:Cx}{y:Str}{scope:cT}
theorem x0x{C cc Dd:Addr}{fp:List Addr}{pins:List (Addr×Obj)}{σ:St}{aD:Hp}{aA:aq}{cB:Heap}{tk:Nat}{oD:Obj}{m:Str->Option ae}(I:Inv X pins σ aD aA)(c:C9 X.N X.env y scope)(hC:aA.heap.objs.size<=C)(hD:aA.heap.objs.size<=Dd)(dC:Dd≠C)(kh:aA.heap.objs.size<=cc)(z9:cB.IsCell cc none)(hf:∀b∈fp,eD X pins aD b)(ho:∀b∈fp,b<aA.heap.objs.size)
 (old:∀b o,aA.heap.get? b=some o->cB.get? b=some o) (p7:cB.Ns C m) (hd:cB.get? Dd=some oD) (zl:∀v,oD.data ≠ .cell v) :
 Inv (g9 X y scope C cc aA aD fp (X.pn++pins)) [(Dd,oD)] (none::σ) aD { aA with heap:=cB,toks:=tk }:=by
 have zm:∀b,aA.heap.objs.size<=b->b ∉ cY X.stack:=λb hb z=>by
  rcases List.mem_cons.mp (I.kg b z) with q | q
  ·exact absurd (b_ I.lt (by rw[<-q];exact hb)) (dS _)
  ·exact I.A_ hb q
 refine⟨w0j I c hC kh hf ho,rfl,I.bare,Un.kept old,⟨m,p7,λi x v e1 e2 e3=>?_⟩,λx k e=>?_,I.aQ.fresh hC,λx k e=>by
  rcases qN e with ⟨_,a2⟩ | ⟨_,a2⟩
  ·rw[a2];exact I.aQ.fresh kh
  ·exact I.mf x k a2,λp hp=>?_,I.aQ.kept old,?_⟩
 ·cases i with
  | zero=>simp at e2
  | succ i =>
    have zo:σ[i]? = some (some v):=by simpa using e2
    have dR:(X.N.map (λz=>if z=y then ("":Str) else z))[i]? = some x:=by simpa [g9] using e1
    rw[cf] at dR
    cases hz:X.N[i]? with
    | none=>rw[hz] at dR;cases dR
    | some z =>
      rw[hz] at dR
      simp only[AI,xj] at dR
      have oj:ny (ic scope X.env) x:=e3
      have ja:∀{k:lW},(ic scope X.env).names.lookup x=some k->∃k',(x,k')∈scope.names/\(k'=k∨(k' = .free/\k = .cell)):=λ{k} q=>by
       have m':=iG q
       unfold ic at m'
       simp only[uY] at m'
       obtain⟨⟨n,k0⟩,hm,e⟩:=m'
       by_cases hc:(k0==kO&&X.env.scope.kind == .function&&X.env.kindOf n==some .cell)=true
       ·rw[if_pos hc] at e
        have e1:n=x:=congrArg oP e
        have e2:=congrArg sX e
        dsimp only at e2
        subst e1 e2
        rw[gN,gN] at hc
        exact⟨k0,hm,.inr ⟨wm hc.1.1,rfl⟩⟩
       ·rw[if_neg hc] at e
        have e1:n=x:=congrArg oP e
        have e2:=congrArg sX e
        dsimp only at e2
        subst e1 e2
        exact⟨_,hm,.inl rfl⟩
      have zp:∀k',(x,k')∈scope.names->x≠("":Str):=λk' hm z=>by
       subst z
       obtain⟨c',h1,_⟩:=pJ hm
       rw[c.nil] at h1;cases h1
      have ne:x≠("":Str):=by
       rcases oj with q | q | q<;>(obtain⟨k',hm,_⟩:=ja q;exact zp k' hm)
      by_cases kG:z=y
      ·rw[if_pos kG] at dR;exact absurd dR.symm ne
      ·rw[if_neg kG] at dR
       subst dR
       have fr:(z,kO)∈scope.names:=by
        rcases oj with q | q | q
        ·obtain⟨k',hm,hk⟩:=ja q
         rcases hk with rfl | ⟨_,hk⟩
         ·exact absurd (c.names _ hm rfl) (c.only z (kN hz))
         ·cases hk
        ·obtain⟨k',hm,hk⟩:=ja q
         rcases hk with rfl | ⟨rfl,_⟩
         ·exact absurd ((c.pK _ hm).resolve_left λq=>q rfl) kG
         ·exact hm
        ·obtain⟨k',hm,hk⟩:=ja q
         rcases hk with rfl | ⟨_,hk⟩
         ·exact hm
         ·cases hk
       obtain⟨⟨ca,Px⟩,hv⟩:=c.free _ fr rfl
       obtain⟨m0,Py,zq⟩:=I.loc
       obtain⟨u,ru,lk⟩:=zq i z v hz zo (.inr hv)
       refine⟨u,ru,?_⟩
       rcases lk with ⟨q,_⟩ | ⟨_,k,ek,hk⟩
       ·exfalso
        have q':X.env.scope.names.lookup z=some .local:=q
        rcases hv with w | w<;>(rw[q'] at w;cases w)
       ·obtain⟨c',h1,_⟩:=pJ (bY (y,cc) (qv ek scope.names [] fr))
        have h2:=((qN h1).resolve_left λq=>kG q.1).2
        rw[ek] at h2;cases h2
        refine .inr ⟨?_,k,h1,?_⟩
        ·rcases oj with q | q | q
         ·exfalso
          obtain⟨k',hm,cQ⟩:=ja q
          rcases cQ with rfl | ⟨_,cQ⟩
          ·exact c.only z (kN hz) (c.names _ hm rfl)
          ·cases cQ
         ·exact .inl q
         ·exact .inr q
        ·obtain⟨o,dm,fR⟩:=hk
         exact⟨o,old _ _ dm,fR⟩
 ·rcases qN e with ⟨_,a2⟩ | ⟨_,a2⟩
  ·rw[a2];exact⟨none,z9⟩
  ·obtain⟨v,o,dm,fR⟩:=I.cell x k a2
   exact⟨v,o,old _ _ dm,fR⟩
 ·rcases List.mem_append.mp hp with q | q
  ·obtain⟨h1,h2,h3,h4,h5⟩:=I.pin p q
   refine⟨old _ _ h1,h2,cX (b_ (bx h1) hC),λz=>?_,h5⟩
   rcases List.mem_cons.mp (I.kg p.1 z) with q' | q'
   ·exact h3 q'
   ·exact h4 q'
  ·have e:p=(Dd,oD):=by simpa using q
   subst e
   exact⟨hd,I.aQ.fresh hD,dC,zm Dd hD,zl⟩
 ·show σ.length+1=(y::X.N.map _).length
  rw[dE,bD,I.len]
structure Hk (X:Cx) (y:Str) (scope:cT) (ifs:List Expr) (elt:Expr) (f:D->G->R (Option D)):Prop where
 run:∀(C cc:Addr) (aA:aq) (aD:Hp) (fp:List Addr) (pn:List (Addr×Obj)) (pins:List (Addr×Obj)) (s:aq) (σ:St) (H:Hp) (F:List Addr) (Γ:G) (d:D),Inv (g9 X y scope C cc aA aD fp pn) pins σ H s->cn H F->Rel X.K H F (.ro d::Γ) σ->(∃o,f d Γ = .ok o) ->
  az (aJ X.prog X.w) X.A (forIn ifs true λc r=>if r=true then do let ok <-rn c (ib scope ((y,cc)::cJ X.env scope.names []) C X.env) (eval c (ib scope ((y,cc)::cJ X.env scope.names []) C X.env));pure (oQ ok) else pure (oQ r)) (λok gZ =>
   if ok=true then az (aJ X.prog X.w) X.A (eval elt (ib scope ((y,cc)::cJ X.env scope.names []) C X.env)) (λu eW=>∃e v H',f d Γ = .ok (some e)/\Inv (g9 X y scope C cc aA aD fp pn) pins σ H' eW/\RelV v u/\aW H H'/\Is X.K (aS F H') e v) (λ_ _=>False) gZ
   else f d Γ = .ok none/\∃H',Inv (g9 X y scope C cc aA aD fp pn) pins σ H' gZ/\aW H H') (λ_ _=>False) s
theorem w3h{elt:Expr}{ge:G->R D}(he:∀C cc aA aD fp pn,gY (g9 X y scope C cc aA aD fp pn) elt ge):Hk X y scope [] elt (fK ge):=by
 refine⟨λC cc aA aD fp pn pins s σ H F Γ d I fo rl ⟨o,eo⟩=>?_⟩
 refine S9 ?_
 rw[if_pos rfl]
 have aU:ge (.ro d::Γ) ≠ .no:=λz=>by unfold fK at eo;rw[z] at eo;cases eo
 refine aH ((he C cc aA aD fp pn).run pins s σ H F (.ro d::Γ) I fo rl aU) (λu s4 ⟨e,v,H',e1,I',rv,S,iv⟩=>⟨e,v,H',R.step e1 _,I',rv,S,iv⟩) λx s' ⟨c,H',e1,_⟩=>?_
 unfold fK at eo;rw[e1] at eo;cases eo
theorem x4c{elt iter:Expr}{px pos:Pos}{ifs:List Expr}{f:D->G->R (Option D)}{pins:List (Addr×Obj)}{σ:St}{aD:Hp}{aA:aq}{F:List Addr}{Γ:G}{items:List D}{it:Addr}{fp:List Addr}{tn:Nat->Heap->Prop}{J:It}{E:ae->aq->Prop}{total:List D}
 (hp:Hk X y scope ifs elt f) (c:C9 X.N X.env y scope) (hN:X.N.Nodup) (eA:X.calm=true) (I:Inv X pins σ aD aA) (fo:cn aD F) (rl:Rel X.K aD F Γ σ) (T:Turn X.prog X.w X.K (.Name y px) J fp it tn) (t0:tn 0 aA.heap) (hf:∀b∈fp,eD X pins aD b) (hj:JC X.K aD F J items)
 (ht:cj (λd=>f d Γ) items [] = .ok total) (hl:items.length<=100000) {RR:ae->Addr->Aw->aq->Prop}
 (hR:∀(Dd C:Addr) (xs:List V) (H':Hp) (m:Str->Option ae) (s':aq),aA.heap.objs.size<=C->Dd≠C->aD Dd=none->H' Dd=none->H' C=none->aA.heap.objs.size<=Dd->aW aD H'->aC X.K (aS F H') total xs->Inv X pins σ (upd H' Dd (.lst xs)) s'->s'.heap.Ns C m->RR (.ref Dd) C (.ok .next) s') :
 az (aJ X.prog X.w) X.A (xr []) (λacc gZ=>az (aJ X.prog X.w) X.A (DV scope X.env.globals (cJ X.env scope.names []) [] X.env.qual none .none (some X.env)) (λsA eW =>
  m9 (aJ X.prog X.w) X.A (.compStart (.ListComp elt [⟨.Name y px,iter,ifs,0⟩] scope pos) 0 (.ref it) acc { sA with scope:=ic scope X.env }) (RR acc sA.locals) eW) E gZ) E aA:=by
 have ho:∀b∈fp,b<aA.heap.objs.size:=λb hb=>by obtain⟨o,e,_⟩:=T.obj _ _ t0 b hb;exact bx e
 refine lY (x0k c.loc.1 ?_)
 dsimp only
 generalize oq:aA.heap.push { cls:=.type "list",dict:=none,data:=.seq ([]:List ae).toArray }=H2
 have mT:H2.objs.size=aA.heap.objs.size+1:=by rw[<-oq,fG]
 generalize wH:(H2.push { cls:=.type "dict",data:=.dict #[] }).push { cls:=.type "cell",data:=.cell none }=cB
 have mS:cB.Ns H2.objs.size (λ_=>none):=by
  rw[<-wH]
  exact⟨_,#[],_,bB _ (c_ _ rfl),rfl,by intro e he;simp at he,λ_=>rfl⟩
 have z9:cB.IsCell (H2.objs.size+1) none:=by
  rw[<-wH]
  refine⟨{ cls:=.type "cell",data:=.cell none },?_,rfl⟩
  rw[<-fG H2 { cls:=.type "dict",data:=.dict #[] }]
  exact c_ _ rfl
 have hold:∀b o,H2.get? b=some o->cB.get? b=some o:=λb o e=>by
  rw[<-wH]
  exact bB _ (bB _ e)
 generalize PA:H2.objs.size=C at mS z9 mT ⊢
 generalize a0b:C+1=cc at z9 ⊢
 generalize qw:aA.heap.objs.size=Dd at mT ⊢
 obtain⟨⟨dC,hC,hD⟩,below⟩:=GN mT qw
 obtain⟨⟨kh,hcD⟩,a0c⟩:=ZG mT qw a0b
 have old:∀b o,aA.heap.get? b=some o->cB.get? b=some o:=λb o e=>hold b o (oq ▸ bB _ e)
 have qx:cB.get? Dd=some { cls:=.type "list",dict:=none,data:=.seq ([]:List ae).toArray }:=by
  refine hold _ _ ?_
  rw[<-oq,<-qw]
  exact c_ _ rfl
 have J0:∀tk,Inv (g9 X y scope C cc aA aD fp (X.pn++pins)) [(Dd,{ cls:=.type "list",dict:=none,data:=.seq ([]:List ae).toArray })] (none::σ) aD { aA with heap:=cB,toks:=tk }:=λtk =>
  x0x I c hC hD dC kh z9 hf ho old mS qx (λv z=>nomatch z)
 have t1:tn 0 cB:=T.keep _ _ _ t0 λb hb o e=>old b o e
 have ot:∀{H':Hp} {o:Obj},(∀b∈fp,H' b=none)->∀b∈fp,eD (g9 X y scope C cc aA aD fp (X.pn++pins)) [(Dd,o)] H' b:=λ{H' o} hn b hb=>by
  obtain⟨f0,f1,f2,f3,f4,f5⟩:=hf b hb
  have lt:=ho b hb
  refine⟨hn b hb,(below b lt).1,λz=>?_,.inl hb,λx k e=>?_,λp ck=>?_⟩
  ·rcases List.mem_cons.mp (I.kg b z) with q | q
   ·exact f1 q
   ·exact f2 q
  ·rcases qN e with ⟨_,q⟩ | ⟨_,q⟩
   ·rw[q];exact eC (a0c b lt)
   ·exact f4 x k q
  ·rcases List.mem_append.mp ck with q | q
   ·exact f5 p q
   ·have e:p=(Dd,o):=by simpa using q
    subst e
    exact eC (below b lt).2
 have wq:(g9 X y scope C cc aA aD fp (X.pn++pins)).N.Nodup:=by
  show(y::X.N.map (λz=>if z=y then ("":Str) else z)).Nodup
  refine List.nodup_cons.mpr ⟨λz=>?_,?_⟩
  ·obtain⟨z',hz,e⟩:=List.mem_map.mp z
   by_cases q:z'=y
   ·rw[if_pos q] at e
    subst e
    have:=c.loc.2;rw[c.nil] at this;cases this
   ·rw[if_neg q] at e;exact q e
  ·have inj:∀a∈X.N,∀b∈X.N,(if a=y then ("":Str) else a)=(if b=y then ("":Str) else b)->a=b:=λa ha b hb e=>by
    by_cases qa:a=y
    ·by_cases qb:b=y
     ·rw[qa,qb]
     ·rw[if_pos qa,if_neg qb] at e;exact absurd e.symm (c.none b hb)
    ·by_cases qb:b=y
     ·rw[if_neg qa,if_pos qb] at e;exact absurd e (c.none a ha)
     ·rw[if_neg qa,if_neg qb] at e;exact e
   have gen:∀l:List Str,(∀a∈l,a∈X.N)->l.Nodup->(l.map (λz=>if z=y then ("":Str) else z)).Nodup:=by
    intro l
    induction l with
    | nil=>intro _ _;exact S_
    | cons a l ih =>
      intro hs nd
      obtain⟨n1,n2⟩:=List.nodup_cons.mp nd
      rw[cN]
      refine List.nodup_cons.mpr ⟨λz=>?_,ih (λb hb=>hs b (bY _ hb)) n2⟩
      obtain⟨b,hb,e⟩:=List.mem_map.mp z
      exact n1 (inj b (hs b (bY _ hb)) a (hs a bV) e ▸ hb)
   exact gen X.N (λ_ h=>h) hN
 let L:Nat->aq->Prop:=λn s'=>∃(i:Nat) (H':Hp) (o:Option V) (xs:List V) (its:List ae) (acc:List D) (k:Nat),n=items.length-i/\i<=items.length/\Inv (g9 X y scope C cc aA aD fp (X.pn++pins)) [(Dd,{ cls:=.type "list",dict:=none,data:=.seq its.toArray k })] (o::σ) H' s' /\
  aW aD H'/\(∀b∈fp,H' b=none)/\tn i s'.heap/\Vals xs its/\acc.length<=i/\aC X.K (aS F H') acc xs/\cj (λd=>f d Γ) (items.drop i) acc = .ok total
 have loop:∀eW:aq,L items.length eW->m9 (aJ X.prog X.w) X.A (.compLoop (.ListComp elt [⟨.Name y px,iter,ifs,0⟩] scope pos) 0 (.ref it) (.ref Dd) (ib scope ((y,cc)::cJ X.env scope.names []) C X.env)) (RR (.ref Dd) C) eW:=λeW h4=>by
  refine a7d L (λn s' hL=>aH (E:=λ_ _=>False) ?_ (λ_ _ q=>q) λ_ _ z=>z.elim) items.length h4
  obtain⟨i,H',o,xs,its,acc,k,en,hi,J',S',sC,sD,rv,mO,ia,eg⟩:=hL
  obtain⟨qy,qz⟩:=hj H' S'
  have PB:=J'.pin (Dd,{ cls:=.type "list",dict:=none,data:=.seq its.toArray k }) (dh _ (by simp))
  have lJ:xs.length<=100000:=by rw[<-ia.length];exact dD mO (dD hi hl)
  have ly:(100000:Nat)<=cq:=by rw[lV];decide
  by_cases bO:i<items.length
  ·obtain⟨go,yl⟩:=qy i bO
   refine fm (T.item (g9 X y scope C cc aA aD fp (X.pn++pins)) rfl rfl rfl eA i _ s' _ H' (λ_ _=>False) J' (ot sC) sD go) λr s2 ⟨u,hr,h1⟩=>?_
   subst hr
   refine Pw (a:=()) h1 λ⟨x,H5,J5,r5,y5,iB,qA⟩=>?_
   obtain⟨e5,d,ed,iv⟩:=yl x H5 y5
   subst e5
   have zr:=J5.pinned (ot qA) (T.obj _ _ iB)
   have qB:items.drop i=d::items.drop (i+1):=by
    rw[DW bO]
    have:items[i]=d:=by
     have:=cD bO
     rw[ed] at this;exact(iZ this).symm
    rw[this]
   rw[qB] at eg
   have zt:∃od,f d Γ = .ok od/\(match od with | some e=>cj (λd=>f d Γ) (items.drop (i+1)) (acc++[e]) | none=>cj (λd=>f d Γ) (items.drop (i+1)) acc) = .ok total:=by
    unfold cj at eg
    cases q:f d Γ with
    | no=>simp only[q] at eg;cases eg
    | er c'=>simp only[q] at eg;cases eg
    | ok od =>
      refine⟨od,rfl,?_⟩
      cases od with
      | none=>simp only[q] at eg;exact eg
      | some e=>simp only[q] at eg;exact eg
   obtain⟨od,ou,sE⟩:=zt
   have qC:PG (g9 X y scope C cc aA aD fp (X.pn++pins)).bZ (.Name y px) (rM 0):=tj (X:=(g9 X y scope C cc aA aD fp (X.pn++pins)).bZ) wq rfl (.inr (Qj c.loc.2)) (.inl (show(y==y)=true from beq_self_eq_true y))
   refine aH (qC _ s2 (o::σ) H5 x u (λa8 H'=>a8=some x::σ/\H'=H5) (zr.dw _) r5 ⟨rfl,rfl⟩) (λ_ s3 ⟨CL,H6,J6,e6,qD⟩=>?_) λ_ _ z=>z.elim
   subst e6 qD
   have zu:=J6.fJ
   have zv:=fo.same S'
   refine aH (hp.run C cc aA aD fp (X.pn++pins) _ s3 _ H6 F Γ d zu zv (CK (rl.same S') iv) ⟨od,ou⟩) (λok s4 h4=>?_) λ_ _ z=>z.elim
   have back:∀{s5:aq} {H7:Hp} {cR:St},Inv (g9 X y scope C cc aA aD fp (X.pn++pins)) ([(Dd,{ cls:=.type "list",dict:=none,data:=.seq its.toArray k })]++rN fp s2.heap) cR H7 s5->tn (i+1) s5.heap/\(∀b∈fp,H7 b=none):=λ{s5 H7 cR} J7=>by
    refine⟨T.keep _ _ _ iB λb hb o' e=>(J7.pin (b,o') (dh _ (dh _ (oX hb e)))).1,λb hb=>?_⟩
    obtain⟨o',e,dd⟩:=T.obj _ _ iB b hb
    exact(J7.pin (b,o') (dh _ (dh _ (oX hb e)))).2.1
   cases ok with
   | false =>
     rw[if_neg oN] at h4 ⊢
     obtain⟨ef,H7,J7,S7⟩:=h4
     rw[ou] at ef;cases ef
     obtain⟨ox,oy⟩:=back J7
     exact⟨items.length-(i+1),wo en bO,i+1,H7,some x,xs,its,acc,k,rfl,bO,J7.kj,S'.trans S7,oy,ox,rv,Ta mO,ia.same (gG S7),sE⟩
   | true =>
     rw[if_pos rfl] at h4 ⊢
     refine aH h4 (λu7 s5 ⟨e,v7,H7,ef,J7,r7,S7,zw⟩=>?_) λ_ _ z=>z.elim
     rw[ou] at ef;cases ef
     obtain⟨ox,oy⟩:=back J7
     have J8:=J7.kj
     have kH:=J8.pin (Dd,{ cls:=.type "list",dict:=none,data:=.seq its.toArray k }) (dh _ (by simp))
     have hlen:its.length=acc.length:=by rw[<-rv.length,<-ia.length]
     refine Tb (l:=Dd) (items:=its.toArray) (x:=u7) ⟨k,kH.1⟩ (λh' zz sF=>?_) (by rw[dj,<-rv.length];exact dD lJ ly)
     obtain⟨k',cQ⟩:=zz
     have zD:its.toArray.push u7=(its++[u7]).toArray:=by simp
     rw[zD] at cQ
     have J9:Inv (g9 X y scope C cc aA aD fp (X.pn++pins)) [] (some x::σ) H7 s5:=J8.rL λp ck=>by simp at ck
     have zG:Inv (g9 X y scope C cc aA aD fp (X.pn++pins)) [] (some x::σ) H7 { s5 with heap:=h' }:=J9.turned (t':=s5.toks) (it:=Dd) (λb o' hb e'=>(sF.2 b hb).trans e') kH.2.1 dC (.inr hD) (λx' sG e' z=>by
      rcases qN e' with ⟨_,q⟩ | ⟨_,q⟩
      ·exact hcD (q ▸ z)
      ·obtain⟨v',o',dm,_⟩:=I.cell x' sG q
       exact(below sG (bx dm)).2 z) (λp ck z=>by
      rcases List.mem_append.mp ck with q | q
      ·obtain⟨oz,_⟩:=I.pin p q
       exact(below p.1 (bx oz)).2 z
      ·simp at q)
     have zH:Inv (g9 X y scope C cc aA aD fp (X.pn++pins)) [(Dd,{ cls:=.type "list",dict:=none,data:=.seq (its++[u7]).toArray k' })] (some x::σ) H7 { s5 with heap:=h' }:=zG.rL λp ck=>by
      have e':p=(Dd,{ cls:=.type "list",dict:=none,data:=.seq (its++[u7]).toArray k' }):=by simpa using ck
      subst e'
      exact⟨cQ,kH.2.1,dC,kH.2.2.2.1,λv z=>nomatch z⟩
     refine⟨items.length-(i+1),wo en bO,i+1,H7,some x,xs++[v7],its++[u7],acc++[e],k',rfl,bO,zH,S'.trans S7,oy,T.keep _ _ _ ox λb hb o' e'=>(sF.2 b (below b (ho b hb)).2).trans e',rv.append (.cons r7 .nil),by rw[hU,w7];exact Tc mO,(ia.same (gG S7)).append (aC.cons zw aC.nil),sE⟩
  ·have kB:i=items.length:=Td hi (Js bO)
   subst kB
   refine fm (T.done (g9 X y scope C cc aA aD fp (X.pn++pins)) rfl rfl rfl eA _ _ s' _ H' (λ_ _=>False) J' (ot sC) sD qz) λr s1 ⟨hr,J1⟩=>?_
   subst hr
   have oA:=J1.pin (Dd,{ cls:=.type "list",dict:=none,data:=.seq its.toArray k }) (dh _ (by simp))
   rw[AF] at eg
   have:acc=total:=by unfold cj at eg;cases eg;rfl
   subst this
   obtain⟨mC,jY,_⟩:=J1.loc
   exact hR Dd C xs H' mC s1 hC dC (I.aQ.fresh hD) oA.2.1 J1.free hD S' ia (x4b I J1 hD oA.2.1 oA.1 rv (dD lJ ly) hf) jY
 have L0:∀tk,L items.length { aA with heap:=cB,toks:=tk }:=λtk=>⟨0,aD,none,[],[],[],_,rfl,ji _,J0 tk,.refl _,λb hb=>(hf b hb).1,t1,.nil,bA _,aC.nil,by rw[w_];exact ht⟩
 exact Tf (loop _ (L0 _)) (T.self _ 0 _ _ _ t1 (loop _ (L0 _)))
theorem y9z(i:Nat){p pos pos':Pos}{x:Str}{elt iter:Expr}{px:Pos}{ifs:List Expr}{f:D->G->R (Option D)}{gi:G->R (List D)}(kB:zj X (.Name y px) iter gi)(hp:Hk X y scope ifs elt f)(hN:X.N.Nodup)(eA:X.calm=true)(hi:X.N[i]? = some x:=by rfl)(hx:Loc X.env.scope x:=by first | exact iJ rfl | exact fF rfl)
 (qM:xu (.ListComp elt [⟨.Name y px,iter,ifs,0⟩] scope p) (some (.Name x pos')) pos.line X.env=pure true:=by rfl) (hf:X.fn x=true∨X.env.scope.names.lookup x=some .local:=by first | exact .inl rfl | exact .inr rfl | assumption)
 (qE:Hj X.N X.env y scope=true:=by rfl) (qF:DX scope X.env=pure (cJ X.env scope.names []):=by rfl) (hs:∀x,xt iter X.env x=pure x:=by intro _;rfl) :
 PQ X (.Assign [.Name x pos'] (.ListComp elt [⟨.Name y px,iter,ifs,0⟩] scope p) pos) (c6 i (dM gi f)):=by
 refine⟨λpins s σ H F Γ I fo rl hg=>?_⟩
 have c:=x4a qE
 rw[Th _ _ _ _ qM]
 refine ay (AX (ay ?_))
 show az _ X.A (do let _ <-Ti (.ListComp elt [⟨.Name y px,iter,ifs,0⟩] scope p) scope X.env _ (xr []) false (eval iter X.env) (some (jh (.Name x pos') X.env))) _ _ s
 have oB:=jO hg
 refine ay (aH (DY (use:=some (jh (.Name x pos') X.env)) (Q:=λ_ s'=>qK X pins H F (c6 i (dM gi f) Γ) .next s') rfl hs qF c.kind c.names
  (aH (kB.run pins s σ H F Γ I fo rl (R.left oB)) (λxv cy cB=>aH cB (λki aA qG=>?_) λ_ _ x=>(x.bind _).lift fo rl _) λ_ _ x=>(x.bind _).lift fo rl _)) (λ_ s' hq=>aP (aP hq)) λ_ _ e=>e)
 obtain⟨items,it,fp,tn,J,aD,e1,rfl,I2,S2,T,t0,fk,jc⟩:=qG
 have eU:=R.next oB e1
 obtain⟨hl,e2⟩:=R.dz eU
 have aU:cj (λd=>f d Γ) items [] ≠ .no:=by
  have:=R.next oB e1
  rw[e2] at this;exact this
 obtain⟨total,et⟩:=tG aU
 have eT:dM gi f Γ = .ok total:=(R.step e1 _).trans (e2.trans et)
 refine x4c (RR:=λacc C=>DZ (aJ X.prog X.w) X.A _ (some (jh (.Name x pos') X.env)) _ acc C) hp c hN eA I2 (fo.same S2) (rl.same S2) T t0 fk jc et hl ?_
 intro Dd C xs H' m s' hC dC hn iL jY hD S' ia I' qH
 have jb:∀{b:Addr} {o:Obj},aA.heap.get? b=some o->b≠C:=λe=>cX (b_ (bx e) hC)
 have S3:=iA iL (.lst xs)
 have jJ:aW H (upd H' Dd (.lst xs)):=(S2.trans S').trans S3
 have hH:H Dd=none:=S2.free hn
 have um:aC X.K (aS (Dd::F) (upd H' Dd (.lst xs))) total xs:=ia.same λb o hb=>by
  obtain⟨z1,z2⟩:=kD hb
  have i_:b≠Dd:=fI z2 iL
  rw[fc λz=>(List.mem_cons.mp z).elim i_ z1,bP i_]
  exact z2
 show az _ X.A (jh (.Name x pos') X.env (.ref Dd)) _ _ s'
 refine Jh (Bb (v:=.ref Dd) I' hN hi hx rfl (λs3 I3 oC=>?_) hf)
 obtain⟨aa,oC,zK⟩:=oC
 have zL:aa≠C:=by
  rcases zK with z | z
  ·subst z;exact cX (b_ I2.lt hC)
  ·obtain⟨v,o,ho,_⟩:=I2.cell x aa z;exact jb ho
 refine⟨m,qH.sameBut oC (eC zL),λiU qI=>?_⟩
 have I4:Inv X pins (σ.set i (some (.ref Dd))) (upd H' Dd (.lst xs)) { s3 with heap:=iU }:=I3.turned (t':=s3.toks) (it:=C) (λb o hb e=>qI.extBut b o hb e) (by rw[bP (eC dC)];exact jY) (jC (b_ I2.lt hC)) (.inr (dD I2.sz hC))
  (λx k e=>by obtain⟨v,o,ho,_⟩:=I2.cell x k e;exact jb ho) (λp ck=>jb (I2.pin p ck).1)
 exact⟨_,jP eT,_,_,Dd::F,I4,(fo.same jJ).cons dq,rl.set_own fo jJ hH dq um,⟨λb o _ h=>jJ _ _ h,λb hb=>(List.mem_cons.mp hb).elim (λz=>.inr (z ▸ hH)) .inl⟩⟩
end
section
variable {X:Cx}{e:Expr}{pos p:Pos}{x:Str}{es:List Expr}{gs:G->R (List D)}
theorem w4h{P:bw}{w:aY}{H:Hp}{h:Heap}{F:List Addr}(fo:cn H F)(k:du P w H h):du P w (aS F H) h:=λb u e=>by
 have out:∀{c:Addr} {o:HO},H c=some o->(∀xs,o ≠ .lst xs)->aS F H c=some o:=λ{c o} q n=>by
  rw[fc λz=>by obtain⟨xs,e⟩:=fo c z;rw[q] at e;cases e;exact n xs rfl];exact q
 exact(k b u (kD e).2).nu (λc v _ q=>q) (λc q=>out q λxs z=>nomatch z) λc xs q=>out q λxs z=>nomatch z
end
section
variable {M:oI}{A:Around}{E:ae->aq->Prop}{env:Env}{s:aq}
end
section
variable {X:Cx}{y:Str}{scope:cT}
structure a9v (X:Cx) (y:Str) (scope:cT) (ifs:List Expr) (elt:Expr) (f:D->G->R (Option D)):Prop where
 run:∀(C:Addr) (aA:aq) (aD:Hp) (fp:List Addr) (pn:List (Addr×Obj)),(∀b∈fp,∃o,(b,o)∈pn)->∀(pins:List (Addr×Obj)) (s:aq) (σ:St) (H:Hp) (F:List Addr) (Γ:G) (d:D),Inv (dH X y scope C aA aD fp pn) pins σ H s->cn H F->Rel X.K H F (.ro d::Γ) σ->f d Γ ≠ .no ->
  az (aJ X.prog X.w) X.A (forIn ifs true λc r=>if r=true then do let ok <-rn c (ib scope (cJ X.env scope.names []) C X.env) (eval c (ib scope (cJ X.env scope.names []) C X.env));pure (oQ ok) else pure (oQ r)) (λok gZ =>
   if ok=true then az (aJ X.prog X.w) X.A (eval elt (ib scope (cJ X.env scope.names []) C X.env)) (λu eW=>∃e v H',f d Γ = .ok (some e)/\Inv (dH X y scope C aA aD fp pn) pins σ H' eW/\RelV v u/\aW H H'/\Is X.K (aS F H') e v) (λx s'=>∃c H',f d Γ = .er c/\aW H H'/\ui (dH X y scope C aA aD fp pn) pins σ H' c x s') gZ
   else f d Γ = .ok none/\∃H',Inv (dH X y scope C aA aD fp pn) pins σ H' gZ/\aW H H') (λx s'=>∃c H',f d Γ = .er c/\aW H H'/\ui (dH X y scope C aA aD fp pn) pins σ H' c x s') s
end
section
variable {X:Cx}{e a b c:Expr}{g ga gb gc:G->R D}{pos p:Pos}{x:Str}{es:List Expr}{gs:G->R (List D)}
end
section
variable {X:Cx}{e:Expr}{g:G->R D}{pos p pos':Pos}
end
section
variable {X:Cx}{e a b c:Expr}{g ga gb gc:G->R D}{pos:Pos}
end
namespace Rv
theorem owner:List.lookup (String.ofList ['d','e','s','r','e','v','e','r'].reverse) Manifest.owners=some Manifest.sig_reversed:=rfl
end Rv
section
variable {prog:bw}{w:aY}{A:Around}{E:ae->aq->Prop}{s:aq}
end
section
variable {X:Cx}{a:Expr}{ga:G->R D}
end
section
variable {X:Cx}{e:Expr}{pos p:Pos}{x:Str}{es:List Expr}{gs:G->R (List D)}
theorem w7e{k:Nat}{f:Addr}{fd:da}{ps:List Str}{φ:List D->R D}(Fn:gH X.prog X.w X.K X.mg X.base k f fd ps φ)(hr:eZ k X.A){pins:List (Addr×Obj)}{σ:St}{H:Hp}{F:List Addr}{s:aq}{us:List ae}{vs:List V}{ds:List D}{d':D}{EE:ae->aq->Prop}
 (I:Inv X pins σ H s) (fo:cn H F) (r:Vals vs us) (i:aC X.K (aS F H) ds vs) (hg:φ ds = .ok d'):az (aJ X.prog X.w) X.A (call (.ref f) us) (λu s'=>∃v H',Inv X pins σ H' s'/\RelV v u/\aW H H'/\Is X.K (aS F H') d' v) EE s:=by
 have fS:CC X.K X.mg φ vs (aS F H) (λv H'=>aW (aS F H) H'/\Is X.K H' d' v) (λ_ _ _=>False) :=
  ⟨ds,i,(by rw[hg];exact λz=>nomatch z),λd v H' e S iv=>by rw[hg] at e;cases e;exact⟨S,iv⟩,λc C H' e=>by rw[hg] at e;cases e⟩
 have hl:us.length=ps.length:=by rw[<-r.length];exact Fn.ok.len _ _ _ _ fS
 have hb:=Fn.binds s us I.nA (by rw[oJ];exact hl)
 rw[oJ] at hb
 have nh:∀{b:Addr},H b=none->aS F H b=none:=λ{b} q=>by
  by_cases hb:b∈F
  ·exact za hb
  ·rw[fc hb];exact q
 have e0:=I.Ej
 have en:xN X.prog X.w X.K X.mg X.base X.A X.stack s (aS F H):=⟨e0.frames,e0.mod,λb o q=>⟨(e0.bs b o q).1,nh (e0.bs b o q).2⟩,e0.kQ,e0.me,λb hb=>nh (e0.rJ b hb),w4h fo e0.aQ,e0.bare⟩
 refine DS (sT (Fn.ok.run X.A X.stack s (aS F H) ⟨us,[]⟩ us vs _ _ hr en hb r fS) λr' s' hq=>?_)
 cases r' with
 | error u=>obtain⟨_,_,_,_,_,_,_,_,_,_,_,_,_,_,_,_,_,_,_,_,_,_,_,_,_,_,hE⟩:=hq;exact hE.elim
 | ok fl =>
   cases fl with
   | ret u =>
     obtain⟨v,H1,os,bare,un,aQ,rv,S,h3⟩:=hq
     have own:∀b,b∈F->∃ys its n,H b=some (.lst ys)/\ys.length<=cq/\Vals ys its/\s'.heap.get? b=some { cls:=.type "list",data:=.seq its.toArray n }/\H1 b=none:=λb hb=>by
      obtain⟨ys,ey⟩:=fo b hb
      obtain⟨z,its,n,Hl,gt⟩:=I.aQ b _ ey
      exact⟨ys,its,n,ey,z,Hl,un.keep b _ gt (za hb) (λz=>by rw[e0.rJ b z] at ey;cases ey) (by simp),un.free b _ gt (za hb) (by simp)⟩
     let H2:Hp:=λb=>if b∈F then H b else H1 b
     have Qk:∀{b},b∈F->H2 b=H b:=λ{b} h=>if_pos h
     have uE:∀{b},b ∉ F->H2 b=H1 b:=λ{b} h=>if_neg h
     have up:∀{b o},H1 b=some o->b ∉ F/\H2 b=some o:=λ{b o} q=>by
      have hb:b ∉ F:=λz=>by obtain⟨_,_,_,_,_,_,_,z2⟩:=own b z;rw[q] at z2;cases z2
      exact⟨hb,(uE hb).trans q⟩
     have Hm:∀{b o},H b=some o->(∀ys,o ≠ .lst ys)->b ∉ F:=λ{b o} q n z=>by obtain⟨ys,e⟩:=fo b z;rw[q] at e;cases e;exact n ys rfl
     have un2:Un (cY X.stack) [] H H2 s.heap s'.heap:=by
      refine⟨λb o q n=>un.keep b o q (nh n),λb o q n=>un.slot b o q (nh n),λb o q n hx=>?_,un.there,λb ys q=>?_,λb o u q=>?_,λb ps q=>?_⟩
      ·have hb:b ∉ F:=λz=>by obtain⟨ys,e⟩:=fo b z;rw[n] at e;cases e
       rw[uE hb];exact un.free b o q (nh n) hx
      ·have hb:=Hm q λys z=>nomatch z
       rw[uE hb];exact un.l_ b ys (by rw[fc hb];exact q)
      ·have hb:=Hm q λys z=>nomatch z
       rw[uE hb];exact un.kP b o u (by rw[fc hb];exact q)
      ·have hb:=Hm q λys z=>nomatch z
       rw[uE hb];exact un.md b ps (by rw[fc hb];exact q)
     have a0d:du X.prog X.w H2 s'.heap:=λb u q=>by
      by_cases hb:b∈F
      ·obtain⟨ys,its,n,ey,z,Hl,gt,_⟩:=own b hb
       rw[Qk hb,ey] at q
       cases q
       exact⟨z,its,n,Hl,gt⟩
      ·rw[uE hb] at q
       exact(aQ b u q).nu (λc v _ e=>e) (λc e=>(up e).2) λc ys e=>(up e).2
     have I2:Inv X pins σ H2 s':=I.Ud os un2 a0d bare (λb z=>absurd z (by simp))
     have S2:aW H H2:=λb o q=>by
      by_cases hb:b∈F
      ·rw[Qk hb];exact q
      ·rw[uE hb];exact S b o (by rw[fc hb];exact q)
     have Sx:aW H1 (aS F H2):=λb o q=>by rw[fc (up q).1];exact(up q).2
     exact⟨v,H2,I2,rv,S2,h3.same Sx⟩
   | next=>exact di hq
   | brk=>exact di hq
   | cont=>exact di hq
theorem C_{k:Nat}{f:Addr}{fd:da}{ps:List Str}{φ:List D->R D}(Fn:gH X.prog X.w X.K X.mg X.base k f fd ps φ)(hr:eZ k X.A)(hm:X.mg x=some (.ref f))(ha:CZ X (e::es) gs)(hg:Gl X x:=by rfl)(jW:(x==("__debug__":Str))=false:=by decide)
 (he:bR (e::es) X.env=(false,eval e X.env)::bR es X.env:=by rfl) (jH:(de pos (bR es X.env)).any (·.1)=false:=by rfl):gY X (.Call (.Name x p) (e::es) [] pos) (z8a φ gs):=by
 refine⟨λpins s σ H F Γ I fo rl cM=>?_⟩
 refine rp (vm I hg hm ?_ jW)
 refine JO (h₀:=X.base) I.ok.mod.s_ Fn.kp (aH (ha.run pos pins s σ H F Γ I fo rl (R.left cM)) (λus s1 ⟨ds,vs,H1,e1,I1,r1,S1,i1⟩=>⟨I1.nA,?_⟩) λ_ _ x=>x.bind _) he jH
 have a9:=R.next cM e1
 cases q:φ ds with
 | no=>rw[q] at a9;exact absurd rfl a9
 | er c=>rw[q] at a9;exact absurd rfl a9
 | ok d =>
   refine aH (w7e (EE:=cb X pins σ H (z8a φ gs Γ)) Fn hr I1 (fo.same S1) r1 i1 q) (λu s' ⟨v,H',I',rv,S,h2⟩=>?_) λ_ _ z=>z
   have e2:z8a φ gs Γ = .ok d:=(R.step e1 _).trans (by rw[q])
   exact⟨d,v,H',e2,I',rv,S1.trans S,h2⟩
end
section
variable {X:Cx}{e:Expr}{g:G->R D}{pos pt:Pos}
end
section
variable {prog:bw}{w:aY}{A:Around}{E:ae->aq->Prop}{s:aq}
end
section
variable {X:Cx}{a:Expr}{ga:G->R D}{st:Expr}{gt:G->R (Option Int)}{pos p2:Pos}
end
theorem Ql:∀(bs:List Int) (n:Nat),preSum (λi=>(bs[i]?).getD 0) n=(bs.take n).sum
 | bs,0=>by simp[preSum]
 | bs,n+1=>by
   have ih:=Ql bs n
   have e:preSum (λi=>(bs[i]?).getD 0) (n+1)=preSum (λi=>(bs[i]?).getD 0) n+(bs[n]?).getD 0:=rfl
   rw[e,ih,AL,a6a]
   cases bs[n]? with
   | none=>simp
   | some x=>simp
section
variable {X:Cx}{e a b c:Expr}{g ga gb gc:G->R D}{pos:Pos}
theorem x8o(hc:X.calm=true):jo X (.builtin "sum") (λxs H Q=>∃(a:Addr) (bs:List Int),xs=[.ref a]/\cE X.K H a (bs.map V.int)/\Q (.int bs.sum) H):=by
 intro pins s σ H xs us Q I r h
 obtain⟨a,bs,rfl,hq,q⟩:=h
 obtain⟨u,rfl,ru⟩:=rP r
 cases ru
 obtain⟨its,rv,pl,_⟩:=I.tuple hq
 have hl:s.heap.IsTuple a its.toArray:=pl
 have bO:a<s.heap.objs.size:=by obtain⟨_,e,_⟩:=hl;exact bx e
 have hlen:its.length=bs.length:=by rw[<-rv.length,bD]
 refine call_sum_walkG (xq hl ?_)
 refine⟨s.heap.objs.size,[s.heap.objs.size,a],[s.heap.objs.size],its.toArray.size,_,_,λi=>(bs[i]?).getD 0,rfl,Walks.tuple (A:=X.A.in1) (I.ok.hd hc) _ a (cX bO) its.toArray,
  ⟨⟨_,c_ _ rfl,rfl,rfl⟩,hl.push _⟩,λb hb=>?_,λi v hP=>?_,λh' tk t' hk=>?_⟩
 ·have hs:(s.heap.push { cls:=.type "tuple_iterator",data:=.fields #[.ref a,.int 0 0] }).objs.size=s.heap.objs.size+1:=fG ..
  simp only[fh,gR,or_false] at hb
  rcases hb with rfl | rfl
  ·show s.heap.objs.size<(s.heap.push _).objs.size
   rw[fG];exact xw _
  ·show b<(s.heap.push _).objs.size
   rw[fG];exact xA bO
 ·obtain⟨b,t,e,rfl⟩:=Hh rv (i:=i) (v:=v) (by simpa using hP)
  exact⟨t,by show kM b t=kM ((bs[i]?).getD 0) t;rw[e];rfl⟩
 ·have e:preSum (λi=>(bs[i]?).getD 0) its.toArray.size=bs.sum:=by
   rw[Ql,dj,hlen,AE (bA _)]
  refine⟨.int bs.sum,H,I.kept (λb x ex=>hk b x (λhm=>by rw[List.mem_singleton.mp hm] at ex;exact dS _ (bx ex)) (bB _ ex)),⟨t',by rw[e]⟩,q⟩
theorem w4s(hc:X.calm=true):mQ X (.builtin "sum") tI:=by
 refine⟨_,x8o (X:=X.bZ) hc,λH xs ds i hg=>?_⟩
 unfold tI at hg
 split at hg
 ·rename_i ys
  obtain⟨v,rfl,h⟩:=n_ i
  obtain⟨a,zs,rfl,h1,h2⟩:=Is.eQ.mp h
  cases q:gv ys with
  | none=>rw[q] at hg;exact absurd rfl hg
  | some ns =>
    have:=vA q
    subst this
    rw[h2.wd] at h1
    exact⟨a,ns,rfl,h1,.int ns.sum,by show tI [.tup (ns.map D.int)]=_;simp only[tI,q],.refl _,Is.bT.mpr rfl⟩
 ·exact absurd rfl hg
end
theorem xT:∀{ns:List Int} {us:List ae},ka us ns->Vals (ns.map V.int) us
 | _,_,.nil=>.nil
 | _,_,.cons n t h=>.cons ⟨t,rfl⟩ (xT h)
section
variable {X:Cx}{e a b c:Expr}{g ga gb gc:G->R D}{pos:Pos}
end
theorem Hn(d:D):∀ys:List D,((D.c9 ys).any λy=>y.eqv d.py)=ys.any λy=>bN y d
 | []=>by simp[D.c9]
 | y::ys=>by rw[D.c9,JN,JN,Hn d ys,zf]
section
variable {X:Cx}
end
theorem y7l{α:Type}{M:oI}{A:Around}{E:ae->aq->Prop}{s:aq}{b:Bool}{t u:Sem α}{Q:α->aq->Prop}(h1:az M A t Q E s)(h2:az M A u Q E s):az M A (if b=true then t else u) Q E s:=by
 cases b
 ·exact h2
 ·exact h1
section
variable {prog:bw}{w:aY}{A:Around}{E:ae->aq->Prop}{s:aq}
end
section
variable {X:Cx}{a b:Expr}{ga gb:G->R D}
end
section
variable {X:Cx}{e a b c:Expr}{g ga gb gc:G->R D}{gs:G->R (List D)}{pos pos' p:Pos}
theorem x5j(i:Nat){x:Str}{apos eF:Pos}(he:PF X e gs)(hN:X.N[i]? = some x:=by rfl)(hv:ny X.env.scope x:=by first | exact iJ rfl | exact fF (iJ rfl) | exact fF (fF rfl))(hd:(x==("__debug__":Str))=false:=by decide)(fq:(x==("__classdict__":Str))=false:=by decide)
 (qM:xu (.Call (.Attribute (.Name x p) "extend" apos) [e] [] eF) none pos.line X.env=pure false:=by rfl)
 (uq:JQ (.Name x p) "extend" X.env (eval (.Name x p) X.env)=eval (.Name x p) X.env:=by rfl)
 (ur:((de eF (bR [e] X.env)).all (λx=>!x.1)&&(rA eF (rB [] X.env)).all (λx=>x.1.isSome)
   && decide ([e].length+([]:List qZ).length+(if ([]:List qZ).isEmpty then 0 else 1)<30))=true:=by rfl)
 (uu:(apos.endLine==eF.line)=true:=by rfl) (hs:bR [e] X.env=(false,eval e X.env)::bR [] X.env:=by rfl) :
 PQ X (.Expr (.Call (.Attribute (.Name x p) "extend" apos) [e] [] eF) pos) (tJ i gs):=by
 refine⟨λpins s σ H F Γ I fo rl hg=>?_⟩
 refine a7g ?_ I.quiet qM
 have zM:∃ds,Γ[i]? = some (.own ds):=by
  unfold tJ at hg
  split at hg
  ·rename_i ds e1;exact⟨ds,e1⟩
  ·exact absurd rfl hg
 obtain⟨ds,eo⟩:=zM
 have zN:tJ i gs Γ=lift (gs Γ) Γ λes=>R.guard (ds.length+es.length<=100000) (.ok (.nx (Γ.set i (.own (ds++es))))):=by unfold tJ;rw[eo]
 rw[zN] at hg ⊢
 obtain⟨a',xs,h1,hF,h3,h4⟩:=rl.own i ds eo
 refine JR uq ur uu rfl (aH (vj (X:=X.bZ) hN hv hd fq pins s σ H (λv' H'=>v' = .ref a'/\H'=H) (I.dw _) ⟨.ref a',h1,rfl,rfl⟩) (λv s1 ⟨v',H',I1,r1,e1,e2⟩=>?_) λ_ _ z=>di z)
 subst e1 e2
 have zO:=I1.fJ
 obtain⟨t1,t2⟩:=Em (T:="list") zO r1 (.inl ⟨rfl,xs,bW.of h3⟩)
 refine⟨"list",_,Tj,PySem.F.slot_list_extend,PySem.F.type_list_extend,t1,t2,?_⟩
 rw[hs]
 refine JS rfl (JT ?_)
 show az _ _ (h_ ((false,eval e X.env)::de eF [])) _ _ s1
 refine jk (aH (he.run pins s1 σ H' F Γ zO fo rl (jO hg)) (λu s2 hq=>l9 ?_) λ_ _ x=>x.lift fo rl _)
 obtain⟨es,l,zs,H2,e3,I2,r2,S2,xJ,mh,ia⟩:=hq
 have eU:=Bv hg e3
 obtain⟨hl,e4⟩:=R.dz eU
 have GR:=S2 _ _ h3
 have ly:(100001:Nat)<=cq:=by rw[lV];decide
 have lJ:=h4.length
 have hzl:=ia.length
 refine aH (Vj (X:=X.bZ) pins s2 σ H2 (.ref a') [.ref l] v [u] (λz sI=>z = .bS/\sI=upd H2 a' (.lst (xs++zs))) (I2.dw _) r1 (.cons r2 .nil) ⟨a',l,xs,zs,rfl,rfl,GR,mh,by lia,rfl,rfl⟩) (λw' s3 ⟨z,sI,I3,rz,ez,eH⟩=>?_) λ_ _ z=>di z
 subst ez eH
 have ne:l≠a':=λz=>by rw[z,h3] at xJ;cases xJ
 have um:aC X.K (aS F H2) es zs:=ia.same λb o hb=>by
  obtain⟨z1,z2⟩:=kD hb
  rw[fc λz=>z1 (bY _ z)]
  exact z2
 obtain⟨qL,PC⟩:=(rl.same S2).put eo h1 (xs':=xs++zs) (ds':=ds++es) ((h4.same (gG S2)).append um)
 refine⟨_,(jP e3).trans e4,σ,_,F,I3.fJ,λb hb=>?_,qL,⟨λb o hb h=>?_,λb hb=>.inl hb⟩⟩
 ·by_cases sJ:b=a'
  ·exact⟨xs++zs,by rw[sJ];exact dq⟩
  ·obtain⟨ys,q⟩:=fo b hb
   exact⟨ys,by rw[bP sJ];exact S2 _ _ q⟩
 ·rw[bP (λz=>hb (by rw[z];exact hF))];exact S2 _ _ h
end
def At(xs:Array Nat)(j i:Nat):Prop:=i<=xs.size/\(∀(k v:Nat),k<i->xs[k]? = some v->v<j)/\(∀(k v:Nat),i<=k->xs[k]? = some v->j<=v)
theorem Ho{xs:Array Nat}{j:Nat}(j6:xs.toList.Pairwise (·<·)):∀(fuel lo hi:Nat),hi-lo<=fuel->lo<=hi->hi<=xs.size->(∀(k v:Nat),k<lo->xs[k]? = some v->v<j)->(∀(k v:Nat),hi<=k->xs[k]? = some v->j<=v) ->
 At xs j (Kg xs j fuel lo hi)
 | 0,lo,hi,h1,h2,h3,h4,h5=>by
   have e:lo=hi:=by lia
   subst e
   exact⟨h3,h4,h5⟩
 | fuel+1,lo,hi,h1,h2,h3,h4,h5=>by
   rw[show Kg xs j (fuel+1) lo hi=(if lo<hi then (if xs.getD ((lo+hi)/2) j<j then Kg xs j fuel ((lo+hi)/2+1) hi else Kg xs j fuel lo ((lo+hi)/2)) else lo) from rfl]
   by_cases q:lo<hi
   ·rw[if_pos q]
    have hm:(lo+hi)/2<xs.size:=by lia
    have hg:xs.getD ((lo+hi)/2) j=xs[(lo+hi)/2]:=by simp[Array.getD,hm]
    have mono:∀(a b va vb:Nat),a<=b->xs[a]? = some va->xs[b]? = some vb->va<=vb:=λa b va vb uz ea eb=>by
     rcases dt a b with w | w
     ·obtain⟨ha,Hr⟩:=Array.getElem?_eq_some_iff.mp ea
      obtain⟨hb,Hs⟩:=Array.getElem?_eq_some_iff.mp eb
      have:=List.pairwise_iff_getElem.mp j6 a b (by simpa using ha) (by simpa using hb) w
      rw[vf,vf,Hr,Hs] at this
      lia
     ·have:a=b:=by lia
      rw[this,eb] at ea;cases ea;exact bA _
    have em:xs[(lo+hi)/2]? = some xs[(lo+hi)/2]:=nq hm
    by_cases z:xs.getD ((lo+hi)/2) j<j
    ·rw[if_pos z]
     rw[hg] at z
     exact Ho j6 fuel _ hi (by lia) (by lia) h3 (λk v hk e=>DF (mono k _ v _ (by lia) e em) z) h5
    ·rw[if_neg z]
     rw[hg] at z
     exact Ho j6 fuel lo _ (by lia) (by lia) (by lia) h4 (λk v hk e=>dD (by lia) (mono _ k _ v hk em e))
   ·rw[if_neg q]
    have e:lo=hi:=by lia
    subst e
    exact⟨h3,h4,h5⟩
theorem Qm{xs:Array Nat}(j6:xs.toList.Pairwise (·<·))(j:Nat):At xs j (vg xs j) :=
 Ho j6 xs.size 0 xs.size (by lia) (ji _) (bA _) (λk v hk=>absurd hk (rm _)) λk v hk e=>by
  obtain⟨h,_⟩:=Array.getElem?_eq_some_iff.mp e
  lia
theorem x6s{xs:Array Nat}{j:Nat}(j6:xs.toList.Pairwise (·<·))(hj:xs[vg xs j]? ≠ some j):(SetTable.insertAt xs (vg xs j) j).toList.Pairwise (·<·):=by
 obtain⟨b1,b2,b3⟩:=Qm j6 j
 generalize vg xs j=i at *
 rw[SetTable.toList_insertAt]
 have ht:xs.toList=xs.toList.take i++xs.toList.drop i:=(a6c i _).symm
 have hp:=j6
 rw[ht] at hp
 obtain⟨p1,p2,p3⟩:=List.pairwise_append.mp hp
 have z_:∀v∈xs.toList.take i,v<j:=λv hv=>by
  obtain⟨k,hk,e⟩:=List.mem_take_iff_getElem.mp hv
  refine b2 k v (by lia) ?_
  have Aa:k<xs.size:=by have:=hk;simp at this;lia
  rw[nq Aa,<-e,vf]
 have Qn:∀v∈xs.toList.drop i,j<v:=λv hv=>by
  obtain⟨k,hk,e⟩:=List.mem_drop_iff_getElem.mp hv
  have Aa:i+k<xs.size:=by simp at hk;lia
  have ek:xs[i+k]? = some v:=by rw[nq Aa,<-e,vf]
  have h1:=b3 (i+k) v (by lia) ek
  by_cases z:j=v
  ·exfalso
   subst z
   cases k with
   | zero=>exact hj ek
   | succ k =>
     have Qo:i<xs.size:=by lia
     have h2:=b3 i xs[i] (bA _) (nq Qo)
     have h3:=List.pairwise_iff_getElem.mp j6 i (i+(k+1)) (by simpa using Qo) (by simpa using Aa) (by lia)
     rw[vf,vf] at h3
     have h4:xs[i+(k+1)]=j:=by rw[nq Aa] at ek;exact iZ ek
     lia
  ·lia
 refine List.pairwise_append.mpr ⟨p1,List.pairwise_cons.mpr ⟨Qn,p2⟩,λx hx y hy=>?_⟩
 rcases List.mem_cons.mp hy with e | e
 ·rw[e];exact z_ x hx
 ·exact Kh (z_ x hx) (Qn y e)
structure fg (led:Bool) (t:fH):Prop where
 led:t.led=led
 sN:t.dummies=#[]
 up:t.plain=true->t.place.toList.Pairwise (·<·)
theorem fg.Dc{led:Bool}{t:fH}(h:fg led t)(n:Nat):fg led (t.standIn n):=⟨h.led,rfl,λz=>by cases z⟩
theorem fg.a0e{led:Bool}{t:fH}(h:fg led t)(n:Nat):fg led (t.orStandIn n):=by
 unfold SetTable.orStandIn
 split
 ·exact h
 ·exact h.Dc n
theorem Qp{t:fH}(h:t.dummies=#[])(j:Nat):SetTable.has t.dummies j=false:=by rw[h];rfl
theorem Qq{t:fH}(h:t.dummies=#[]){f:Nat->Int}{x:Int}:∀(fuel:Nat) (q:SetTable.Probe) {j:Nat} {d:Option Nat},q.dummy=none->a7w t f x fuel q=some (.empty j d)->d=none/\t.slot j = .empty
 | 0,q,j,d,_,e=>by cases e
 | fuel+1,q,j,d,hq,e=>by
   unfold a7w at e
   cases hs:t.slot q.j with
   | empty =>
     rw[hs] at e
     simp only[xj,SetTable.Met.empty.injEq] at e
     obtain⟨rfl,rfl⟩:=e
     exact⟨hq,hs⟩
   | dummy =>
     exfalso
     unfold SetTable.slot at hs
     rw[Qp h] at hs
     dsimp only at hs
     split at hs
     ·cases hs
     ·simp at hs
   | live i =>
     rw[hs] at e
     dsimp only at e
     split at e
     ·cases e
     ·refine Qq h fuel _ ?_ e
      unfold SetTable.advance
      split<;>exact hq
theorem fg.a0f{led:Bool}{t:fH}{x:Int}{j:Nat}{d:Bool}(h:fg led t)(e:t.freeSlot x=some (j,d)):fg led (t.put j).1:=by
 unfold SetTable.freeSlot at e
 cases hq:t.probe (λ_=>x+1) x (t.probeStart x) with
 | none=>rw[hq] at e;cases e
 | some m =>
   rw[hq] at e
   cases m with
   | candidate _ _ _=>cases e
   | empty j' d' =>
     obtain⟨rfl,hs⟩:=Qq h.sN _ _ rfl hq
     simp only[Sa,xj,Ki] at e
     obtain⟨rfl,_⟩:=e
     have hn:t.place[vg t.place j']? ≠ some j':=λz=>by
      unfold SetTable.slot at hs
      dsimp only at hs
      rw[z] at hs
      simp at hs
     refine⟨h.led,?_,λz=>x6s (h.up z) hn⟩
     show(if SetTable.has t.dummies j' then _ else t.dummies)=#[]
     rw[Qp h.sN,h.sN];rfl
theorem fg.a0g{led:Bool}{t:fH}(h:fg led t)(es:Array (Int×ae))(x:Int)(v:ae):fg led (layNew t es x v).2.1:=by
 unfold layNew
 cases hq:t.freeSlot x with
 | none=>exact h.Dc _
 | some p =>
   obtain⟨j,d⟩:=p
   exact(h.a0f hq).a0e _
theorem w3z{mask finger moves:Nat}{led plain:Bool}{hs:Array Int}{t:fH}{o:Array Nat}(e:SetTable.laid mask finger moves led plain hs=some (t,o)):fg led t:=by
 unfold SetTable.laid at e
 cases hq:SetTable.layClean mask hs with
 | none=>rw[hq] at e;cases e
 | some owner =>
   rw[hq] at e
   simp only[Option.bind_eq_bind,Option.bind_some,Option.pure_def,xj,Ki] at e
   obtain⟨rfl,_⟩:=e
   refine⟨rfl,rfl,λ_=>?_⟩
   show(List.map (·.1) ((bL (mask+1)).filterMap λj=>(owner.getD j none).map (j,·))).Pairwise (·<·)
   rw[List.pairwise_map]
   refine List.pairwise_filterMap.mpr (List.pairwise_lt_range.imp λ{a b} uz x hx y hy=>?_)
   cases ha:owner.getD a none with
   | none=>rw[ha] at hx;cases hx
   | some u =>
     cases hb:owner.getD b none with
     | none=>rw[hb] at hy;cases hy
     | some w =>
       rw[ha] at hx;rw[hb] at hy
       cases hx;cases hy
       exact uz
theorem fg.a0h{led:Bool}{t:fH}(h:fg led t)(es:Array (Int×ae))(n:Nat):fg led (A1 t es n).2.1:=by
 unfold A1
 cases hq:t.relaid (es.map (·.1)) n with
 | none=>exact h.Dc _
 | some p =>
   obtain⟨t',o⟩:=p
   dsimp only
   split
   ·unfold SetTable.relaid at hq
    have:=w3z hq
    rw[h.led] at this
    exact this
   ·exact h.Dc _
theorem fg.a0i{led:Bool}{t:fH}(h:fg led t):fg led { t with plain:=false }:=⟨h.led,h.sN,λz=>by cases z⟩
section
variable {prog:bw}{w:aY}{A:Around}{E:ae->aq->Prop}{s:aq}
def je(prog:bw)(w:aY)(led:Bool)(h:Heap)(a:Addr)(S:Int->Bool)(n:Nat):Prop :=
 ∃(o:Obj) (es:Array (Int×ae)) (ep:Nat) (t:fH),(h.get? a=some o/\o.ExactSet/\o.data = .set es ep t)/\(Kj (gK prog w) es.toList/\∀k,S k=true↔∃e∈es.toList,(gK prog w).is k e.2=true)/\(es.size<rF/\t.fits es.size=true/\es.size=n)/\fg led t
theorem je.jf{led:Bool}{h h':Heap}{a:Addr}{S:Int->Bool}{n:Nat}(x:je prog w led h a S n)(e:∀o,h.get? a=some o->h'.get? a=some o):je prog w led h' a S n:=by
 obtain⟨o,es,ep,t,⟨q1,q2,q3⟩,rest⟩:=x
 exact⟨o,es,ep,t,⟨e o q1,q2,q3⟩,rest⟩
theorem je.Qr{led:Bool}{h:Heap}{a:Addr}{S S':Int->Bool}{n n':Nat}(x:je prog w led h a S n)(e:∀k,S k=S' k)(en:n=n'):je prog w led h a S' n':=by
 have:S=S':=funext e
 subst this en
 exact x
theorem Qs{led:Bool}{h:Heap}{a:Addr}{o:Obj}{es cU:Array (Int×ae)}{ep:Nat}{t t':fH}{S':Int->Bool}(q1:h.get? a=some o)(q2:o.ExactSet)(q3:o.data = .set es ep t)
 (q4:Kj (gK prog w) cU.toList) (q5:∀k,S' k=true↔∃e∈cU.toList,(gK prog w).is k e.2=true) (q6:cU.size<rF) (q7:t'.fits cU.size=true) (q8:fg led t') :
 (h.update a (Tv cU t')).get? a=some { o with data:=.set cU (ep+1) t' }/\je prog w led (h.update a (Tv cU t')) a S' cU.size:=by
 have g:=(SetOf_store (knd:=gK prog w) q1 q2 q3 q4 q5 q6 q7).1
 exact⟨g,_,cU,ep+1,t',⟨g,q2,rfl⟩,⟨q4,q5⟩,⟨q6,q7,rfl⟩,q8⟩
theorem Qt{led:Bool}{g:Bool->Sem Unit}(hg:∀(b:Bool) (s1:aq) (Q1:Unit->aq->Prop),Q1 () s1->az (aJ prog w) A (g b) Q1 E s1)
 {a:Addr} {o:Obj} {es dr:Array (Int×ae)} {ep:Nat} {t t2:fH} {S':Int->Bool} {sN:Bool} {Z:Option Bool->aq->Prop} (q1:s.heap.get? a=some o) (q2:o.ExactSet) (q3:o.data = .set es ep t)
 (q4:Kj (gK prog w) dr.toList) (q5:∀k,S' k=true↔∃e∈dr.toList,(gK prog w).is k e.2=true) (q6:dr.size<rF) (q7:t2.fits dr.size=true) (q8:fg led t2)
 (z:∀h',sQ a s.heap h'->je prog w led h' a S' dr.size->Z (some true) { s with heap:=h' }) :
 az (aJ prog w) A (do
  storeSet a dr t2
  if (!sN&&t2.tooFull)=true then do
      g (A1 t2 dr (xB dr.size)).2.2
      storeSet a (A1 t2 dr (xB dr.size)).1 (A1 t2 dr (xB dr.size)).2.1
      pure (some true)
   else pure (some true)) Z E s:=by
 refine ay (a7x q1 q3 ?_ (a7y q6))
 obtain⟨u1,u2⟩:=Qs (prog:=prog) (w:=w) q1 q2 q3 q4 q5 q6 q7 q8
 have sb:=rD s.heap a (Tv dr t2)
 by_cases full:(!sN&&t2.tooFull)=true
 ·rw[if_pos full]
  have v1:=relayAll_perm t2 dr (xB dr.size)
  have v2:=relayAll_fits t2 dr (xB dr.size)
  have v3:=q8.a0h dr (xB dr.size)
  generalize A1 t2 dr (xB dr.size)=W at v1 v2 v3 ⊢
  obtain⟨CN,t3,gave⟩:=W
  dsimp only at v1 v2 v3 ⊢
  have v4:CN.size=dr.size:=by rw[<-jg,v1.length_eq,jg]
  have v5:CN.size<rF:=by lia
  refine ay (hg _ _ _ ?_)
  refine ay (a7x u1 rfl ?_ (a7y v5))
  obtain⟨_,u3⟩:=Qs (prog:=prog) (w:=w) (S':=S') u1 q2 rfl (q4.perm v1) (λk=>(q5 k).trans ⟨λ⟨e,he,q⟩=>⟨e,v1.mem_iff.mpr he,q⟩,λ⟨e,he,q⟩=>⟨e,v1.mem_iff.mp he,q⟩⟩) v5 v2 v3
  rw[v4] at u3
  exact aP (z _ (sb.trans (rD _ a _)) u3)
 ·rw[if_neg full]
  exact aP (z _ sb u2)
theorem a0j{led:Bool}{a:Addr}{S:Int->Bool}{n:Nat}{k:Int}{x:ae}{Q:Bool->aq->Prop}(hx:(gK prog w).is k x=true)(Ht:x.scannable=true)(hS:je prog w led s.heap a S n)(room:n+1<rF)
 (z:∀h',sQ a s.heap h'->je prog w led h' a (λk'=>S k'||decide (k'=k)) (if S k then n else n+1)->Q (!S k) { s with heap:=h' }) :
 az (aJ prog w) A (setAddHashed a x ((gK prog w).hash k)) Q E s:=by
 obtain⟨o,es,ep,t,⟨q1,q2,q3⟩,⟨q4,q5⟩,⟨q6,q7,q9⟩,q8⟩:=hS
 have more:es.size+1<rF:=by lia
 unfold setAddHashed setAddHashedIn
 refine oK (ay (A2 q1 q3 q7 ?_))
 dsimp only
 rw[byScan_of Ht q6 q4]
 simp only[↓reduceIte]
 unfold setAddByScan
 refine ay (ay (vc (ay (wpAny_setScan_of hx q1 q3 q7 q4 ?_))))
 cases hr:List.findIdx? (λe=>(gK prog w).is k e.2) es.toList with
 | some j =>
   dsimp only
   obtain⟨j1,j2,_⟩:=List.findIdx?_eq_some_iff_getElem.mp hr
   have sk:S k=true:=(q5 k).mpr ⟨es.toList[j],pS j1,j2⟩
   refine aP (aP ?_)
   have e:s={ s with heap:=s.heap }:=by cases s;rfl
   have y:=z s.heap (Heap.SameBut.refl a s.heap) ⟨o,es,ep,t,⟨q1,q2,q3⟩,⟨q4,λk'=>by
    rw[DU,decide_eq_true_eq,<-q5 k']
    exact⟨λhk=>hk.elim id (λe=>e ▸ sk),.inl⟩⟩,⟨q6,q7,by rw[sk];exact q9⟩,q8⟩
   rw[sk] at y
   rw[e];exact y
 | none =>
   dsimp only
   have sk:S k=false:=by
    cases hk:S k with
    | false=>rfl
    | true =>
      obtain⟨e,he,hp⟩:=(q5 k).mp hk
      have:=List.findIdx?_eq_none_iff.mp hr e he
      rw[hp] at this;cases this
   have v1:=layNew_perm t es ((gK prog w).hash k) x
   have v2:=layNew_fits t es ((gK prog w).hash k) x
   have v3:=q8.a0g es ((gK prog w).hash k) x
   generalize layNew t es ((gK prog w).hash k) x=W at v1 v2 v3 ⊢
   obtain⟨dr,t1,sN,gave⟩:=W
   dsimp only at v1 v2 v3 ⊢
   rw[a7z] at v1
   have a0k:dr.size=n+1:=by rw[<-jg,v1.length_eq,hU,jg,q9];rfl
   have u4:Kj (gK prog w) dr.toList:=(q4.push hx Ht).perm v1
   have u5:∀k',(S k'||decide (k'=k))=true↔∃e∈dr.toList,(gK prog w).is k' e.2=true:=mem_push_iff hx q5 v1
   have u6:dr.size<rF:=by lia
   have gw:∀(b:Bool) (s1:aq) (Q1:Unit->aq->Prop),Q1 () s1->az (aJ prog w) A (match b with | true=>rule "set.scan.the-table-gave-way" | false=>pure ()) Q1 E s1:=λb s1 Q1 hq=>by
    cases b
    ·exact aP hq
    ·exact vc hq
   have fin:∀h',sQ a s.heap h'->je prog w led h' a (λk'=>S k'||decide (k'=k)) dr.size->Q true { s with heap:=h' }:=λh' sb y=>by
    have y2:=z h' sb
    rw[sk] at y2
    rw[a0k] at y
    exact y2 y
   refine ay (gw _ _ _ ?_)
   by_cases pl:t1.plain=true
   ·rw[if_pos pl]
    refine ay ?_
    rw[hashByValue_scannable 8 Ht]
    refine aP ?_
    have v2':(if plainKind x=true then t1 else { t1 with plain:=false }).fits dr.size=true:=by
     split
     ·exact v2
     ·exact SetTable.fits_plain_off v2
    have v3':fg led (if plainKind x=true then t1 else { t1 with plain:=false }):=by
     split
     ·exact v3
     ·exact v3.a0i
    refine Qt gw q1 q2 q3 u4 u5 u6 v2' v3' ?_
    intro h' sb y
    exact aP (fin h' sb y)
   ·rw[if_neg pl]
    refine ay (aP ?_)
    simp only[↓reduceIte]
    refine Qt gw q1 q2 q3 u4 u5 u6 v2 v3 ?_
    intro h' sb y
    exact aP (fin h' sb y)
end
section
variable {prog:bw}{w:aY}{A:Around}{E:ae->aq->Prop}{s:aq}
def iF(w:aY):Bool:=!(w.params.followText "set-order")
theorem w2h{led:Bool}{Z:Aw->aq->Prop}{I:Addr}{fp wr:List Addr}{G:Array Jg->Array Jg->Prop}{n:Nat}{P:Nat->ae->Prop}{St:Nat->aq->Prop}(W:WalksS prog w A.in1 I fp wr G n P St)(a:Addr)(ha:a ∉ fp)
 (val:Nat->Int) (Hv:∀i v,P i v->∃t,v = .int (val i) t) (hb:n+1<rF) :
 ∀(k i:Nat) (s:aq),n-i=k->i<=n->St i s->je prog w led s.heap a (λk'=>(oW val i).any (·==k')) (oW val i).length ->
  (∀s',Moved (a::wr) G s s'->je prog w led s'.heap a (λk'=>(oW val n).any (·==k')) (oW val n).length->Z (.ok (.ret .none)) s') ->
  m9 (aJ prog w) A (.builtin "set.update.loop" ⟨[.ref a,.ref I],[]⟩) Z s:=by
 have aw:a ∉ wr:=λh=>ha (W.sub _ h)
 have Qu:∀b∈wr,b∈a::wr:=λb hb=>bY _ hb
 intro k
 induction k with
 | zero =>
   intro i s hk hi st hS hZ
   obtain rfl:i=n:=by lia
   refine xC a8a ?_
   rw[D3 Tw _]
   show az _ A.in1 (hG (.ref I)>>=_) _ _ s
   refine ay (W.done s _ _ st λs' mv=>?_)
   exact aP (hZ s' (mv.mono Qu) (hS.jf λo e=>mv.heap a o aw e))
 | succ k ih =>
   intro i s hk hi st hS hZ
   have lt:i<n:=by lia
   refine xC a8a ?_
   rw[D3 Tw _]
   show az _ A.in1 (hG (.ref I)>>=_) _ _ s
   refine ay (W.item i s _ _ lt st λv s' hP kR mv=>?_)
   obtain⟨t,rfl⟩:=Hv i v hP
   have hS':=hS.jf λo e=>mv.heap a o aw e
   show az _ A.in1 (AQ [kM (val i) t] (setAdd a (.int (val i) t))>>=_) _ _ s'
   refine ay (oK ?_)
   unfold setAdd
   refine oK (ay ((gK prog w).pyHash (k:=val i) (intKind_is _ _ _ _) ?_))
   refine a0j (s:={ s' with toks:=s'.toks+1 }) (intKind_is _ _ _ _) rfl hS' (by have:=a8b val i;lia) λh' sb y=>?_
   have y':je prog w led h' a (λk'=>(oW val (i+1)).any (·==k')) (oW val (i+1)).length:=y.Qr (λk'=>by rw[Tx,step_any]) (by rw[Tx,step_length])
   refine aP ⟨Kk Tw _,ih (i+1) _ (by lia) lt (W.frame _ s' _ _ kR (Nat.le_succ _) λb hb o e=>?_) y' λxO mv' y''=>?_⟩
   ·rw[sb.2 b (λz:b=a=>ha (by rw[<-z];exact hb))];exact e
   ·refine hZ xO (Moved.trans W.gtrans ((mv.mono Qu).then_heap (Nat.le_succ _) λb o hb e=>?_) mv') y''
    rw[sb.2 b (λz:b=a=>hb (by rw[z];exact bV))];exact e
theorem a0l(v:ae){Q1:ae->aq->Prop}(q:Q1 (.ref s.heap.objs.size) { s with heap:=s.heap.push { cls:=.type "set",dict:=none,data:=.set #[] 0 (.fresh 0 0 (iF w)) } }) :
 m9 (aJ prog w) A (.call (.builtin "set.__new__") ⟨[.type "set",v],[]⟩) (Kl Q1 E) s:=by
 refine TB (show az _ A.in1 (do a8c "set.__new__" ⟨[.type "set",v],[]⟩;again (.builtin "set.__new__" ⟨[.type "set",v],[]⟩)) _ _ s from ?_)
 refine ay (J3 (F.newCall_set_1 v) (aP ⟨Kk a8d _,xC F.entry_set_new ?_⟩))
 rw[D3 a8d _];unfold gr.«set.__new__» Builtin.Frozenset.newClass
 have C6:=sub_set_self
 obtain⟨hp,g,d,tk,os⟩:=s
 dsimp only
 wp_walk
 refine TC (aP ?_)
 dsimp only
 simp only[newObj]
 exact ay (Tu (aP (aP q)))
end
section
variable {prog:bw}{w:aY}{A:Around}{E:ae->aq->Prop}{s:aq}
theorem w6o{led:Bool}{h:Heap}{a:Addr}(e:h.get? a=some { cls:=.type "set",dict:=none,data:=.set #[] 0 (.fresh 0 0 led) }):je prog w led h a (λ_=>false) 0 :=
 ⟨_,#[],0,_,⟨e,⟨rfl,rfl,rfl⟩,rfl⟩,⟨λe he=>by simp at he,λk=>by simp⟩,⟨by decide,by rfl,rfl⟩,⟨rfl,rfl,λ_=>.nil⟩⟩
theorem w0q{l:Addr}{items:Array ae}{ns:List Int}{Q:ae->aq->Prop}(hh:A.handled=none)(hl:s.heap.IsList l items)(hi:ka items.toList ns)(hb:items.size+1<rF)
 (q:∀(h':Heap) (tk:Nat),je prog w (iF w) h' s.heap.objs.size (λk'=>(oW (λi=>ns.getD i 0) items.size).any (·==k')) (oW (λi=>ns.getD i 0) items.size).length ->
   (∀b o,b<s.heap.objs.size->s.heap.get? b=some o->h'.get? b=some o)->Q (.ref s.heap.objs.size) { s with heap:=h',toks:=tk }) :
 az (aJ prog w) A (call (.type "set") [.ref l]) Q E s:=by
 obtain⟨c,tl,a0m⟩:=F.called_set.mro
 have a0n:=F.called_set.made;have C6:=F.called_set.sub
 refine DS (TB (show az _ _ (callAny (.type "set") _) _ _ _ from ?_))
 refine aP ⟨a8e _ (by decide +kernel),xC a8f ?_⟩;rw[a8g (a8h "set" [.ref l] []) rfl]
 have h1:=F.called_set.notType;have h2:=F.called_set.canCreate;have hct:=F.typeCall_set_1 (.ref l)
 (repeat (any_goals (first | assumption | wp_step)))
 refine sT (a0l (.ref l) (E:=E) (Q1:=λobj s1=>obj = .ref s.heap.objs.size/\s1={ s with heap:=s.heap.push { cls:=.type "set",dict:=none,data:=.set #[] 0 (.fresh 0 0 (iF w)) } }) ⟨rfl,rfl⟩) λr s1 hr=>?_
 cases r with
 | error e=>exact hr
 | ok fl =>
   cases fl with
   | ret obj =>
     obtain⟨rfl,rfl⟩:=hr
     have hS:(s.heap.push { cls:=.type "set",dict:=none,data:=.set #[] 0 (.fresh 0 0 (iF w)) }).get? s.heap.objs.size=some { cls:=.type "set",dict:=none,data:=.set #[] 0 (.fresh 0 0 (iF w)) }:=c_ _ rfl
     have hT:Km { s with heap:=s.heap.push { cls:=.type "set",dict:=none,data:=.set #[] 0 (.fresh 0 0 (iF w)) } } (.ref s.heap.objs.size) "set":=⟨_,hS,rfl⟩
     have hli:=F.called_set.init.lookup;have hbi:=F.called_set.init.bind (.ref s.heap.objs.size)
     (repeat (any_goals (first | assumption | wp_step)))
     refine sT (TF (R:=Kl (λr s2=>r = .none/\∃h' tk,s2={ s with heap:=h',toks:=tk } /\
      je prog w (iF w) h' s.heap.objs.size (λk'=>(oW (λi=>ns.getD i 0) items.size).any (·==k')) (oW (λi=>ns.getD i 0) items.size).length /\
      (∀b o,b<s.heap.objs.size->s.heap.get? b=some o->h'.get? b=some o)) E) F.called_set.init.plain F.entry_set_init (check_set_init_1 hT ?_)) λr2 s2 uF=>?_
     ·obtain⟨⟨a9w,a0o,a9x,a0p⟩,uA,Qv,nl,wF⟩:=hl
      simp only at Qv wF
      subst Qv wF
      have a0q:(s.heap.push { cls:=.type "set",dict:=none,data:=.set #[] 0 (.fresh 0 0 (iF w)) }).get? l=some { cls:=.type "list",dict:=a0o,data:=.seq items nl,slots:=a0p }:=bB _ uA
      have a9y:=F.sub_list_set;have a9z:=F.sub_list_frozenset
      have aU:(wV "list"==wV "dict")=false:=by decide
      have oH:(s.heap.push { cls:=.type "set",dict:=none,data:=.set #[] 0 (.fresh 0 0 (iF w)) }).IsList l items:=⟨_,a0q,rfl,nl,rfl⟩
      unfold gr.«set.__init__» noKeywords Builtin.Frozenset.updateFrom;generalize hPI:sR=PI
      wp_walk
      subst hPI
      refine rq oH (ay (a8i ?_))
      have Qw:l<s.heap.objs.size:=bx uA
      have hh3:A.in1.in1.in1.handled=none:=by simp[hh]
      have hnI:l≠(s.heap.push { cls:=.type "set",dict:=none,data:=.set #[] 0 (.fresh 0 0 (iF w)) }).objs.size:=by rw[fG];exact cX (xA Qw)
      have hSf:s.heap.objs.size ∉ [(s.heap.push { cls:=.type "set",dict:=none,data:=.set #[] 0 (.fresh 0 0 (iF w)) }).objs.size,l]:=by
       rw[fG];simp only[fh,xg,gR,or_false,not_or];exact⟨cX (xw _),jC Qw⟩
      have Hv:∀(i:Nat) (v:ae),items[i]? = some v->∃t,v = .int ((λi=>ns.getD i 0) i) t:=λi v hv=>hi.int_at i v (by rw[Kn];exact hv)
      refine w2h (led:=iF w) ((Walks.list hh3 _ l hnI items).toS) s.heap.objs.size hSf (λi=>ns.getD i 0) Hv hb (items.size-0) 0 _ (by lia) (ji _) ⟨⟨_,c_ _ rfl,rfl,rfl⟩,(oH.push _)⟩ ?_ ?_
      ·have hg:((s.heap.push { cls:=.type "set",dict:=none,data:=.set #[] 0 (.fresh 0 0 (iF w)) }).push { cls:=.type "list_iterator",data:=.fields #[.ref l,.int 0 0] }).get? s.heap.objs.size=some { cls:=.type "set",dict:=none,data:=.set #[] 0 (.fresh 0 0 (iF w)) }:=bB _ hS
       exact(w6o hg).Qr (λ_=>rfl) rfl
      ·intro s' mv y
       obtain⟨h',g',d',Hw,kT⟩:=s'
       obtain rfl:g'=s.gens:=mv.gens
       obtain rfl:d'=s.drawn:=mv.drawn
       obtain rfl:kT=s.os:=mv.os
       show az _ _ _ _ _ _
       refine aP (show az _ _ (ret lU) _ _ _ from aP ⟨rfl,h',Hw,rfl,y,λb o hb e=>?_⟩)
       have b1:b≠s.heap.objs.size:=cX hb
       have b2:b≠(s.heap.push { cls:=.type "set",dict:=none,data:=.set #[] 0 (.fresh 0 0 (iF w)) }).objs.size:=by rw[fG];exact cX (xA hb)
       exact mv.heap b o (by simp only[fh,xg,gR,or_false,not_or];exact⟨b1,b2⟩) (bB _ (bB _ e))
     ·cases r2 with
      | error e=>exact uF
      | ok Hy =>
        cases Hy with
        | ret r =>
          obtain⟨rfl,h',tk,rfl,y,keep⟩:=uF
          (repeat (any_goals (first | assumption | wp_step)))
          exact q _ _ y keep
        | _=>exact uF.elim
   | _=>exact hr.elim
end
theorem Qx:Manifest.owners.lookup (String.ofList ['r','o','t','a','r','e','t','i','_','t','e','s'].reverse)=some Manifest.sig_set_iterator:=by kernel_rfl
theorem mX:Slot "set_iterator" "__next__" "set_iterator.__next__":=.of (owner:="set_iterator") (n:="__next__") (by rw[a8j,a8k];kernel_rfl) (by decide +kernel) (by decide +kernel) (by decide +kernel) (by first | exact .inl (by decide +kernel) | exact .inr (by decide +kernel)) (by rw[TH];kernel_rfl)
theorem De:TJ table "set_iterator.__next__"=some gr.«set_iterator.__next__»:=entryFor_of_tree (by kernel_rfl)
theorem Df(a:ae):A3 "set_iterator.__next__" ⟨[a],[]⟩:=by unfold A3;rw[TK (id:="set_iterator.__next__") (n:=['_','_','t','x','e','n','_','_']) (o:=['r','o','t','a','r','e','t','i','_','t','e','s']) (by kernel_rfl) Qx];kernel_rfl
theorem Dg:Slot "set_iterator" "__iter__" "set_iterator.__iter__":=.of (owner:="set_iterator") (n:="__iter__") (by rw[a8j,a8k];kernel_rfl) (by decide +kernel) (by decide +kernel) (by decide +kernel) (by first | exact .inl (by decide +kernel) | exact .inr (by decide +kernel)) (by rw[TH];kernel_rfl)
theorem Qy:TJ table "set_iterator.__iter__"=some gr.«dict_keyiterator.__iter__»:=a8l (id':="dict_keyiterator.__iter__") (by kernel_rfl) rfl (by decide +kernel) (by kernel_rfl)
theorem Qz(a:ae):A3 "set_iterator.__iter__" ⟨[a],[]⟩:=by unfold A3;rw[TK (id:="set_iterator.__iter__") (n:=['_','_','r','e','t','i','_','_']) (o:=['r','o','t','a','r','e','t','i','_','t','e','s']) (by kernel_rfl) Qx];kernel_rfl
theorem y4p:TJ table "set.__iter__"=some gr.«frozenset.__iter__»:=a8l (id':="frozenset.__iter__") (by kernel_rfl) rfl (by decide +kernel) (by kernel_rfl)
def lQ(h:Heap)(it a:Addr)(f:ae)(i n ep:Nat):Prop:=∃o,h.get? it=some o/\o.cls = .type "set_iterator"/\o.data = .fields #[f,.int i 0,.ref a,.int n 0,.int ep 0]
theorem lQ.kJ{s:aq}{it a:Addr}{f:ae}{i n ep:Nat}(x:lQ s.heap it a f i n ep):s.TypeIs (.ref it) "set_iterator":=let ⟨o,ho,hc,_⟩:=x;⟨o,ho,hc⟩
theorem lQ.jf{h h':Heap}{it a:Addr}{f:ae}{i n ep:Nat}(x:lQ h it a f i n ep)(e:∀o,h.get? it=some o->h'.get? it=some o):lQ h' it a f i n ep:=let ⟨o,ho,r⟩:=x;⟨o,e _ ho,r⟩
def g_(h:Heap)(a:Addr)(es:Array (Int×ae))(ep:Nat)(t:fH):Prop:=∃o,h.get? a=some o/\o.ExactSet/\o.data = .set es ep t/\t.fits es.size=true
theorem g_.jf{h h':Heap}{a:Addr}{es:Array (Int×ae)}{ep:Nat}{t:fH}(x:g_ h a es ep t)(e:∀o,h.get? a=some o->h'.get? a=some o):g_ h' a es ep t:=let ⟨o,ho,r⟩:=x;⟨o,e _ ho,r⟩
section
variable {prog:bw}{w:aY}{A:Around}{E:ae->aq->Prop}{s:aq}
theorem Dh{Q:Bool->aq->Prop}(q:Q (w.params.followText "set-order") s):az (aJ prog w) A setsByText Q E s:=by
 unfold setsByText
 exact ay (TC (aP q))
theorem QA{it:Addr}{Q:Option ae->aq->Prop}{h1:Heap}(hh:A.handled=none)(q:∀h',(∀b o,h1.get? b=some o->h'.get? b=some o)->Q none { s with heap:=h' }) :
 az (aJ prog w) A.in1 (do Tp (<-JZ (.type "StopIteration") []):Sem Fin) (λ_ _=>False) (λe s'=>az (aJ prog w) A (do if <-isInstance e (.type "StopIteration") then pure none else throw e) Q E s') { s with heap:=h1 }:=by
 refine ay ?_
 simp only[JZ,newTuple]
 refine ay (lY ?_ (by size_fits))
 refine ay (m:=J2 _ _) (J3 (a:=lU) (by first | rfl | (simp only[J2];rfl)) (lY ?_ (by size_fits)))
 simp only[Tp]
 refine ay (wpAny_handled ?_);rw[show A.in1.handled=none from hh]
 refine ay (aP (wpAny_throw ?_));refine ay (Kc (T:="StopIteration") (b:=true) ⟨_,c_ _ rfl,rfl⟩ Tt ?_)
 exact aP (q _ λb o e=>bB _ (bB _ e))
theorem x5y{it a:Addr}{slot i n ep nx:Nat}{es:Array (Int×ae)}{t:fH}{x:ae}{Q:Option ae->aq->Prop}(hit:lQ s.heap it a (.int slot 0) i n ep)(hS:g_ s.heap a es ep t)(hn:es.size=n)
 (Hz:∀(B:Around) (E':ae->aq->Prop) (Q':Option (ae×Nat)->aq->Prop),Q' (some (x,nx)) s->az (aJ prog w) B (rG a slot i ep) Q' E' s)
 (q:∀h',lQ h' it a (.int nx 0) (i+1) n ep->sQ it s.heap h'->Q (some x) { s with heap:=h' }):az (aJ prog w) A (hG (.ref it)) Q E s:=by
 obtain⟨o,ho,hc,hd⟩:=id hit
 obtain⟨oS,f9,hex,iX,hf⟩:=id hS
 unfold hG
 refine ay (ve (oM (name:=bt "__next__") hit.kJ mX (j_ mX hit.kJ De ?_ (Df _))))
 unfold gr.«set_iterator.__next__» D4
 simp only[D5,xD,kf,↓reduceIte,bind_assoc,uV,bne_self_eq_false,pure_bind]
 refine ay (Ko ho hd ?_)
 dsimp only
 refine ay (D6 f9 iX hf ?_)
 rw[if_neg (by rw[hn];simp)]
 refine ay (Hz _ _ _ ?_)
 dsimp only
 refine ay (sY ho hd (by simp) ?_)
 have g1:=sS (xx (·.setIfInBounds 0 (rawInt (nx:Int)))) ho (AY (oU hd _))
 have d1:=oU hd (·.setIfInBounds 0 (rawInt (nx:Int)))
 refine ay (sY (s:={ s with heap:=s.heap.update it (xx (·.setIfInBounds 0 (rawInt (nx:Int)))) }) g1 d1 (by simp) ?_)
 have g2:=sS (xx (·.setIfInBounds 1 (rawInt ((i:Int)+1)))) g1 (AY (oU d1 _))
 refine aP ⟨_,rfl,aP (q _ ⟨_,g2,?_,?_⟩ ((rD ..).trans (rD ..)))⟩
 ·exact(JX ..).trans ((JX ..).trans hc)
 ·rw[oU d1];simp[rawInt]
theorem w0c{it a:Addr}{slot i n ep:Nat}{es:Array (Int×ae)}{t:fH}{Q:Option ae->aq->Prop}(hh:A.handled=none)(hit:lQ s.heap it a (.int slot 0) i n ep)(hS:g_ s.heap a es ep t)(hn:es.size=n)
 (Hz:∀(B:Around) (E':ae->aq->Prop) (Q':Option (ae×Nat)->aq->Prop),Q' none s->az (aJ prog w) B (rG a slot i ep) Q' E' s)
 (q:∀h',JY it s.heap h'->Q none { s with heap:=h' }):az (aJ prog w) A (hG (.ref it)) Q E s:=by
 obtain⟨o,ho,hc,hd⟩:=id hit
 obtain⟨oS,f9,hex,iX,hf⟩:=id hS
 unfold hG
 refine ay (ve (oM (name:=bt "__next__") hit.kJ mX (j_ mX hit.kJ De ?_ (Df _))))
 unfold gr.«set_iterator.__next__» D4
 simp only[D5,xD,kf,↓reduceIte,bind_assoc,uV,bne_self_eq_false,pure_bind]
 refine ay (Ko ho hd ?_)
 dsimp only
 refine ay (D6 f9 iX hf ?_)
 rw[if_neg (by rw[hn];simp)]
 refine ay (Hz _ _ _ ?_)
 dsimp only
 refine ay (sY ho hd (by simp) ?_)
 refine aH (QA (it:=it) hh λh' k=>q h' λb o hb e=>?_) (λ_ _ z=>z.elim) λ_ _ z=>z
 exact k b o ((rD ..).extBut b o hb e)
end
theorem At.a0r{xs:Array Nat}{j i i':Nat}(h:At xs j i)(h':At xs j i'):i=i':=by
 obtain⟨a1,a2,a3⟩:=h
 obtain⟨b1,b2,b3⟩:=h'
 rcases DO i i' with z | z | z
 ·have lt:i<xs.size:=by lia
  have e:=nq lt
  have:=b2 i _ z e
  have:=a3 i _ (bA _) e
  lia
 ·exact z
 ·have lt:i'<xs.size:=by lia
  have e:=nq lt
  have:=a2 i' _ z e
  have:=b3 i' _ (bA _) e
  lia
def wI(p:Array Nat):Nat->Nat
 | 0=>0
 | i+1=>(p[i]?).getD 0+1
theorem QB{p:Array Nat}(j6:p.toList.Pairwise (·<·)){i:Nat}(hi:i<=p.size):vg p (wI p i)=i:=by
 refine(Qm j6 _).a0r ⟨hi,?_⟩
 have mono:∀(a b va vb:Nat),a<b->p[a]? = some va->p[b]? = some vb->va<vb:=λa b va vb uz ea eb=>by
  obtain⟨ha,Hr⟩:=Array.getElem?_eq_some_iff.mp ea
  obtain⟨hb,Hs⟩:=Array.getElem?_eq_some_iff.mp eb
  have:=List.pairwise_iff_getElem.mp j6 a b (by simpa using ha) (by simpa using hb) uz
  rw[vf,vf,Hr,Hs] at this
  exact this
 cases i with
 | zero=>exact⟨λk v hk=>absurd hk (rm _),λk v _ _=>ji _⟩
 | succ i =>
   have lt:i<p.size:=by lia
   have e:=nq lt
   have es:wI p (i+1)=p[i]+1:=by rw[wI,e];rfl
   rw[es]
   refine⟨λk v hk ek=>?_,λk v hk ek=>?_⟩
   ·rcases dt k i with z | z
    ·have:=mono k i v _ z ek e;lia
    ·have:k=i:=by lia
     rw[this,e] at ek;cases ek;lia
   ·have:=mono i k _ v (by lia) e ek;lia
theorem HA{α:Type}:∀(l:List α) (i:Nat) (x:α),l[i]? = some x->l.Perm (x::l.eraseIdx i)
 | [],i,x,h=>by simp at h
 | y::l,0,x,h=>by simp at h;subst h;exact .refl _
 | y::l,i+1,x,h=>by
   have ih:=HA l i x (by simpa using h)
   rw[List.eraseIdx_cons_succ]
   exact(JE y ih).trans (List.Perm.swap x y _)
theorem QC{α:Type}(nx:Nat->Nat):∀(fuel k:Nat) (left:List α) (out:Array α),left.length<=fuel->(pickOrder.go nx fuel k left out).toList.Perm (out.toList++left)
 | 0,k,left,out,h=>by
   have:left=[]:=List.length_eq_zero_iff.mp (by lia)
   subst this
   rw[oJ];exact .refl _
 | fuel+1,k,left,out,h=>by
   unfold pickOrder.go
   cases hq:left[nx k%left.length]? with
   | none =>
     cases left with
     | nil=>simp
     | cons x l =>
       have:=List.getElem?_eq_none_iff.mp hq
       have:=AP (nx k) (show 0<(x::l).length by simp)
       lia
   | some x =>
     obtain⟨bO,ex⟩:=List.getElem?_eq_some_iff.mp hq
     have hl:(left.eraseIdx (nx k%left.length)).length<=fuel:=by rw[a8m bO];lia
     refine(QC nx fuel (k+1) _ (out.push x) hl).trans ?_
     rw[a7z,AA]
     refine List.Perm.append_left _ ?_
     exact(HA left _ x hq).symm
theorem y4s{α:Type}(nx:Nat->Nat)(xs:Array α):(D7 nx xs).toList.Perm xs.toList:=QC nx xs.size 0 xs.toList #[] (by simp)
section
variable {prog:bw}{w:aY}{A:Around}{E:ae->aq->Prop}{s:aq}
theorem QD{a:Addr}{slot i ep:Nat}{es:Array (Int×ae)}{t:fH}{Q:Option (ae×Nat)->aq->Prop}(hb:w.params.followText "set-order"=true)(hS:g_ s.heap a es ep t)
 (q:Q (((D7 (w.params.setOrder a ep) es)[i]?).map λe=>(e.2,slot)) s):az (aJ prog w) A (rG a slot i ep) Q E s:=by
 obtain⟨oS,f9,hex,iX,hf⟩:=hS
 unfold rG
 refine ay (A2 f9 iX hf ?_)
 dsimp only
 refine ay (Dh ?_)
 rw[hb]
 simp only[↓reduceIte,bne_self_eq_false,kf]
 refine ay ?_
 unfold setWalk
 refine ay (A2 f9 iX hf ?_)
 dsimp only
 refine ay (Dh ?_)
 rw[hb]
 simp only[↓reduceIte]
 exact ay (TC (aP (aP q)))
theorem QE{a:Addr}{slot i ep:Nat}{es:Array (Int×ae)}{t:fH}{Q:Option (ae×Nat)->aq->Prop}(hb:w.params.followText "set-order"=false)(hS:g_ s.heap a es ep t)(hl:t.led=true)(hd:(!t.plain&&decide (es.size>1))=false)
 (q:Q (match es[vg t.place slot]?,t.place[vg t.place slot]? with | some (_,x),some j=>some (x,j+1) | _,_=>none) s):az (aJ prog w) A (rG a slot i ep) Q E s:=by
 obtain⟨oS,f9,hex,iX,hf⟩:=hS
 unfold rG
 refine ay (A2 f9 iX hf ?_)
 dsimp only
 refine ay (Dh ?_)
 rw[hb]
 simp only[kf,↓reduceIte]
 show az _ _ (if (!t.plain&&decide (es.size>1))=true then _ else _) _ _ s
 rw[hd]
 simp only[kf,↓reduceIte]
 refine ay ?_
 show az _ _ (if (!t.led&&!es.isEmpty)=true then _ else _) _ _ s
 rw[hl]
 simp only[xD,a5h,kf,↓reduceIte]
 exact aP (aP q)
theorem x8j(hh:A.handled=none){it a:Addr}(aU:a≠it){n ep:Nat}{es:Array (Int×ae)}{t:fH}(hn:es.size=n)(sl:Nat->Nat)(vals:List ae)(hv:vals.length=n)
 (hi:∀i x,vals[i]? = some x->∀(B:Around) (E':ae->aq->Prop) (s:aq) (Q':Option (ae×Nat)->aq->Prop),g_ s.heap a es ep t->Q' (some (x,sl (i+1))) s->az (aJ prog w) B (rG a (sl i) i ep) Q' E' s)
 (he:∀(B:Around) (E':ae->aq->Prop) (s:aq) (Q':Option (ae×Nat)->aq->Prop),g_ s.heap a es ep t->Q' none s->az (aJ prog w) B (rG a (sl n) n ep) Q' E' s) :
 Walks prog w A it [it,a] [it] n (λi v=>vals[i]? = some v) (λi h=>lQ h it a (.int (sl i) 0) i n ep/\g_ h a es ep t) where
 sub:=λb hb=>by simp at hb;simp[hb]
 frame:=λ_ _ _ st hk=>⟨st.1.jf λo e=>hk it (by simp) o e,st.2.jf λo e=>hk a (by simp) o e⟩
 item:=λi s Q E bO st hQ=>by
  have hx:vals[i]? = some vals[i]:=cD (by lia)
  refine x5y st.1 st.2 hn (λB E' Q' q=>hi i _ hx B E' s Q' st.2 q) λh' y sb=>?_
  exact hQ _ h' s.toks hx ⟨y,st.2.jf λo e=>sb.extBut a o aU e⟩ λb o hb e=>sb.extBut b o (λz=>hb (by simp[z])) e
 done:=λs Q E st hQ=>w0c hh st.1 st.2 hn (λB E' Q' q=>he B E' s Q' st.2 q) λh' k=>hQ h' s.toks λb o hb e=>k b o (λz=>hb (by simp[z])) e
 self:=λi s Q E st hQ=>by
  refine TL st.1.kJ Dg (j_ Dg st.1.kJ Qy ?_ (Qz _))
  show az _ _ (ret (.ref it)) _ _ s
  exact aP ⟨_,rfl,"set_iterator",_,st.1.kJ,mX.lookup,hQ⟩
end
section
variable {prog:bw}{w:aY}{A:Around}{E:ae->aq->Prop}{s:aq}
def wJ(h:Heap)(T:Addr)(ps:List Nat):Prop:=∃o k,h.get? T=some o/\o.data = .seq (ps.map λ(p:Nat)=>rawInt (p:Int)).toArray k
theorem wJ.jf{h h':Heap}{T:Addr}{ps:List Nat}(x:wJ h T ps)(e:∀o,h.get? T=some o->h'.get? T=some o):wJ h' T ps:=let ⟨o,k,ho,r⟩:=x;⟨o,k,e _ ho,r⟩
theorem x3q{it a T:Addr}{i n ep p:Nat}{ps:List Nat}{es:Array (Int×ae)}{t:fH}{hx:Int}{x:ae}{Q:Option ae->aq->Prop}(hit:lQ s.heap it a (.ref T) i n ep)(hS:g_ s.heap a es ep t)(hT:wJ s.heap T ps)(hn:es.size=n)(hp:ps[i]? = some p)(o8:es[p]? = some (hx,x))
 (q:∀h',lQ h' it a (.ref T) (i+1) n ep->sQ it s.heap h'->Q (some x) { s with heap:=h' }):az (aJ prog w) A (hG (.ref it)) Q E s:=by
 obtain⟨o,ho,hc,hd⟩:=id hit
 obtain⟨oS,f9,hex,iX,hf⟩:=id hS
 obtain⟨oT,k,HB,HC⟩:=hT
 unfold hG
 refine ay (ve (oM (name:=bt "__next__") hit.kJ mX (j_ mX hit.kJ De ?_ (Df _))))
 unfold gr.«set_iterator.__next__» D4
 simp only[D5,xD,kf,↓reduceIte,bind_assoc,uV,bne_self_eq_false,pure_bind]
 refine ay (Ko ho hd ?_)
 dsimp only
 refine ay (D6 f9 iX hf ?_)
 rw[if_neg (by rw[hn];simp)]
 refine ay (rC HB HC ?_)
 have HD:((ps.map λ(p:Nat)=>rawInt (p:Int)).toArray)[(i:Int).toNat]? = some (.int (p:Int) 0):=by
  rw[rk,a8n,cf,hp];rfl
 dsimp only
 rw[HD]
 dsimp only
 refine ay ?_
 unfold setNextDrawn
 refine ay (A2 f9 iX hf ?_)
 dsimp only
 simp only[rk,bne_self_eq_false,kf,↓reduceIte,o8]
 refine aP (ay (sY ho hd (by simp) ?_))
 have g1:=sS (xx (·.setIfInBounds 1 (rawInt ((i:Int)+1)))) ho (AY (oU hd _))
 refine aP ⟨_,rfl,aP (q _ ⟨_,g1,(JX ..).trans hc,?_⟩ (rD ..))⟩
 rw[oU hd];simp[rawInt]
theorem x7j{it a T:Addr}{i n ep:Nat}{ps:List Nat}{es:Array (Int×ae)}{t:fH}{Q:Option ae->aq->Prop}(hh:A.handled=none)(hit:lQ s.heap it a (.ref T) i n ep)(hS:g_ s.heap a es ep t)(hT:wJ s.heap T ps)(hn:es.size=n)(hp:ps[i]? = none)
 (q:∀h',JY it s.heap h'->Q none { s with heap:=h' }):az (aJ prog w) A (hG (.ref it)) Q E s:=by
 obtain⟨o,ho,hc,hd⟩:=id hit
 obtain⟨oS,f9,hex,iX,hf⟩:=id hS
 obtain⟨oT,k,HB,HC⟩:=hT
 unfold hG
 refine ay (ve (oM (name:=bt "__next__") hit.kJ mX (j_ mX hit.kJ De ?_ (Df _))))
 unfold gr.«set_iterator.__next__» D4
 simp only[D5,xD,kf,↓reduceIte,bind_assoc,uV,bne_self_eq_false,pure_bind]
 refine ay (Ko ho hd ?_)
 dsimp only
 refine ay (D6 f9 iX hf ?_)
 rw[if_neg (by rw[hn];simp)]
 refine ay (rC HB HC ?_)
 have HD:((ps.map λ(p:Nat)=>rawInt (p:Int)).toArray)[(i:Int).toNat]? = none:=by
  rw[rk,a8n,cf,hp];rfl
 dsimp only
 rw[HD]
 dsimp only
 refine ay (sY ho hd (by simp) ?_)
 have g1:=sS (xx (·.setIfInBounds 0 (rawInt 0))) ho (AY (oU hd _))
 refine ay (sY (s:={ s with heap:=s.heap.update it (xx (·.setIfInBounds 0 (rawInt 0))) }) g1 (oU hd _) (by simp) ?_)
 refine aH (QA (it:=it) hh λh' k=>q h' λb o hb e=>?_) (λ_ _ z=>z.elim) λ_ _ z=>z
 exact k b o ((rD ..).extBut b o hb ((rD ..).extBut b o hb e))
theorem x4i(hh:A.handled=none){it a T:Addr}(aU:a≠it)(hnT:T≠it){n ep:Nat}{ps:List Nat}{es:Array (Int×ae)}{t:fH}(hn:es.size=n)(hps:ps.length=n)(bO:∀p∈ps,p<n) :
 Walks prog w A it [it,a,T] [it] n (λi v=>(ps.filterMap λp=>(es[p]?).map (·.2))[i]? = some v) (λi h=>lQ h it a (.ref T) i n ep/\g_ h a es ep t/\wJ h T ps) where
 sub:=λb hb=>by simp at hb;simp[hb]
 frame:=λ_ _ _ st hk=>⟨st.1.jf λo e=>hk it (by simp) o e,st.2.1.jf λo e=>hk a (by simp) o e,st.2.2.jf λo e=>hk T (by simp) o e⟩
 item:=λi s Q E hi st hQ=>by
  have hp:ps[i]? = some ps[i]:=cD (by lia)
  have Di:=bO _ (pS (l:=ps) (n:=i) (by lia))
  have hx:es[ps[i]]? = some es[ps[i]]:=nq (by lia)
  have hv:(ps.filterMap λp=>(es[p]?).map (·.2))[i]? = some es[ps[i]].2:=by
   have:ps.filterMap (λp=>(es[p]?).map (·.2))=ps.map λp=>((es[p]?).map (·.2)).getD .none:=by
    clear hp Di hx st hQ hps hi
    induction ps with
    | nil=>rfl
    | cons p ps ih =>
      have hp:=bO p bV
      rw[wW,nq (show p<es.size by lia),cN,ih λq hq=>bO q (bY _ hq)]
      simp[nq (show p<es.size by lia)]
   rw[this,cf,hp]
   simp[hx]
  refine x3q (x:=es[ps[i]].2) (hx:=es[ps[i]].1) st.1 st.2.1 st.2.2 hn hp hx λh' y sb=>?_
  exact hQ _ h' s.toks hv ⟨y,st.2.1.jf λo e=>sb.extBut a o aU e,st.2.2.jf λo e=>sb.extBut T o hnT e⟩ λb o hb e=>sb.extBut b o (λz=>hb (by simp[z])) e
 done:=λs Q E st hQ=>x7j hh st.1 st.2.1 st.2.2 hn (by simp;lia) λh' k=>hQ h' s.toks λb o hb e=>k b o (λz=>hb (by simp[z])) e
 self:=λi s Q E st hQ=>by
  refine TL st.1.kJ Dg (j_ Dg st.1.kJ Qy ?_ (Qz _))
  show az _ _ (ret (.ref it)) _ _ s
  exact aP ⟨_,rfl,"set_iterator",_,st.1.kJ,mX.lookup,hQ⟩
theorem x2t{n:Nat}{Q:Nat->aq->Prop}(hn:n≠0)(q:∀k d,k<n->Q k { s with drawn:=d }):az (aJ prog w) A (choose .order n) Q E s:=by
 intro Γ p GI
 show Sem.wp _ _ (.choose .order n _) _ _ _ _
 rw[Sem.wp_choose]
 refine⟨hn,?_⟩
 exact q _ _ (AP _ (Nat.pos_of_ne_zero hn))
theorem QF:∀(n:Nat) (xs:List Nat) (s:aq) {Q:List Nat->aq->Prop},xs.length=n->(∀ys d,ys.Perm xs->Q ys { s with drawn:=d })->az (aJ prog w) A (TM n xs) Q E s
 | 0,xs,s,Q,hl,q=>by
   have:xs=[]:=List.length_eq_zero_iff.mp hl
   subst this
   unfold TM
   have e:s={ s with drawn:=s.drawn }:=by cases s;rfl
   exact aP (by rw[e];exact q [] s.drawn (.refl _))
 | n+1,[],s,Q,hl,q=>by simp at hl
 | n+1,x::xs,s,Q,hl,q=>by
   unfold TM
   refine ay (x2t (by simp) λk d hk=>?_)
   have hx:(x::xs)[k]? = some (x::xs)[k]:=cD hk
   rw[hx]
   dsimp only
   refine ay (QF n _ _ (by rw[a8m hk];lia) λys d' hp=>?_)
   exact aP (q _ d' ((JE _ hp).trans (HA _ _ _ hx).symm))
end
section
variable {prog:bw}{w:aY}{A:Around}{E:ae->aq->Prop}{s:aq}
theorem w4g{a:Addr}{es:Array (Int×ae)}{ep n:Nat}{t:fH}{Q:ae->aq->Prop}(hS:g_ s.heap a es ep t)(hn:es.size=n)(hk:fg (iF w) t)(hz:n<=4096)
 (q:∀(it:Addr) (h':Heap) (d:Dz) (vals:List ae) (fp:List Addr) (St:Nat->Heap->Prop),s.heap.objs.size<=it->(∀b o,s.heap.get? b=some o->h'.get? b=some o)->(∀A':Around,A'.handled=none->Walks prog w A' it fp [it] n (λi v=>vals[i]? = some v) St)->St 0 h'->(∀b∈fp,b=a∨s.heap.objs.size<=b)->(∀b∈fp,b<h'.objs.size)->vals.length=n->vals.Perm (es.toList.map (·.2))->Q (.ref it) { s with heap:=h',drawn:=d }) :
 az (aJ prog w) A (sR (.ref a)) Q E s:=by
 obtain⟨oS,f9,hex,iX,hf⟩:=id hS
 have hT:s.TypeIs (.ref a) "set":=⟨oS,f9,hex.1⟩
 have halt:a<s.heap.objs.size:=bx f9
 refine TL hT a8o (j_ a8o hT y4p ?_ (F.args_set_iter_1 _))
 unfold gr.«frozenset.__iter__» Builtin.Frozenset.slot0 D4
 simp only[D5,xD,kf,↓reduceIte,bind_assoc,uV,bne_self_eq_false,pure_bind]
 unfold Builtin.Frozenset.addrOf Builtin.Frozenset.sizeOf
 refine ay (aP ?_)
 try dsimp only
 refine ay (ay (D6 f9 iX hf (aP ?_)))
 refine ay ?_
 unfold setDrawn
 refine ay (A2 f9 iX hf ?_)
 dsimp only
 refine ay (Dh ?_)
 refine aP ?_
 show az _ _ (if (!w.params.followText "set-order"&&(!t.plain&&decide (es.size>1)))=true then _ else _) _ _ s
 have jH:t.place.size=n:=by
  have:=hf
  simp only[SetTable.fits,gN,beq_iff_eq] at this
  lia
 have slot:∀(sl:Nat->Nat) (vals:List ae),vals.length=n->vals.Perm (es.toList.map (·.2))->sl 0=0 ->
  (∀i x,vals[i]? = some x->∀(B:Around) (E':ae->aq->Prop) (s:aq) (Q':Option (ae×Nat)->aq->Prop),g_ s.heap a es ep t->Q' (some (x,sl (i+1))) s->az (aJ prog w) B (rG a (sl i) i ep) Q' E' s) ->
  (∀(B:Around) (E':ae->aq->Prop) (s:aq) (Q':Option (ae×Nat)->aq->Prop),g_ s.heap a es ep t->Q' none s->az (aJ prog w) B (rG a (sl n) n ep) Q' E' s) ->
  Q (.ref s.heap.objs.size) { s with heap:=s.heap.push { cls:=.type "set_iterator",data:=.fields #[.int 0 0,.int 0 0,.ref a,.int n 0,.int ep 0] } }:=λsl vals hv hp h0 hi he=>by
  have e:s={ s with drawn:=s.drawn }:=by cases s;rfl
  have y:=q s.heap.objs.size (s.heap.push { cls:=.type "set_iterator",data:=.fields #[.int 0 0,.int 0 0,.ref a,.int n 0,.int ep 0] }) s.drawn vals _ _ (bA _) (λb o e=>bB _ e) (λA' hh=>x8j hh (it:=s.heap.objs.size) (cX halt) hn sl vals hv hi he) ⟨⟨_,c_ _ rfl,rfl,by rw[h0];rfl⟩,hS.jf λo e=>bB _ e⟩ (λb hb=>by
   simp only[fh,gR,or_false] at hb
   rcases hb with rfl | rfl
   ·exact .inr (bA _)
   ·exact .inl rfl) (λb hb=>by
   rw[fG]
   simp only[fh,gR,or_false] at hb
   rcases hb with rfl | rfl
   ·exact xw _
   ·exact xA halt) hv hp
  exact y
 have mk:Q (.ref s.heap.objs.size) { s with heap:=s.heap.push { cls:=.type "set_iterator",data:=.fields #[.int 0 0,.int 0 0,.ref a,.int n 0,.int ep 0] } } ->
  az (aJ prog w) A.in1 (do
   ret (<-newFields "set_iterator" [rawInt 0,rawInt 0,.ref a,rawInt (es.size:Int),rawInt (<-setEpoch a)])) (λfin s'=>∃r,fin=Fin.done (Flow.ret r)/\∃T' r',s'.TypeIs r T'/\R7 (.type T') "__next__"=pure (some r')/\Q r s') E s:=λhq=>by
  refine ay (a8p f9 iX hf ?_)
  refine ay (lY (aP ⟨_,rfl,"set_iterator",_,⟨_,c_ _ rfl,rfl⟩,mX.lookup,?_⟩))
  rw[hn];exact hq
 cases hb:w.params.followText "set-order" with
 | true =>
   rw[if_neg (by simp)]
   have p:=y4s (w.params.setOrder a ep) es
   refine mk (slot (λ_=>0) ((D7 (w.params.setOrder a ep) es).toList.map (·.2)) ?_ (p.map _) rfl (λi x hx B E' s Q' y q'=>QD hb y ?_) λB E' s Q' y q'=>QD hb y ?_)
   ·rw[bD,p.length_eq,jg,hn]
   ·rw[cf,Kn] at hx
    cases hq:(D7 (w.params.setOrder a ep) es)[i]? with
    | none=>rw[hq] at hx;cases hx
    | some e=>rw[hq] at hx;cases hx;exact q'
   ·have:(D7 (w.params.setOrder a ep) es)[n]? = none:=by
     rw[Array.getElem?_eq_none_iff]
     have:=p.length_eq
     rw[jg,jg] at this
     lia
    rw[this];exact q'
 | false =>
   have QG:t.led=true:=by rw[hk.led];unfold iF;rw[hb];rfl
   cases hd:(!t.plain&&decide (es.size>1)) with
   | false =>
     rw[if_neg (by simp)]
     have j6:t.place.toList.Pairwise (·<·):=by
      cases Di:t.plain with
      | true=>exact hk.up Di
      | false =>
        rw[Di] at hd
        have h1:¬es.size>1:=by simpa using hd
        match hm:t.place.toList,(show t.place.toList.length<=1 by rw[jg];lia) with
        | [],_=>exact .nil
        | [x],_=>exact a6k _ _
        | _::_::_,h=>simp at h
     refine mk (slot (wI t.place) (es.toList.map (·.2)) (by rw[bD,jg,hn]) (.refl _) rfl (λi x hx B E' s Q' y q'=>QE hb y QG hd ?_) λB E' s Q' y q'=>QE hb y QG hd ?_)
     ·rw[cf,Kn] at hx
      cases hq:es[i]? with
      | none=>rw[hq] at hx;cases hx
      | some e =>
        rw[hq] at hx
        cases hx
        have hi:i<es.size:=(Array.getElem?_eq_some_iff.mp hq).1
        have hp:=nq (xs:=t.place) (i:=i) (by lia)
        rw[QB j6 (by lia),hq,hp]
        have:wI t.place (i+1)=t.place[i]+1:=by rw[wI,hp];rfl
        rw[this] at q'
        exact q'
     ·rw[QB j6 (by lia),a8q (by lia)]
      exact q'
   | true =>
     rw[if_pos (by simp)]
     refine ay (QF _ _ _ (by simp) λys d hp=>ay (Ts ?_ (by rw[bD,hp.length_eq,Jw,lV];lia)))
     have QH:g_ (s.heap.push (vh "tuple" (ys.map λ(i:Nat)=>rawInt i).toArray 0)) a es ep t:=hS.jf λo e=>bB _ e
     obtain⟨o2,p5,_,hd2,hf2⟩:=id QH
     refine ay (a8p (s:={ s with heap:=s.heap.push (vh "tuple" (ys.map λ(i:Nat)=>rawInt i).toArray 0),drawn:=d }) p5 hd2 hf2 ?_)
     refine ay (lY (aP ⟨_,rfl,"set_iterator",_,⟨_,c_ _ rfl,rfl⟩,mX.lookup,?_⟩))
     have hl:ys.length=n:=by rw[hp.length_eq,Jw,hn]
     have bO:∀p∈ys,p<n:=λp Fw=>by have:=hp.mem_iff.mp Fw;rw[Sm,hn] at this;exact this
     have pI:s.heap.objs.size<(s.heap.push (vh "tuple" (ys.map λ(i:Nat)=>rawInt i).toArray 0)).objs.size:=by rw[fG];exact xw _
     refine q _ _ d (ys.filterMap λp=>(es[p]?).map (·.2)) _ _ (uM pI) (λb o e=>bB _ (bB _ e)) (λA' hh=>x4i (T:=s.heap.objs.size) hh (cX (Kh halt pI)) (cX pI) hn hl bO) ⟨⟨_,c_ _ rfl,rfl,by rw[hn];rfl⟩,QH.jf λo e=>bB _ e,⟨_,_,bB _ (c_ _ rfl),rfl⟩⟩ (λb hb=>?_) (λb hb=>?_) ?_ ?_
     ·simp only[fh,gR,or_false] at hb
      rcases hb with rfl | rfl | rfl
      ·exact .inr (uM pI)
      ·exact .inl rfl
      ·exact .inr (bA _)
     ·rw[fG]
      simp only[fh,gR,or_false] at hb
      rcases hb with rfl | rfl | rfl
      ·exact xw _
      ·exact xA (Kh halt pI)
      ·exact xA pI
     ·have:=(hp.filterMap (λp=>(es[p]?).map (·.2))).length_eq
      rw[this,<-hn]
      have h2:(bL es.size).filterMap (λp=>(es[p]?).map (·.2))=es.toList.map (·.2):=by rw[<-Sn,a8r]
      rw[h2];simp
     ·refine(hp.filterMap _).trans ?_
      have h2:(bL es.size).filterMap (λp=>(es[p]?).map (·.2))=es.toList.map (·.2):=by rw[<-Sn,a8r]
      rw[h2]
end
section
variable {prog:bw}{w:aY}{A:Around}{E:ae->aq->Prop}{s:aq}
theorem y8e:R7 (.type "set") "__len__"=pure (some (.builtin "set.__len__")):=F.slot_set_len.lookup
theorem w4i{a:Addr}{Q:Bool->aq->Prop}(hT:s.TypeIs (.ref a) "set")(q:Q false s):az (aJ prog w) A (a8s (.ref a)) Q E s:=by
 unfold a8s
 refine ay (wpAny_specialOf hT y8e ?_)
 dsimp only
 have e:splitId "set.__len__"=some ("set","__len__"):=by kernel_rfl
 rw[e]
 dsimp only
 refine ay (Kc (T:="set") (b:=true) hT sub_set_self ?_)
 simp only[xD,kf,↓reduceIte]
 show az _ _ (if true=true then _ else _) _ _ s
 rw[if_pos rfl]
 refine ay (DD hT ?_)
 exact aP q
theorem x4e{a:Addr}{es:Array (Int×ae)}{ep n:Nat}{t:fH}{Q:List ae->aq->Prop}(hh:A.handled=none)(hS:g_ s.heap a es ep t)(hn:es.size=n)(hk:fg (iF w) t)(hz:n<=4096)
 (q:∀(vals:List ae) (h':Heap) (d:Dz) (tk:Nat),vals.Perm (es.toList.map (·.2))->s.heap.objs.size<=h'.objs.size->(∀b o,s.heap.get? b=some o->h'.get? b=some o)->s.toks<=tk->Q vals { s with heap:=h',drawn:=d,toks:=tk }):az (aJ prog w) A (TN (.ref a)) Q E s:=by
 obtain⟨oS,f9,hex,iX,hf⟩:=id hS
 have halt:a<s.heap.objs.size:=bx f9
 unfold TN
 refine ay (a8i (xC F.entry_proto_collect ?_));rw[D3 F.plain_proto_collect _]
 show az _ A.in1 (xr []>>=λl=>again (.builtin "list.__iadd__" ⟨[l,.ref a],[]⟩)) _ _ s
 refine ay (lY (aP ⟨Kk a8t _,xC F.entry_list_iadd ?_⟩))
 rw[D3 a8t _]
 show az _ A.in1 (a8u (.ref s.heap.objs.size) (.ref a) (.ref s.heap.objs.size)) _ _ _
 have hS1:g_ (s.heap.push { cls:=.type "list",data:=.seq ([]:List ae).toArray }) a es ep t:=hS.jf λo e=>bB _ e
 have pI:Km { s with heap:=s.heap.push { cls:=.type "list",data:=.seq ([]:List ae).toArray } } (.ref a) "set":=⟨oS,bB _ f9,hex.1⟩
 unfold a8u
 refine ay (DD pI ?_)
 have u1:a8v (.ref s.heap.objs.size) (.ref a)=false:=by simp[a8v,jC halt]
 have u2:(wV "set"==wV "list")=false:=by decide
 have u3:(wV "set"==wV "tuple")=false:=by decide
 simp only[u1,u2,u3,Bool.or_false,kf,if_false]
 refine ay (w4g (s:={ s with heap:=s.heap.push { cls:=.type "list",data:=.seq ([]:List ae).toArray } }) hS1 hn hk hz λit h1 d vals fp St hit keep W st0 hfp hfs hv hp=>?_)
 have GH:Km { s with heap:=h1,drawn:=d } (.ref a) "set":=⟨oS,keep a _ (bB _ f9),hex.1⟩
 refine ay (oK (w4i GH ?_))
 have L0:h1.get? s.heap.objs.size=some { cls:=.type "list",data:=.seq ([]:List ae).toArray }:=keep _ _ (c_ _ rfl)
 have itN:s.heap.objs.size<it:=by rw[fG] at hit;exact Nat.lt_of_succ_le hit
 have QI:s.heap.objs.size ∉ fp:=λhm=>by
  rcases hfp _ hm with z | z
  ·exact absurd z (jC halt)
  ·rw[fG] at z;exact absurd z (Nat.not_succ_le_self _)
 show az _ A.in1 (rule "list.extend.makes-room">>=λ_=>Builtin.List.listTouch (.ref s.heap.objs.size)>>=λ_=>again (.builtin "list.extend.loop" ⟨[.ref s.heap.objs.size,.ref it,.ref s.heap.objs.size],[]⟩)) _ _ _
 refine ay (vc (ay (show az _ A.in1 (updateSeq s.heap.objs.size (·.push .none)>>=λ_=>updateSeq s.heap.objs.size (·.pop)) _ _ _ from ?_)))
 refine ay (a8w (s:={ s with heap:=h1,drawn:=d }) L0 rfl ?_)
 have L1:=sS (rg (·.push lU)) L0 rfl
 refine a8w (s:={ s with heap:=h1.update s.heap.objs.size (rg (·.push lU)),drawn:=d }) L1 rfl ?_
 have L2':=sS (rg (·.pop)) L1 rfl
 have QJ:∀b o,b≠s.heap.objs.size->h1.get? b=some o->((h1.update s.heap.objs.size (rg (·.push lU))).update s.heap.objs.size (rg (·.pop))).get? b=some o:=λb o hb e=>(DE _ _ (eC hb)).trans ((DE _ _ (eC hb)).trans e)
 have wH:A.in1.handled=none:=hh
 have WS:=(W A.in1 wH).toS
 have st1:=(W A.in1 wH).frame 0 h1 _ st0 λb hb o e=>QJ b o (λz=>QI (z ▸ hb)) e
 refine aP ⟨Kk F.plain_extend_loop _,codeAny_extend_loopS WS (by rw[lV];lia) _ QI _ n 0 _ _ _ rfl (ji _) st1 L2' (ItemsOf.nil _) λs' acc c mv hL qx=>?_⟩
 show az _ A (load s.heap.objs.size>>=_) _ _ s'
 refine ay (wpAny_load hL ?_)
 obtain⟨h',g',d',Hw,kT⟩:=s'
 obtain rfl:g'=s.gens:=mv.gens
 obtain rfl:d'=d:=mv.drawn
 obtain rfl:kT=s.os:=mv.os
 have a0s:acc.toList=vals:=by
  refine List.ext_getElem? λi=>?_
  rw[Kn]
  rcases dt i n with z | z
  ·have lt:i<acc.size:=by rw[qx.1];exact z
   have e:=nq lt
   rw[e];exact(qx.2 i _ e).symm
  ·rw[a8q (by rw[qx.1];exact z),eY (by lia)]
 refine aP ?_
 rw[a0s]
 have kp:∀b o,s.heap.get? b=some o->h'.get? b=some o:=λb o e=>by
  have b1:b<s.heap.objs.size:=bx e
  refine mv.heap b o (λz=>?_) (QJ b o (cX b1) (keep b o (bB _ e)))
  rcases List.mem_cons.mp z with z | z
  ·exact absurd z (cX b1)
  ·have:b=it:=by simpa using z
   exact absurd (Kh b1 itN) (by rw[this];exact dS _)
 exact q vals h' d' Hw hp (uM (bx hL)) kp mv.toks
theorem y7j{a:Addr}{es:Array (Int×ae)}{ep n:Nat}{t:fH}{ns:List Int}{Q:ae->aq->Prop}(hh:A.handled=none)(hS:g_ s.heap a es ep t)(hn:es.size=n)(hk:fg (iF w) t)(h64:n<64)(hi:ka (es.toList.map (·.2)) ns)
 (q:∀(l:Addr) (out:List ae) (uG:List Int) (h':Heap) (d:Dz) (tk m:Nat),ka out uG->uG.Perm ns->uG.Pairwise (·<=·)->s.heap.objs.size<=l->h'.get? l=some (vh "list" out.toArray m)->(∀b o,s.heap.get? b=some o->h'.get? b=some o)->s.toks<=tk->Q (.ref l) { s with heap:=h',drawn:=d,toks:=tk }) :
 az (aJ prog w) A (call (.builtin "sorted") [.ref a]) Q E s:=by
 refine Calls.call_function_entry kind_sorted plain_sorted entry_sorted (args_sorted1 _) ?_
 unfold gr.«sorted»
 show az _ A.in1 (TN (.ref a)>>=_) _ _ s
 refine ay (x4e hh hS hn hk (by lia) λvals h1 d tk hp km keep KU=>?_)
 obtain⟨ud,i1,p1⟩:∃ud,ka vals ud/\ud.Perm ns:=by
  have H:∀{xs ys:List ae},xs.Perm ys->∀{ms:List Int},ka ys ms->∃ud,ka xs ud/\ud.Perm ms:=by
   intro xs ys hp
   induction hp with
   | nil=>intro ms h;cases h;exact⟨[],.nil,.refl _⟩
   | cons x _ ih =>
     intro ms h
     cases h with
     | cons m t h =>
       obtain⟨n1,a1,a2⟩:=ih h
       exact⟨m::n1,.cons m t a1,.cons m a2⟩
   | swap x y l =>
     intro ms h
     cases h with
     | cons m1 t1 h =>
       cases h with
       | cons m2 t2 h=>exact⟨m2::m1::_,.cons m2 t2 (.cons m1 t1 h),.swap m1 m2 _⟩
   | trans _ _ ih1 ih2 =>
     intro ms h
     obtain⟨n2,b1,b2⟩:=ih2 h
     obtain⟨n1,a1,a2⟩:=ih1 b1
     exact⟨n1,a1,a2.trans b2⟩
  exact H hp hi
 have hvl:vals.length<64:=by rw[hp.length_eq,bD,jg];lia
 refine ay (wpAny_newList ?_ (by rw[lV];lia))
 refine ay (oK ?_)
 have g0:(h1.push (vh "list" vals.toArray 0)).get? h1.objs.size=some (vh "list" vals.toArray 0):=c_ _ rfl
 refine j_ (s:={ s with heap:=h1.push (vh "list" vals.toArray 0),drawn:=d,toks:=tk }) slot_list_sort ⟨_,g0,rfl⟩ entry_list_sort ?_ (args_list_sort _)
 refine list_sort_tree (s:={ s with heap:=h1.push (vh "list" vals.toArray 0),drawn:=d,toks:=tk }) g0 i1 hvl λout uG o1 o2 o3=>?_
 refine⟨_,rfl,?_⟩
 obtain⟨m,em⟩:=sortedHeap_at (vs:=vals) (out:=out) g0
 refine aP ⟨_,rfl,q h1.objs.size out.toList uG _ d tk m o1 (o2.trans p1) o3 km (by rw[Array.toArray_toList];exact em) (λb o e=>?_) KU⟩
 have z_:b<h1.objs.size:=b_ (bx e) km
 rw[sortedHeap_old (cX z_) (by rw[fG];exact xA z_)]
 exact bB _ (keep b o e)
end
theorem w0s:qY ("set":Str)=some (.type "set"):=by decide +kernel
theorem x7x:qY ("sorted":Str)=some (.builtin "sorted"):=by decide +kernel
theorem QK:∀{a b:List Int},a.Pairwise (·<·)->b.Pairwise (·<·)->(∀x,x∈a↔x∈b)->a=b
 | [],[],_,_,_=>rfl
 | [],y::b,_,_,h=>absurd ((h y).mpr bV) (by simp)
 | x::a,[],_,_,h=>absurd ((h x).mp bV) (by simp)
 | x::a,y::b,ha,hb,h=>by
   obtain⟨a1,a2⟩:=List.pairwise_cons.mp ha
   obtain⟨b1,b2⟩:=List.pairwise_cons.mp hb
   have e:x=y:=by
    rcases List.mem_cons.mp ((h x).mp bV) with z | z
    ·exact z
    ·rcases List.mem_cons.mp ((h y).mpr bV) with z2 | z2
     ·exact z2.symm
     ·have:=b1 x z;have:=a1 y z2;lia
   subst e
   rw[QK a2 b2 λz=>⟨λhz=>?_,λhz=>?_⟩]
   ·rcases List.mem_cons.mp ((h z).mp (bY _ hz)) with w | w
    ·have:=a1 z hz;lia
    ·exact w
   ·rcases List.mem_cons.mp ((h z).mpr (bY _ hz)) with w | w
    ·have:=b1 z hz;lia
    ·exact w
theorem QL:∀{l:List Int},l.Pairwise (·<=·)->l.Nodup->l.Pairwise (·<·)
 | [],_,_=>.nil
 | x::l,h,n=>by
   obtain⟨h1,h2⟩:=List.pairwise_cons.mp h
   obtain⟨n1,n2⟩:=List.nodup_cons.mp n
   refine List.pairwise_cons.mpr ⟨λy hy=>?_,QL h2 n2⟩
   have:=h1 y hy
   have:x≠y:=λz=>n1 (z ▸ hy)
   lia
theorem QM:∀{a b:List Int},a.Nodup->(∀x∈a,x∈b)->b.length<=a.length->a.Perm b
 | [],b,_,_,h=>by
   have:b=[]:=List.length_eq_zero_iff.mp (by simpa using h)
   rw[this]
 | x::a,b,hn,hs,h=>by
   obtain⟨n1,n2⟩:=List.nodup_cons.mp hn
   have hx:=hs x bV
   have hl:(b.erase x).length<=a.length:=by rw[a6q hx];simp at h;lia
   refine(JE x (QM n2 (λy hy=>?_) hl)).trans (a6p hx).symm
   have ne:y≠x:=λz=>n1 (z ▸ hy)
   exact(a6r ne).mpr (hs y (bY _ hy))
theorem Dj(val:Nat->Int):∀i,(oW val i).Nodup
 | 0=>by rw[firstMet_zero];exact .nil
 | i+1=>by
   rw[Tx]
   unfold step_dedup
   split
   ·exact Dj val i
   ·rename_i h
    refine List.nodup_append.mpr ⟨Dj val i,by simp,λx hx y hy e=>?_⟩
    have:y=val i:=by simpa using hy
    rw[this] at e
    exact h (List.any_eq_true.mpr ⟨x,hx,by simp[e]⟩)
theorem QN(ns:List Int)(x:Int):x∈oW (λi=>ns.getD i 0) ns.length↔x∈ns:=by
 have h:=firstMet_any (λi=>ns.getD i 0) ns.length x
 have e:(bL ns.length).map (λi=>ns.getD i 0)=ns:=by
  refine DH (by simp) λi h1 h2=>?_
  simp[List.getD_eq_getElem?_getD,cD h2]
 rw[e] at h
 have m:∀l:List Int,(l.any (·==x))=true↔x∈l:=λl=>by simp
 rw[<-m,<-m,h]
section
variable {X:Cx}{e a b c:Expr}{g ga gb gc:G->R D}{gs:G->R (List D)}{pos pos' p p2:Pos}
theorem w3b(ha:PD X a ga)(hm1:X.mg "sorted"=none)(hm2:X.mg "set"=none)(eA:X.calm=true)(a9:Gl X "sorted":=by rfl)(dg:Gl X "set":=by rfl)
 (QO:bR [.Call (.Name "set" p2) [a] [] pos'] X.env=[(false,eval (.Call (.Name "set" p2) [a] [] pos') X.env)]:=by rfl) (oi:bR [a] X.env=[(false,eval a X.env)]:=by rfl) :
 PF X (.Call (.Name "sorted" p) [.Call (.Name "set" p2) [a] [] pos'] [] pos) (Bz ga):=by
 refine⟨λpins s σ H F Γ I fo rl cM=>?_⟩
 refine rp (nB I a9 hm1 x7x (a7a ?_ QO rfl))
 rw[QO]
 show az _ _ (h_ ((false,eval (.Call (.Name "set" p2) [a] [] pos') X.env)::de pos [])) _ _ s
 refine jk ?_
 refine rp (nB I dg hm2 w0s (u_ ?_ oi rfl))
 rw[oi]
 show az _ _ (h_ ((false,eval a X.env)::de pos' [])) _ _ s
 refine jk (aH (ha.run pins s σ H F Γ I fo rl (R.left cM)) (λu s1 ⟨d,v,H1,e1,I1,r1,S1,i1⟩=>l9 ?_) λ_ _ x=>x.bind _)
 have HE:=R.next cM e1
 cases d with
 | lst ds =>
   obtain⟨l,xs,rfl,q1,j1⟩:=Is.fb.mp i1
   cases (show u=gJ l from r1)
   cases hints:gv ds with
   | none=>exact absurd (show(match gv ds with | some ns=>R.guard (ns.length<64) (R.ok ((fw ns).map D.int)) | none=>R.no)=R.no by rw[hints]) HE
   | some ns =>
     have:=vA hints
     subst this
     have a0t:R.guard (ns.length<64) (R.ok ((fw ns).map D.int)) ≠ .no:=by
      have h:=HE
      dsimp only at h
      rw[hints] at h
      exact h
     obtain⟨h64,e5⟩:=R.dz a0t
     rw[j1.wd] at q1
     obtain⟨its,rv,pl,hz⟩:=I1.list q1
     have hlen:its.length=ns.length:=by rw[<-rv.length,bD]
     have hia:=L2.intsAre_of rv
     have hh:X.A.handled=none:=I1.ok.hd eA
     have QP:its.toArray.size=ns.length:=by simp[hlen]
     refine w0q (s:=s1) hh pl.isList (by simpa using hia) (by rw[QP];unfold rF;lia) λh' tk y keep=>l9 ?_
     rw[QP] at y
     obtain⟨o,es,ep,t,⟨q2,q3,q4⟩,⟨q5,q6⟩,⟨q7,q8,q9⟩,q10⟩:=y
     have a0u:∀b o,s1.heap.get? b=some o->h'.get? b=some o:=λb o e=>keep b o (bx e) e
     obtain⟨ks,k1,k2⟩:∃ks,ka (es.toList.map (·.2)) ks/\∀x,x∈ks↔∃e∈es.toList,(gK X.prog X.w).is x e.2=true:=by
      clear q6 q7 q8 q9 q4
      generalize es.toList=L at q5
      induction L with
      | nil=>exact⟨[],.nil,λx=>by simp⟩
      | cons e L ih =>
        obtain⟨ks,a1,a2⟩:=ih q5.tail
        obtain⟨⟨k,hk,_⟩,_⟩:=q5.head
        obtain⟨t0,PY⟩:∃t0,e.2 = .int k t0:=by
         have h:=hk
         cases hv:e.2 with
         | int z t0 =>
           rw[hv] at h
           have:z=k:=by simpa [gK,RP] using h
           exact⟨t0,by rw[this]⟩
         | _=>rw[hv] at h;simp[gK,RP] at h
        refine⟨k::ks,by rw[cN,PY];exact .cons k t0 a1,λx=>?_⟩
        rw[fh,a2]
        constructor
        ·rintro(rfl | ⟨e',HF,hx⟩)
         ·exact⟨e,bV,hk⟩
         ·exact⟨e',bY _ HF,hx⟩
        ·rintro⟨e',HF,hx⟩
         rcases List.mem_cons.mp HF with z | z
         ·subst z
          exact .inl ((gK X.prog X.w).inj e'.2 x k hx hk)
         ·exact .inr ⟨e',z,hx⟩
     have mem:∀x,x∈ks↔x∈ns:=λx=>by
      rw[k2,<-q6 x,<-QN ns x]
      simp
     have hkl:ks.length=es.size:=by rw[<-k1.length,bD,jg]
     have hfl:=a8b (λi=>ns.getD i 0) ns.length
     have MU:ks.Nodup:=by
      have hp:=QM (Dj (λi=>ns.getD i 0) ns.length) (b:=ks) (λx hx=>(mem x).mpr ((QN ns x).mp hx)) (by lia)
      exact hp.nodup_iff.mp (Dj _ _)
     refine y7j (s:={ s1 with heap:=h',toks:=tk }) hh ⟨o,q2,q3,q4,q8⟩ q9 q10 (by lia) k1 λl2 out uG h2 d2 QQ mm o1 o2 o3 o4 o5 o6 _=>?_
     have enn:uG=fw ns:=by
      refine QK (QL o3 (o2.nodup_iff.mpr MU)) (EN ns) λx=>?_
      rw[o2.mem_iff,mem,vI]
     subst enn
     have km:s1.heap.objs.size<=l2:=by
      rcases dt h'.objs.size s1.heap.objs.size with z | z
      ·exact absurd (bx q2) (Nat.not_lt.mpr (uM z))
      ·exact dD z o4
     have wB:H1 l2=none:=I1.aQ.fresh km
     have uA:out.length<=cq:=by
      have:=o1.length
      rw[lV]
      have h3:(fw ns).length=ks.length:=o2.length_eq
      lia
     have I2:Inv X pins σ (upd H1 l2 (.lst ((fw ns).map V.int))) { s1 with heap:=h2,drawn:=d2,toks:=QQ }:=by
      have kp:∀b u,s1.heap.get? b=some u->h2.get? b=some u:=λb o e=>o6 b o (a0u b o e)
      exact I1.call (g':=s1.gens) (d':=d2) (t':=QQ) (ch:=[]) (Un.laid kp km wB) (I1.aQ.laid kp km (show i4 X.prog X.w _ _ _ (.lst ((fw ns).map V.int)) from⟨by
       have:=o1.length
       rw[bD];lia,out,mm,xT o1,o5⟩)) I1.bare (λb hb=>by simp at hb)
     have S2:=iA wB (.lst ((fw ns).map V.int))
     refine⟨(fw ns).map D.int,l2,(fw ns).map V.int,_,(R.step e1 _).trans ?_,I2,rfl,S1.trans S2,S1.free wB,dq,?_⟩
     ·show(match gv (ns.map D.int) with | some ns=>R.guard (ns.length<64) (.ok ((fw ns).map D.int)) | none=>.no)=_
      rw[hints];exact e5
     ·have a0v:∀(Hx:Hp) (l:List Int),aC X.K Hx (l.map D.int) (l.map V.int):=λHx l=>by
       induction l with
       | nil=>exact aC.nil
       | cons x l ih=>exact aC.cons (Is.bT.mpr rfl) ih
      exact a0v _ _
 | _=>exact absurd rfl HE
end
section
variable {X:Cx}
theorem HG(hu:X.A.units+64<j9):fX X (m8 .In) kx:=by
 refine⟨λx y H Q=>∃dx ys,(Is X.K H (.lst ys) y/\D.lay 40 (.lst ys)=true∨Is X.K H (.tup ys) y/\D.lay 40 (.tup ys)=true)/\Is X.K H dx x/\D.lay 40 dx=true/\Q (.bl (ys.any λy=>bN y dx)) H,?_,λH x y dx dy ix iy hg=>?_⟩
 ·intro pins s σ H x y v u Q I rx ry h
  obtain⟨dx,ys,hy,ix,l1,q⟩:=h
  obtain⟨as,ra⟩:=pH I 40 dx x v l1 ix rx
  have p1:=pG 40 dx l1
  have Cj:X.A.units+64<j9:=hu
  rcases hy with ⟨iy,l2⟩ | ⟨iy,l2⟩
  ·obtain⟨bs,rb⟩:=pH I 40 (.lst ys) y u l2 iy ry
   have p2:=pG 40 (.lst ys) l2
   have ey:D.py (.lst ys) = .list (D.c9 ys):=by simp[D.py]
   rw[ey] at rb p2
   have c2:AU (D.c9 ys)=true:=by simpa [sW] using p2.1
   refine PySem.SeqAt.in_list_reads rb ra c2 p1.1 (show X.A.units+1+min (AV (D.c9 ys)) dx.py.depth<j9 by lia) ⟨.bl (ys.any λy=>bN y dx),H,I,?_,q⟩
   rw[Hn];rfl
  ·obtain⟨bs,rb⟩:=pH I 40 (.tup ys) y u l2 iy ry
   have p2:=pG 40 (.tup ys) l2
   have ey:D.py (.tup ys) = .tuple (D.c9 ys):=by simp[D.py]
   rw[ey] at rb p2
   have c2:AU (D.c9 ys)=true:=by simpa [sW] using p2.1
   refine PySem.SeqAt.in_tuple_reads rb ra c2 p1.1 (show X.A.units+1+min (AV (D.c9 ys)) dx.py.depth<j9 by lia) ⟨.bl (ys.any λy=>bN y dx),H,I,?_,q⟩
   rw[Hn];rfl
 ·cases dy with
  | lst ys =>
    obtain⟨⟨l1,l2⟩,e⟩:=R.dz (show R.guard (D.lay 40 dx=true/\D.lay 40 (.lst ys)=true) (R.ok (D.bl (ys.any λy=>bN y dx))) ≠ .no from hg)
    exact⟨dx,ys,.inl ⟨iy,l2⟩,ix,l1,.bl (ys.any λy=>bN y dx),e,.refl _,Is.jt.mpr rfl⟩
  | tup ys =>
    obtain⟨⟨l1,l2⟩,e⟩:=R.dz (show R.guard (D.lay 40 dx=true/\D.lay 40 (.tup ys)=true) (R.ok (D.bl (ys.any λy=>bN y dx))) ≠ .no from hg)
    exact⟨dx,ys,.inr ⟨iy,l2⟩,ix,l1,.bl (ys.any λy=>bN y dx),e,.refl _,Is.jt.mpr rfl⟩
  | _=>exact absurd rfl hg
theorem QR(d:D):∀ys:List D,(D.c9 ys).findIdx? (λy=>y.eqv d.py)=ys.findIdx? λy=>bN y d
 | []=>by simp[D.c9]
 | y::ys=>by rw[D.c9,JL,JL,QR d ys,zf]
theorem QS{e b:Expr}{ge gb:G->R D}{apos eF:Pos}(hu:X.A.units+64<j9)(he:PD X e ge)(hb:PD X b gb)
 (uq:JQ e "index" X.env (eval e X.env)=eval e X.env:=by rfl)
 (ur:((de eF (bR [b] X.env)).all (λx=>!x.1)&&(rA eF (rB [] X.env)).all (λx=>x.1.isSome)
   && decide ([b].length+([]:List qZ).length+(if ([]:List qZ).isEmpty then 0 else 1)<30))=true:=by rfl)
 (uu:(apos.endLine==eF.line)=true:=by rfl) (hs:bR [b] X.env=(false,eval b X.env)::bR [] X.env:=by rfl) :
 PD X (.Call (.Attribute e "index" apos) [b] [] eF) (z9k ge gb):=by
 refine⟨λpins s σ H F Γ I fo rl hg=>?_⟩
 refine JR uq ur uu rfl (aH (he.run pins s σ H F Γ I fo rl (R.left hg)) (λv s1 ⟨dl,vl,H1,e1,I1,r1,S1,i1⟩=>?_) λ_ _ x=>x.bind _)
 have a9:=R.next hg e1
 cases dl with
 | lst ys =>
   obtain⟨l,xs,rfl,q1,j1⟩:=Is.fb.mp i1
   cases (show v=gJ l from r1)
   obtain⟨t1,t2⟩:=Em (T:="list") I1 (show RelV (.ref l) (.ref l) from rfl) (.inl ⟨rfl,xs,q1⟩)
   refine⟨"list",_,Tj,a8x,PySem.F.type_list_index,t1,t2,?_⟩
   rw[hs]
   refine JS rfl (JT ?_)
   show az _ _ (h_ ((false,eval b X.env)::de eF [])) _ _ s1
   refine jk (aH (hb.run pins s1 σ H1 F Γ I1 (fo.same S1) (rl.same S1) (R.left a9)) (λu s2 ⟨d,y,H2,e2,I2,r2,S2,i2⟩=>l9 ?_) λ_ _ x=>cb.later e1 S1 (x.bind _))
   have dg:=R.next a9 e2
   cases q:ys.findIdx? (λy=>bN y d) with
   | none=>exact absurd (show tK ys d = .no by unfold tK;rw[q]) dg
   | some j =>
     have oF:R.guard (D.lay 40 d=true/\D.lay 40 (.lst ys)=true/\ys.length<=100000) (R.ok (D.int (j:Int))) ≠ .no:=by
      have h:=dg
      unfold tK at h
      rw[q] at h
      exact h
     obtain⟨⟨l1,l2,l3⟩,e3⟩:=R.dz oF
     have qq:Is X.K H2 (.lst ys) (.ref l):=i1.same S2
     obtain⟨as,ra⟩:=pH I2 40 d y u l1 i2 r2
     obtain⟨bs,rb⟩:=pH I2 40 (.lst ys) (.ref l) (.ref l) l2 qq rfl
     have p1:=pG 40 d l1
     have p2:=pG 40 (.lst ys) l2
     have ey:D.py (.lst ys) = .list (D.c9 ys):=by simp[D.py]
     rw[ey] at rb p2
     have c2:AU (D.c9 ys)=true:=by simpa [sW] using p2.1
     cases rb with
     | @list a0 o vs n x0 as0 b1 b2 b3 b4 =>
       obtain⟨oc,od,odt,pZ⟩:=o
       obtain rfl:oc = .type "list":=b2
       obtain rfl:odt = .seq vs n:=b3
       have ea:=PySem.SeqAt.items_eqAt (A:=X.A) b4 ra c2 p1.1 (show X.A.units+1+min (AV (D.c9 ys)) d.py.depth<j9 by lia)
       have hm:=PySem.SeqAt.readsAll_map (D.c9 ys) _ _ c2 b4
       have hfi:vs.toList.findIdx? (λy=>(a8y s2.heap y).eqv d.py)=some j:=by
        have h1:=QR d ys
        rw[q,<-hm,List.findIdx?_map] at h1
        exact h1
       obtain⟨hj,hjt,hjn⟩:=List.findIdx?_eq_some_iff_getElem.mp hfi
       have hjs:j<vs.size:=by simpa using hj
       refine w6 a8x ⟨_,b1,rfl⟩ PySem.F.entry_list_index (PySem.F.args_list_index_2 _ _) (PySem.SeqAt.list_indexAt l vs n od pZ u (λy=>(a8y s2.heap y).eqv d.py) j hjs ?_ ?_ ?_) ⟨b1,?_,?_⟩
       ·have h1:=congrArg uR hm
        rw[bD] at h1
        have h2:∀l:List D,(D.c9 l).length=l.length:=λl=>by
         induction l with
         | nil=>simp[D.c9]
         | cons x l ih=>rw[D.c9,dE,ih,dE]
        rw[h2] at h1
        have h3:vs.toList.length=vs.size:=jg
        lia
       ·simpa using hjt
       ·intro m sg bO
        have:=hjn m bO
        simpa using this
       ·exact ea
       ·refine fD.bind e1 S1 (fD.bind e2 S2 ⟨.int (j:Int),.int (j:Int),H2,?_,I2.tok _,⟨s2.toks,rfl⟩,.refl _,Is.bT.mpr rfl⟩)
        unfold tK
        rw[q]
        exact e3
 | _=>exact absurd rfl a9
end
section
variable {prog:bw}{w:aY}{A:Around}{E:ae->aq->Prop}{s:aq}
theorem w0b{e it l:Addr}{i:Nat}{z:Int}{items:Array ae}{x old:ae}{Q:ae->aq->Prop}(he:pV s.heap e it z old)(hit:s.heap.IsListIter it l i)(ht:s.heap.IsList l items)(hx:items[i]? = some x)(aU:e≠it)
 (hQ:∀h',Kp h' e it (z+1) x s.heap.objs.size->h'.IsListIter it l (i+1)->h'.get? s.heap.objs.size=some { cls:=.type "tuple",data:=.seq #[.int z s.toks,x] }->h'.objs.size=s.heap.objs.size+1->(∀b o,b≠e->b≠it->s.heap.get? b=some o->h'.get? b=some o)->Q (.ref s.heap.objs.size) { s with heap:=h',toks:=s.toks+1 }) :
 az (aJ prog w) A (gr.«enumerate.__next__» ⟨[.ref e],[]⟩) (λfin s'=>∃v,fin = .done (.ret v)/\Q v s') E s:=by
 refine(show az _ _ (oV (.ref e) 2>>=_) _ _ _ from ay (f_ he rfl (x:=.ref it) rfl (ay (a7m hit ht hx λg1 f1 n1=>?_))))
 have zg:pV g1 e it z old:=n1.extBut _ _ aU he
 refine(show az _ _ (oV (.ref e) 3>>=_) _ _ _ from ay (f_ zg rfl (x:=.int z 0) rfl (show az _ _ (oV (.ref e) 4>>=_) _ _ _ from ay (f_ zg rfl (x:=.none) rfl ?_))))
 refine ay (show az _ _ (mkInt z) _ _ _ from wpAny_mkInt ?_)
 refine ay (pU (s:={ s with heap:=g1,toks:=s.toks+1 }) zg (by simp) λg2 (GF:pV g2 e it (z+1) old) n2=>ay (pU GF (by simp) λg3 (CD:pV g3 e it (z+1) old) n3=>ay (Ts ?_)))
 have QT:g3.objs.size=s.heap.objs.size:=by rw[n3.1,n2.1,n1.1]
 have zh:pV (g3.push { cls:=.type "tuple",data:=.seq #[.int z s.toks,x] }) e it (z+1) old:=bB _ CD
 have elt:e<g3.objs.size:=bx CD
 refine(show az _ _ (A0 (.ref e)>>=_) _ _ _ from ay ?_)
 unfold A0
 refine ay (f_ zh rfl (x:=.none) rfl (aP ?_));simp only[if_true]
 refine ay (vc (ay (f_ zh rfl (x:=old) rfl (ay (pU zh (by simp) λg5 (GG:pV g5 e it (z+1) x) n5=>?_)))))
 refine(show az _ _ (Ka (.ref e) (.ref g3.objs.size)>>=_) _ _ _ from ay ?_)
 unfold Ka
 refine ay (pU GG (by simp) λg7 (he7:Kp g7 e it (z+1) x g3.objs.size) n7=>pU he7 (by simp) λg8 (QU:Kp g8 e it (z+1) x g3.objs.size) n8=>?_)
 refine ay (J_ (aP ⟨_,rfl,?_⟩))
 have up:∀c o,c≠e->g3.get? c=some o->g8.get? c=some o:=λc o c1 q=>n8.extBut _ _ c1 (n7.extBut _ _ c1 (n5.extBut _ _ c1 (bB _ q)))
 have t8:g8.get? g3.objs.size=some { cls:=.type "tuple",data:=.seq #[.int z s.toks,x] }:=n8.extBut _ _ (jC elt) (n7.extBut _ _ (jC elt) (n5.extBut _ _ (jC elt) (c_ _ rfl)))
 have s8:g8.objs.size=g3.objs.size+1:=by rw[n8.1,n7.1,n5.1];exact fG ..
 rw[QT] at QU t8 s8
 show Q (.ref g3.objs.size) _
 rw[QT]
 have fit:g8.IsListIter it l (i+1):=f1.at λo q=>up it o aU.symm (n3.extBut _ _ aU.symm (n2.extBut _ _ aU.symm q))
 exact hQ g8 QU fit t8 s8 λb o b1 b2 q=>up b o b1 (n3.extBut _ _ b1 (n2.extBut _ _ b1 (n1.extBut _ _ b2 q)))
theorem w0a{e it l:Addr}{i:Nat}{z:Int}{items:Array ae}{x old:ae}{Q:Option ae->aq->Prop}(he:pV s.heap e it z old)(hit:s.heap.IsListIter it l i)(ht:s.heap.IsList l items)(hx:items[i]? = some x)(aU:e≠it)
 (hQ:∀h',Kp h' e it (z+1) x s.heap.objs.size->h'.IsListIter it l (i+1)->h'.get? s.heap.objs.size=some { cls:=.type "tuple",data:=.seq #[.int z s.toks,x] }->h'.objs.size=s.heap.objs.size+1->(∀b o,b≠e->b≠it->s.heap.get? b=some o->h'.get? b=some o)->Q (some (.ref s.heap.objs.size)) { s with heap:=h',toks:=s.toks+1 }) :
 az (aJ prog w) A (hG (.ref e)) Q E s:=by
 have hT:s.TypeIs (.ref e) "enumerate":=⟨_,he,rfl⟩
 unfold hG
 exact ay (ve (oM (name:=bt "__next__") hT Kq (j_ Kq hT a8z (w0b he hit ht hx aU λh' a1 a2 a3 a4 a5=>aP (hQ h' a1 a2 a3 a4 a5)) (a9a _))))
theorem x9z{e it l:Addr}{i:Nat}{z:Int}{items:Array ae}{old:ae}{Q:Option ae->aq->Prop}(hh:A.handled=none)(he:pV s.heap e it z old)(hit:s.heap.IsListIter it l i)(ht:s.heap.IsList l items)(hx:items[i]? = none)(hQ:∀h',(∀b o,b≠it->s.heap.get? b=some o->h'.get? b=some o)->Q none { s with heap:=h' }):az (aJ prog w) A (hG (.ref e)) Q E s:=by
 have hT:s.TypeIs (.ref e) "enumerate":=⟨_,he,rfl⟩
 unfold hG
 refine ay (ve (oM (name:=bt "__next__") hT Kq (j_ Kq hT a8z (show az _ _ (oV (.ref e) 2>>=_) _ _ _ from ay (f_ he rfl (x:=.ref it) rfl (ay (a7n hh hit ht hx λh' e' hk ⟨o,ho,hc⟩=>?_)))) (a9a _))))
 exact ay (Kc (T:="StopIteration") (b:=true) ⟨o,ho,hc⟩ Tt (aP (hQ _ λb o b1 q=>hk b o b1 q)))
end
def HH(K:aK)(l:Addr):It :=
 ⟨λi H=>∃xs x,bW K H l xs/\xs[i]? = some x,
  λi H v H'=>∃T x,v = .ref T/\H T=none/\H'=upd H T (.tup [.int ((i:Int)+1),x])/\∀xs,bW K H l xs->xs[i]? = some x,
  λi H=>∃xs,bW K H l xs/\xs.length<=i⟩
theorem x8m{P:bw}{w:aY}{K:aK}{elts:List Expr}{kt}{pt:Pos}{e it l:Addr}(z8:e≠it):Turn P w K (.Tuple elts kt pt) (HH K l) [e,it] e (λi h=>(∃old,pV h e it ((i:Int)+1) old)/\h.IsListIter it l i) where
 mem:=by simp
 obj:=λi h ⟨⟨old,q1⟩,q2⟩ c hc=>by
  simp only[fh,gR,or_false] at hc
  rcases hc with rfl | rfl
  ·exact⟨_,q1,λv z=>nomatch z⟩
  ·obtain⟨o,e,c,d⟩:=q2;exact⟨o,e,λv z=>by rw[d] at z;cases z⟩
 keep:=λi h h' ⟨⟨old,q1⟩,q2⟩ k=>⟨⟨old,k e (by simp) _ q1⟩,q2.at λo z=>k it (by simp) o z⟩
 item:=by
  intro X hP hw hK hc i pins s σ H E I hf ⟨⟨old,q1⟩,q2⟩ ⟨xs,x,s1,ex⟩
  subst hP hw hK
  obtain⟨its,rv,p,hz⟩:=I.list s1
  obtain⟨u,hu,ru⟩:=rv.get ex
  refine w0a q1 q2 p.isList (x:=u) (by simpa using hu) z8 λh' a1 a2 a3 a4 a5=>⟨_,rfl,?_⟩
  refine a7v (s:={ s with heap:=h',toks:=s.toks+1 }) a1 λiU c1 c2=>?_
  have Te:s.heap.objs.size≠e:=jC (bx q1)
  have kk:∀c o,c ∉ [e,it]->s.heap.get? c=some o->iU.get? c=some o:=λc o hc z=>by
   simp only[fh,gR,or_false,not_or] at hc
   exact c2.extBut _ _ hc.1 (a5 c o hc.1 hc.2 z)
  have tT:qX iU s.heap.objs.size [kM ((i:Int)+1) s.toks,u].toArray:=⟨_,c2.extBut _ _ Te a3,rfl,_,rfl⟩
  have I1:=G8 (t':=s.toks+1) (xs:=[.int ((i:Int)+1),x]) I hf kk (bA _) (by rw[lV];exact(by decide:(2:Nat)<=16777216)) (.cons ⟨_,rfl⟩ (.cons ru .nil)) tT
  refine⟨.ref s.heap.objs.size,_,I1,rfl,⟨_,x,rfl,I.aQ.fresh (bA _),rfl,λxs' q=>by rw[I.Bc q s1];exact ex⟩,⟨⟨u,c1⟩,a2.at λo z=>c2.extBut _ _ (eC z8) z⟩,λc hc=>?_⟩
  rw[bP]
  ·exact(hf c hc).1
  ·intro z
   have ex:∃o,s.heap.get? c=some o:=by
    simp only[fh,gR,or_false] at hc
    rcases hc with rfl | rfl
    ·exact⟨_,q1⟩
    ·obtain⟨o,e,_⟩:=q2;exact⟨o,e⟩
   obtain⟨o,eo⟩:=ex
   exact absurd (bx eo) (by rw[z];exact dS _)
 done:=by
  intro X hP hw hK hc i pins s σ H E I hf ⟨⟨old,q1⟩,q2⟩ ⟨xs,s1,uD⟩
  subst hP hw hK
  obtain⟨its,rv,p,hz⟩:=I.list s1
  have n1:=rv.length
  refine x9z (I.ok.hd hc) q1 q2 p.isList (by simp;lia) λh' kk=>⟨rfl,G7 (t':=s.toks) I hf λc o hc z=>?_⟩
  simp only[fh,gR,or_false,not_or] at hc
  exact kk c o hc.2 z
 self:=λ_ _ _ _ _ st h=>by obtain⟨⟨old,q1⟩,_⟩:=st;exact Ke q1 h
theorem w4d{K:aK}{H:Hp}{F:List Addr}{l:Addr}{xs:List V}{ds:List D}(h1:bW K (aS F H) l xs)(i1:aC K (aS F H) ds xs):Hc K H F (HH K l) (dY 1 ds):=λH1 S=>by
 have q1:bW K H1 l xs:=(lH (F:=F)).seq ((wk S λb hb=>.inl hb).seq h1)
 have n1:=i1.length
 have nz:=Hg 1 ds
 refine⟨λi hi=>⟨⟨xs,xs[i]'(by lia),q1,cD (by lia)⟩,λv H2 y=>?_⟩,⟨xs,q1,by lia⟩⟩
 obtain⟨T,x,rfl,hT,rfl,e1⟩:=y
 obtain⟨d,ed,iv⟩:=i1.uh (e1 xs q1)
 have S2:=iA hT (.tup [.int ((i:Int)+1),x])
 have eg:=Hf (k:=1) ed
 rw[show((1+i:Nat):Int)=(i:Int)+1 by lia] at eg
 exact⟨S2,.int ((i:Int)+1),d,T,.int ((i:Int)+1),x,eg,rfl,cE.of dq,λF' hF=>⟨Is.bT.mpr rfl,(iv.same (wk S hF)).same (gG S2)⟩⟩
theorem x6d(l:Addr)(xs:Array ae)(t:Tok):AR (gr.«enumerate.__new__» ⟨[.type "enumerate",.ref l],[(bt "start",.int 1 t)]⟩) (λ_ R s=>s.heap.IsList l xs/\R (.ok (.ret (.ref (s.heap.push { cls:=.type "list_iterator",data:=.fields #[.ref l,.int 0 0] }).objs.size))) { s with heap:=(s.heap.push { cls:=.type "list_iterator",data:=.fields #[.ref l,.int 0 0] }).push { cls:=.type "enumerate",data:=.fields #[.none,.bool false,.ref s.heap.objs.size,rawInt 1,.none,.none] } }) :=
 .of_wp λprog w A R s h=>by
  obtain⟨hp,g,d,tk,os⟩:=s
  obtain⟨q1,h⟩:=h
  have e1:D2 (sZ ⟨hp,g,d,tk,os⟩) l xs:=q1
  have C6:isSubtype (.type "enumerate") (.type "enumerate")=pure true:=by rw[TH];rfl
  wp_walk using rq e1
  refine wpAny_stack_any λst=>aP (y7l ?_ ?_)
  ·wp_walk using rq e1
   exact⟨_,rfl,h⟩
  ·wp_walk using rq e1
   exact⟨_,rfl,h⟩
theorem w0d(a v:ae):checkTypeCall "enumerate" ⟨[a],[(bt "start",v)]⟩=pure ():=by kernel_rfl
theorem w4o(a v:ae):a8c "enumerate.__new__" ⟨[.type "enumerate",a],[(bt "start",v)]⟩=pure ():=by kernel_rfl
theorem w0f(a b v:ae):A3 "object.__init__" ⟨[a,b],[(bt "start",v)]⟩:=by unfold A3;rw[TK (id:="object.__init__") (n:=['_','_','t','i','n','i','_','_']) (o:=['t','c','e','j','b','o']) (by kernel_rfl) F.owner_object];kernel_rfl
section
variable {prog:bw}{w:aY}{A:Around}{E:ae->aq->Prop}{s:aq}
theorem w0e{obj a v:ae}{Q:ae->aq->Prop}(hT:s.TypeIs obj "enumerate")(q:Q .none s):az (aJ prog w) A (gr.«object.__init__» ⟨[obj,a],[(bt "start",v)]⟩) (λfin s'=>∃r,fin = .done (.ret r)/\Q r s') E s:=by
 have hl:=F.called_enumerate.init.lookup
 have hm:=F.called_enumerate.made
 have aU:(some "enumerate.__new__" != some "object.__new__")=true:=by decide
 (repeat (any_goals (first | assumption | wp_step)))
 exact⟨_,rfl,q⟩
theorem w0o{l:Addr}{xs:Array ae}{t:Tok}{Q:ae->aq->Prop}(q1:s.heap.IsList l xs)(q:∀h',pV h' (s.heap.objs.size+1) s.heap.objs.size 1 .none->h'.IsListIter s.heap.objs.size l 0->h'.objs.size=s.heap.objs.size+2->(∀c o,s.heap.get? c=some o->h'.get? c=some o)->Q (.ref (s.heap.objs.size+1)) { s with heap:=h' }) :
 az (aJ prog w) A (call (.type "enumerate") [.ref l] [(bt "start",.int 1 t)]) Q E s:=by
 have ft:=F.called_enumerate
 obtain⟨c,tl,a0m⟩:=ft.mro
 have a0n:=ft.made;have C6:=ft.sub;have hct:=w0d (.ref l) (.int 1 t)
 refine DS (TB (show az _ _ (callAny (.type "enumerate") _) _ _ _ from ?_))
 refine aP ⟨a8e _ (by decide +kernel),xC a8f ?_⟩;rw[a8g (a8h "enumerate" [.ref l] [(bt "start",.int 1 t)]) (units_type_call_type "enumerate" [.ref l] [(bt "start",.int 1 t)])]
 have h1:=ft.notType;have h2:=ft.canCreate
 (repeat (any_goals (first | assumption | wp_step)))
 have y1:(s.heap.push { cls:=.type "list_iterator",data:=.fields #[.ref l,.int 0 0] }).objs.size=s.heap.objs.size+1:=fG ..
 have u2:((s.heap.push { cls:=.type "list_iterator",data:=.fields #[.ref l,.int 0 0] }).push { cls:=.type "enumerate",data:=.fields #[.none,.bool false,.ref s.heap.objs.size,rawInt 1,.none,.none] }).get? (s.heap.objs.size+1)=some { cls:=.type "enumerate",data:=.fields #[.none,.bool false,.ref s.heap.objs.size,rawInt 1,.none,.none] }:=by
  rw[<-y1];exact c_ _ rfl
 refine sT (TF (R:=Kl (λobj s1=>obj = .ref (s.heap.objs.size+1)/\s1={ s with heap:=(s.heap.push { cls:=.type "list_iterator",data:=.fields #[.ref l,.int 0 0] }).push { cls:=.type "enumerate",data:=.fields #[.none,.bool false,.ref s.heap.objs.size,rawInt 1,.none,.none] } }) E) ft.plain F.entry_enumerate_new (J3 (w4o (.ref l) (.int 1 t)) (x6d l xs t prog w A.in1 _ s ⟨q1,by rw[y1];exact⟨rfl,rfl⟩⟩))) λr s1 hr=>?_
 cases r with
 | error e=>exact hr
 | ok fl =>
   cases fl with
   | ret obj =>
     obtain⟨rfl,rfl⟩:=hr
     have hT:Km { s with heap:=(s.heap.push { cls:=.type "list_iterator",data:=.fields #[.ref l,.int 0 0] }).push { cls:=.type "enumerate",data:=.fields #[.none,.bool false,.ref s.heap.objs.size,rawInt 1,.none,.none] } } (.ref (s.heap.objs.size+1)) "enumerate":=⟨_,u2,rfl⟩
     have hli:=ft.init.lookup;have hbi:=ft.init.bind (.ref (s.heap.objs.size+1))
     (repeat (any_goals (first | assumption | wp_step)))
     refine sT (TF (R:=Kl (λr s2=>r = .none/\Q (.ref (s.heap.objs.size+1)) s2) E) ft.init.plain F.entry_object_init (ft.init.check _ _ _ _ (.ref (s.heap.objs.size+1)) [.ref l] [(bt "start",.int 1 t)] _ hT (w0f _ _ _) (aH (w0e (Q:=λr s2=>r = .none/\Q (.ref (s.heap.objs.size+1)) s2) hT ⟨rfl,q _ u2 ⟨_,bB _ (c_ _ rfl),rfl,rfl⟩ (by rw[fG,y1]) λc o x=>bB _ (bB _ x)⟩) (λfin s' hf=>by obtain⟨r,rfl,hr⟩:=hf;exact hr) λ_ _ z=>z))) λr2 s2 uF=>?_
     cases r2 with
     | error e=>exact uF
     | ok Hy =>
       cases Hy with
       | ret r =>
         obtain⟨rfl,hq⟩:=uF
         (repeat (any_goals (first | assumption | wp_step)))
       | _=>exact uF.elim
   | _=>exact hr.elim
end
theorem w0p{M:oI}{A:Around}{E:ae->aq->Prop}{s:aq}{env:Env}{pos:Pos}{T:String}{e:Expr}{tu:List qZ}{Q:ae->aq->Prop}
 (h:az M A (h_ (de pos (bR [e] env))) (λvs s1=>az M A (evalAll ((rA pos (rB tu env)).map (·.2))) (λfi s2=>az M A (call (.type T) vs (((rA pos (rB tu env)).filterMap (·.1)).zip fi)) Q E s2) E s1) E s)
 (he:de pos (bR [e] env)=(false,eval e env)::de pos (bR [] env)) (a0w:(de pos (bR [e] env)).any (·.1)=false) (jJ:(rA pos (rB tu env)).all (·.1.isSome)=true) (hkw:(rA pos (rB tu env)).any (·.1.isNone)=false) :
 az M A (callWith pos (.type T) [] (de pos (bR [e] env)) (rA pos (rB tu env))) Q E s:=by
 have h':az M A (evalArgs (.type T) true (de pos (bR [e] env)) (rA pos (rB tu env))) (λa s1=>az M A (call (.type T) ([]++a.pos) a.kw) Q E s1) E s:=by
  rw[he] at h ⊢
  exact evalArgs_kwB jJ h
 unfold callWith
 refine ay (oK (aH h' (λa s1 h1=>ay (AX ?_)) λ_ _ z=>z))
 simp only[a0w,hkw,Bool.or_false]
 refine ay (aP (ay (aH h1 (λr s2 hr=>ay (oK (wpAny_point (aP hr)))) λ_ _ z=>z)))
section
variable {X:Cx}{a b:Expr}{ga gb:G->R D}
theorem x9a{elts:List Expr}{kt}{pt p pos kp:Pos}{v:Expr}(ha:gY X a ga)(hv:PD X v (gC (.int 1)))(hm:X.mg "enumerate"=none)(hg:Gl X "enumerate":=by rfl)(hs:bR [a] X.env=[(false,eval a X.env)]:=by rfl) :
 iT Hc X (.Tuple elts kt pt) (.Call (.Name "enumerate" p) [a] [⟨some "start",v,kp⟩] pos) (y8z ga):=by
 refine⟨λpins s σ H F Γ I fo rl cM=>?_⟩
 refine rp (nB I hg hm Qh ?_)
 refine w0p ?_ (by rw[hs];rfl) (by rw[hs];rfl) rfl rfl
 rw[hs]
 show az _ _ (h_ ((false,eval a X.env)::de pos [])) _ _ s
 refine jk (aH (ha.run pins s σ H F Γ I fo rl (R.left cM)) (λu s1 ⟨d,y,H1,e1,I1,r1,S1,i1⟩=>l9 ?_) λ_ _ x=>x.bind _)
 have a9:=R.next cM e1
 refine kws_cons (aH (hv.run pins s1 σ H1 F Γ I1 (fo.same S1) (rl.same S1) (λz=>nomatch z)) (λu2 s2 ⟨d2,y2,H2,e2,I2,r2,S2,i2⟩=>kws_nil ?_) λ_ _ x=>?_)
 ·cases e2
  rw[Is.bT.mp i2] at r2
  obtain⟨tk,rfl⟩:=r2
  cases d with
  | lst ds =>
    obtain⟨l,xs,rfl,q1,j1⟩:=Is.fb.mp i1
    cases (show u=gJ l from r1)
    have q2:bW X.K H2 l xs:=S2.seq ((lH (F:=F)).seq q1)
    obtain⟨its,rv,pl,hz⟩:=I2.list q2
    show az _ _ (call (.type "enumerate") [.ref l] [(bt "start",.int 1 tk)]) _ _ s2
    refine w0o pl.isList λh' a1 a2 a3 a4=>?_
    refine Ke (s:={ s2 with heap:=h' }) a1 ?_
    have I3:Inv X pins σ H2 { s2 with heap:=h' }:=I2.kept (t':=s2.toks) a4
    refine⟨dY 1 ds,s2.heap.objs.size+1,_,_,HH X.K l,H2,R.step e1 _,rfl,I3,S1.trans S2,x8m (it:=s2.heap.objs.size) (by show @Ne Nat _ _;lia),⟨⟨_,a1⟩,a2⟩,λc hc=>?_,w4d ((gG S2).seq q1) (j1.same (gG S2))⟩
    simp only[fh,gR,or_false] at hc
    have sM:s2.heap.objs.size<=c:=by rcases hc with rfl | rfl<;>lia
    exact I2.tq sM (I2.aQ.fresh sM)
  | _=>exact absurd rfl a9
 ·obtain⟨c,H',e,_⟩:=x
  cases e
end
section
variable {X:Cx}{e:Expr}{pos p:Pos}{x:Str}{es:List Expr}{gs:G->R (List D)}
end
end L3
namespace HQ
open PySem PySem.W PySem.Calls PyProof.Rows L2
noncomputable def Ab(tb:String->Option gr)(p:bw)(w:aY)(j7:Nat)(ann:Option ae)(n:Nat):A4->Thread->Option A4 :=
 Nat.rec (λ_ _=>none) (λ_ ih s t=>match Kr t with
  | true=>some s
  | false=>match stepOk j7 ann t with
    | false=>none
    | true=>match stepT (denote tb) p w s t with
      | some (s',t')=>ih s' t'
      | none=>none) n
theorem QV{tb:String->Option gr}{p:bw}{w:aY}{j7:Nat}{ann:Option ae}:∀{n:Nat} {s r:A4} {t:Thread},Ab tb p w j7 ann n s t=some r->topRun tb p w j7 ann n s.abs t=some r.abs
 | 0,_,_,_,h=>by cases h
 | n+1,s,r,t,h=>by
   have h':(match Kr t with
    | true=>some s
    | false=>match stepOk j7 ann t with
      | false=>none
      | true=>match stepT (denote tb) p w s t with
        | some (s',t')=>Ab tb p w j7 ann n s' t'
        | none=>none)=some r:=h
   unfold topRun
   cases ht:Kr t with
   | true=>rw[ht] at h';cases h';rfl
   | false =>
     rw[ht] at h'
     cases hk:stepOk j7 ann t with
     | false=>rw[hk] at h';cases h'
     | true =>
       rw[hk] at h'
       cases hs:stepT (denote tb) p w s t with
       | none=>rw[hs] at h';cases h'
       | some x=>obtain⟨aA,b0a⟩:=x;rw[hs] at h';rw[stepT_spec hs];exact QV h'
noncomputable def Dk(p q:bw)(loose:List Str)(Xt:aq->Bool){α:Type}(Yf:aq->α)(w:aY)(s:aq) :=
 (TP (D8 p.main.body) (jF w.params) s.heap&&TQ p s.heap&&TR s&&TU (jF w.params) s.heap,openSeen q loose (D8 p.main.body) Xt true s,Yf s)
theorem w3v{p q:bw}{loose:List Str}{Xt:aq->Bool}{α:Type}{Yf:aq->α}{Ya:aY->α}{N j7:Nat}{B:rh->BT}{life:Life}{ann:Option ae}
 (hB:∀P,absHeap (B P) j7 life=jF P) (e:opening p=plainProg p.main.scope.names) (hN:Nat.ble 600 N=true) (f:∀s,fenceModules? p s=some s)
 (size:∀P,((jF P).isNs dU,(jF P).nsMap dU "__annotations__")=(true,ann))
 (big:∀(w:aY) (os:TV),(Ab D9 p w j7 ann N ⟨B w.params,j7,life,#[],boot_drawn,boot_toks,os⟩ (topStub p)).map (λs=>Dk p q loose Xt Yf w s.abs)=some (true,openGood q loose,Ya w)):LeftO p q loose Xt Yf Ya N:=λw=>by
 obtain⟨⟨h,gs,d,k,os⟩,e1,e2⟩:=Option.map_eq_some_iff.mp (boot_open (p:=p) (N:=N) e hN f w)
 obtain⟨rfl,rfl,rfl,rfl⟩:h=jF w.params/\gs=#[]/\d=boot_drawn/\k=boot_toks:=by simpa using e2
 obtain⟨z1,z2⟩:_/\_:=by simpa only[Ki] using size w.params
 obtain⟨r,hr,hs⟩:=Option.map_eq_some_iff.mp (big w os)
 have t:=QV hr
 have ab:(SharedT.abs ⟨B w.params,j7,life,#[],boot_drawn,boot_toks,os⟩)=⟨jF w.params,#[],boot_drawn,boot_toks,os⟩:=by
  unfold SharedT.abs
  rw[hB]
 rw[ab] at t
 have sz:(jF w.params).objs.size=j7:=by rw[<-hB w.params];exact absHeap_size _ _ _
 unfold Dk at hs
 obtain⟨l1,l2⟩:_/\_:=by simpa only[Ki] using hs
 have T:TX D9 p w N ⟨jF w.params,#[],boot_drawn,boot_toks,os⟩=some r.abs:=by
  unfold TX
  dsimp only
  rw[z1,z2,sz,t]
  show(match TP (D8 p.main.body) (jF w.params) r.abs.heap&&TQ p r.abs.heap&&TR r.abs&&TU (jF w.params) r.abs.heap with | true=>_ | false=>_)=_
  rw[l1]
 unfold openEnds
 rw[e1]
 show(TX D9 p w N _).map _=_
 rw[T]
 exact congrArg some (Prod.ext l2.1 l2.2)
def w7m(l:List Obj):BT:=(l.foldl (λx o=>(x.1.ins x.2 o,x.2+1)) (BT.nil,0)).1
noncomputable def B(P:rh):BT:=w7m (jF P).objs.toList
theorem hB(P:rh):absHeap (B P) 11 {}=jF P:=by kernel_rfl
theorem hS(P:rh):((jF P).isNs dU,(jF P).nsMap dU "__annotations__")=(true,some (.ref 6)):=by kernel_rfl
noncomputable def HI(p:bw)(w:aY)(j7:Nat)(ann:Option ae)(n:Nat):A4->Thread->Option A4 :=
 Nat.rec (λ_ _=>none) (λ_ ih s t=>match Kr t with
  | true=>some s
  | false=>match PySem.W.Fast.tw6613529449190102663 j7 ann t with
    | false=>none
    | true=>match PySem.W.Fast.tw10156331382660048174 (PySem.W.Fast.tw11892475500146522536 D9) p w s t with
      | some (s',t')=>ih s' t'
      | none=>none) n
theorem w2v:Ab D9=HI:=by
 unfold Ab HI
 simp only[<-PySem.W.Fast.te6613529449190102663,<-PySem.W.Fast.te10156331382660048174,<-PySem.W.Fast.te11892475500146522536]
 try rfl
def a0x(p:bw):List Str:=(p.main.scope.names.map (·.1)).filter λx=>!(startupNames.contains x||x=="law")
noncomputable def HJ(p q:bw)(loose:List Str)(Xt:aq->Bool){α:Type}(Yf:aq->α)(w:aY)(s:aq) :=
 (TP (D8 p.main.body) (jF w.params) s.heap&&TQ p s.heap&&TR s&&TU (jF w.params) s.heap,PySem.W.Fast.tw4187177175401517315 q loose (D8 p.main.body) Xt true s,Yf s)
theorem w2o:@Dk=@HJ:=by
 unfold Dk HJ
 rw[PySem.W.Fast.te4187177175401517315]
noncomputable def s0(w:aY)(os:TV):A4:=⟨B w.params,11,{},#[],boot_drawn,boot_toks,os⟩
theorem a0y{p q:bw}{loose:List Str}{Xt:aq->Bool}{α:Type}{Yf:aq->α}{Ya:aY->α}{N:Nat}(e:opening p=plainProg p.main.scope.names)(hN:Nat.ble 600 N=true)(f:∀s,fenceModules? p s=some s)
 (big:∀(w:aY) (os:TV),(HI p w 11 (some (.ref 6)) N (s0 w os) (topStub p)).map (λs=>HJ p q loose Xt Yf w s.abs)=some (true,openGood q loose,Ya w)):LeftO p q loose Xt Yf Ya N :=
 w3v hB e hN f hS (by rw[w2v,w2o];exact big)
noncomputable def fO(x:Str)(st:Stmt)(pm cd:ae):Obj:=⟨.type "function",none,.func (fnOf x x (xV st) (p8 st) (bI st) .none .none .none pm none cd .none),#[]⟩
theorem HK{K:Frag}{x:Str}{st:Stmt}{a c:Addr}{pm:ae}(l:K.lookup a=some (fO x st pm (.ref c)))(e:codeIn K (.ref c) x=true):p9 K x x st a (fnOf x x (xV st) (p8 st) (bI st) .none .none .none pm none (.ref c) .none) :=
 ⟨⟨_,_,_,_,_,_,_,_,_,rfl,l,e⟩,by unfold keepIn;dsimp only;rw[l];rfl⟩
noncomputable def en(P:rh)(x:Str)(t:Tok)(v:ae):DictEntry:=⟨PyData.keyHash P x,.str x t,v⟩
noncomputable def cO(x:Str)(t:Nat)(line a0z:Int)(a b c d e:ae)(u:Nat):Obj:=⟨.type "code",none,.fields [.str x t,.str x (t+1),.str "/claim/cut.py" (t+2),.int line 0,.int a0z 0,.int 0 0,.int 0 0,.int 3 0,a,.bool true,.int 181 0,b,.none,c,d,e,.int u 0,.int line 0,.str "/claim/cut.py" (u+1)].toArray,#[]⟩
end HQ
namespace L3
open PySem PySem.Spec PyProof.Rows L2
structure Ev where
 P:bw
 w:aY
 K:aK
 mg:Str->Option ae
 base:Heap
def Own(E:Ev)(x:Str)(st:Stmt)(ps:List Str):Prop:=∃(a:Addr) (d:da),p9 E.K x x st a d/\oY E.K d ps []/\E.mg x=some (.ref a)
def cC(E:Ev)(k:Nat)(x:Str)(ps:List Str)(φ:List D->R D):Prop:=∃(a:Addr) (d:da),gH E.P E.w E.K E.mg E.base k a d ps φ/\E.mg x=some (.ref a)
def lR(E:Ev)(k:Nat)(x:Str)(ps:List Str)(φ:List D->R (List D)):Prop:=∃(a:Addr) (d:da),sy E.P E.w E.K E.mg E.base k a d ps φ/\E.mg x=some (.ref a)
section
variable {E:Ev}{k k':Nat}{x:Str}{st:Stmt}{N ps:List Str}
theorem cC.up{φ:List D->R D}(h:cC E k x ps φ)(hk:k<=k'):∃(a:Addr) (d:da),gH E.P E.w E.K E.mg E.base k' a d ps φ/\E.mg x=some (.ref a):=let ⟨a,d,f,m⟩:=h;⟨a,d,f.mono hk,m⟩
theorem lR.up{φ:List D->R (List D)}(h:lR E k x ps φ)(hk:k<=k'):∃(a:Addr) (d:da),sy E.P E.w E.K E.mg E.base k' a d ps φ/\E.mg x=some (.ref a):=let ⟨a,d,f,m⟩:=h;⟨a,d,f.mono hk,m⟩
theorem cS{n m:Nat}{g:G->R Fl}(u:Own E x st ps)(S:bM N ps (bI st))(hn:ps.length=n)(hm:N.length=m)
 (p4:∀(f:Addr) (b7:ae) (A:Around) (outer:List Env) (s:aq) (H:Hp) (Ex:XK),eZ k (lP E.P E.w E.K E.mg E.base N x st f b7 A outer s H Ex).A->(lP E.P E.w E.K E.mg E.base N x st f b7 A outer s H Ex).A.units+64<j9->N.Nodup->lN (lP E.P E.w E.K E.mg E.base N x st f b7 A outer s H Ex) (p8 st) g):cC E (k+1) x ps (b6 n m g):=by
 subst hn hm
 obtain⟨a,d,Fu,hb,mm⟩:=u
 exact⟨a,d,CU Fu S hb (λds h=>rU h) λb7 A outer s H Ex hr=>⟨g,p4 a b7 A outer s H Ex hr hr.units S.nd,λds aU=>(vD (rU aU)).symm⟩,mm⟩
theorem pO{n m:Nat}{g:G->R Fl}(u:Own E x st ps)(S:bM N ps (bI st))(hn:ps.length=n)(hm:N.length=m)
 (p4:∀(f:Addr) (b7:ae) (A:Around) (outer:List Env) (s:aq) (H:Hp) (Ex:XK),eZ k (lP E.P E.w E.K E.mg E.base N x st f b7 A outer s H Ex).A->(lP E.P E.w E.K E.mg E.base N x st f b7 A outer s H Ex).A.units+64<j9->N.Nodup->lN (lP E.P E.w E.K E.mg E.base N x st f b7 A outer s H Ex) (p8 st) g):lR E (k+1) x ps (jq n m g):=by
 subst hn hm
 obtain⟨a,d,Fu,hb,mm⟩:=u
 exact⟨a,d,ZU Fu S hb (λds h=>LN h) λb7 A outer s H Ex hr=>⟨g,p4 a b7 A outer s H Ex hr hr.units S.nd,λds aU=>(LO (LN aU)).symm⟩,mm⟩
end
theorem b5{N P:List Str}{sc:cT}(h:sc.kind = .function/\sc.isCoroutine=false/\sc.isGenerator=false/\N.Nodup/\N.take P.length=P/\(∀x∈P,sc.names.lookup x=some .local∨sc.names.lookup x=some .cell)/\∀y∈sc.names,y.2 ≠ .free):bM N P sc:=⟨h.1,h.2.1,h.2.2.1,h.2.2.2.1,h.2.2.2.2.1,h.2.2.2.2.2.1,h.2.2.2.2.2.2⟩
theorem HL{α:Type}{o:Option α}{c:α}(h:o=some c):o.isSome=true:=by rw[h];rfl
theorem a1a{P:bw}{w:aY}{K:aK}{mg:Str->Option ae}{k:Nat}{a:Addr}{d:da}{φ:List D->R D}{st:Stmt}(_U:p9 K "law" "law" st a d)(hB:∀(s:aq) (v:ae),BindsTo s d ⟨[v],[]⟩ [("script",v)])(F:∀base:Heap,K.In base->base.Ns dU mg->gH P w K mg base k a d ["script"] φ) :
 ∃fd:da,(∀(s:aq) (v:ae),BindsTo s fd ⟨[v],[]⟩ [("script",v)])/\∀base:Heap,K.In base->base.Ns dU mg->jG P w K mg base (qr P w) k a fd ["script"] (wC φ K):=⟨d,hB,λbase h1 h2=>(F base h1 h2).okN⟩
end L3
namespace Row
open PySem PySem.Spec PyProof.Rows L2 L3
def top(i:Nat):Stmt:=PySem.Challenge.pw_longrounds_k94_whole_what_bars_a_goal.main.body.getD i (.Pass ⟨0,0,0,0⟩)
abbrev HM:Stmt:=top 59
theorem a1b:bM ["script","k"] ["script","k"] (bI HM):=b5 (by decide +kernel)
abbrev HN:Stmt:=top 61
theorem a1c:bM ["cell","P","size","out","k"] ["cell","P","size"] (bI HN):=b5 (by decide +kernel)
abbrev HP:Stmt:=top 64
theorem a1d:bM ["cell"] ["cell"] (bI HP):=b5 (by decide +kernel)
abbrev HR:Stmt:=top 65
theorem a1e:bM ["cell","more","P","many","x","form"] ["cell","more","P","many"] (bI HR):=b5 (by decide +kernel)
abbrev HS:Stmt:=top 66
theorem a1f:bM ["cells","P","many","agains","items","deep","k","few","level"] ["cells","P","many","agains"] (bI HS):=b5 (by decide +kernel)
abbrev HU:Stmt:=top 60
theorem a1g:bM ["cell","many","n"] ["cell","many"] (bI HU):=b5 (by decide +kernel)
abbrev HV:Stmt:=top 62
theorem a1h:bM ["P","form","stand"] ["P","form","stand"] (bI HV):=b5 (by decide +kernel)
abbrev yq:Stmt:=top 13
theorem a1i:bM ["form","table","place"] ["form","table","place"] (bI yq):=b5 (by decide +kernel)
abbrev s_on:Stmt:=top 6
theorem w7a:bM ["P","n"] ["P","n"] (bI s_on):=b5 (by decide +kernel)
abbrev vN:Stmt:=top 14
theorem a1j:bM ["P","table","form","many","numbers"] ["P","table","form"] (bI vN):=b5 (by decide +kernel)
abbrev yJ:Stmt:=top 56
theorem a1k:bM ["P","table","form"] ["P","table","form"] (bI yJ):=b5 (by decide +kernel)
abbrev tV:Stmt:=top 11
theorem a1l:bM ["width","place"] ["width","place"] (bI tV):=b5 (by decide +kernel)
abbrev yD:Stmt:=top 43
theorem a1m:bM ["P","row","lead","place"] ["P","row","lead","place"] (bI yD):=b5 (by decide +kernel)
abbrev r_:Stmt:=top 7
theorem a1n:bM ["P","n","number","answer"] ["P","n"] (bI r_):=b5 (by decide +kernel)
abbrev sf:Stmt:=top 41
theorem a1o:bM ["P","row","number"] ["P","row","number"] (bI sf):=b5 (by decide +kernel)
abbrev yE:Stmt:=top 42
theorem a1p:bM ["P","rows","place","row"] ["P","rows","place"] (bI yE):=b5 (by decide +kernel)
abbrev t6:Stmt:=top 44
theorem a1q:bM ["P","rows","left","steps","place","lead"] ["P","rows"] (bI t6):=b5 (by decide +kernel)
abbrev si:Stmt:=top 45
theorem a1r:bM ["P","rows","width","marked"] ["P","rows"] (bI si):=b5 (by decide +kernel)
abbrev tW:Stmt:=top 12
theorem a1s:bM ["many"] ["many"] (bI tW):=b5 (by decide +kernel)
abbrev tU:Stmt:=top 15
theorem a1t:bM ["P","one","other"] ["P","one","other"] (bI tU):=b5 (by decide +kernel)
abbrev vQ:Stmt:=top 18
theorem a1u:bM ["P","table","n","rungs","rung","figure"] ["P","table","n"] (bI vQ):=b5 (by decide +kernel)
abbrev vR:Stmt:=top 19
theorem a1v:bM ["rungs","n"] ["rungs","n"] (bI vR):=b5 (by decide +kernel)
abbrev t5:Stmt:=top 20
theorem a1w:bM ["P","table","n","whole","rung"] ["P","table","n"] (bI t5):=b5 (by decide +kernel)
abbrev yr:Stmt:=top 16
theorem a1x:bM ["many","x","form","forms"] ["many","x","form"] (bI yr):=b5 (by decide +kernel)
abbrev r9:Stmt:=top 22
theorem HW:bM ["P","many","items","whole","item"] ["P","many","items"] (bI r9):=b5 (by decide +kernel)
abbrev HX:Stmt:=top 21
theorem HY:bM ["P","many","item"] ["P","many","item"] (bI HX):=b5 (by decide +kernel)
abbrev yK:Stmt:=top 57
theorem a1y:bM ["P","many","items","table"] ["P","many","items"] (bI yK):=b5 (by decide +kernel)
abbrev HZ:Stmt:=top 47
theorem a1z:bM ["P","row","other"] ["P","row","other"] (bI HZ):=b5 (by decide +kernel)
abbrev H4:Stmt:=top 48
theorem a2a:bM ["P","rows","goal","columns","row","number"] ["P","rows","goal"] (bI H4):=b5 (by decide +kernel)
abbrev yG:Stmt:=top 46
theorem a2b:bM ["P","rows","goal","sums"] ["P","rows","goal"] (bI yG):=b5 (by decide +kernel)
abbrev vX:Stmt:=top 49
theorem a2c:bM ["P","rows","goal","weights"] ["P","rows","goal"] (bI vX):=b5 (by decide +kernel)
abbrev v9:Stmt:=top 51
theorem a2d:bM ["stand"] ["stand"] (bI v9):=b5 (by decide +kernel)
abbrev uc:Stmt:=top 52
theorem a2e:bM ["P","stands","goal"] ["P","stands","goal"] (bI uc):=b5 (by decide +kernel)
abbrev yo:Stmt:=top 9
theorem a2f:bM ["P","form","stand","many"] ["P","form","stand"] (bI yo):=b5 (by decide +kernel)
abbrev pz:Stmt:=top 10
theorem a2g:bM ["P","table","stand"] ["P","table","stand"] (bI pz):=b5 (by decide +kernel)
abbrev yN:Stmt:=top 53
theorem a2h:bM ["P","many","items","stand","table","stands","coming","told"] ["P","many","items","stand"] (bI yN):=b5 (by decide +kernel)
abbrev yO:Stmt:=top 54
theorem a2i:bM ["P","many","items","stand","goal","stands"] ["P","many","items","stand","goal"] (bI yO):=b5 (by decide +kernel)
abbrev uf:Stmt:=top 35
theorem a2j:bM ["P","table","stand","count","stands","turn"] ["P","table","stand","count"] (bI uf):=b5 (by decide +kernel)
abbrev H8:Stmt:=top 37
theorem a2k:bM ["P","table","m","r","stand","leap"] ["P","table","m","r","stand"] (bI H8):=b5 (by decide +kernel)
abbrev H9:Stmt:=top 36
theorem a2l:bM ["r","m"] ["r"] (bI H9):=b5 (by decide +kernel)
abbrev y8:Stmt:=top 38
theorem a2m:bM ["P","table","t","r","entry","goal","m","near","far","leap","stand"] ["P","table","t","r","entry","goal"] (bI y8):=b5 (by decide +kernel)
abbrev ue:Stmt:=top 29
theorem a2n:bM ["P","rungs","n","stand","rung"] ["P","rungs","n","stand"] (bI ue):=b5 (by decide +kernel)
abbrev H_:Stmt:=top 26
theorem a2o:bM ["P","many","parts","powers","k","longer"] ["P","many"] (bI H_):=b5 (by decide +kernel)
abbrev Ia:Stmt:=top 5
theorem a2p:bM ["n","divisor"] ["n"] (bI Ia):=b5 (by decide +kernel)
abbrev Ib:Stmt:=top 24
theorem a2q:bM ["n","divisor"] ["n","divisor"] (bI Ib):=b5 (by decide +kernel)
abbrev yT:Stmt:=top 25
theorem a2r:bM ["n","primes"] ["n"] (bI yT):=b5 (by decide +kernel)
abbrev yZ:Stmt:=top 28
theorem a2s:bM ["parts","found","part"] ["parts"] (bI yZ):=b5 (by decide +kernel)
abbrev yX:Stmt:=top 27
theorem a2t:bM ["parts","whole","part"] ["parts"] (bI yX):=b5 (by decide +kernel)
abbrev yV:Stmt:=top 30
theorem a2u:bM ["P","rungs","n","primes","stand","prime"] ["P","rungs","n","primes","stand"] (bI yV):=b5 (by decide +kernel)
abbrev yW:Stmt:=top 31
theorem a2v:bM ["P","rungs","r","stand","t"] ["P","rungs","r","stand"] (bI yW):=b5 (by decide +kernel)
abbrev y6:Stmt:=top 32
theorem a2w:bM ["P","table","stand","many","parts","whole","primes","rungs","r"] ["P","table","stand"] (bI y6):=b5 (by decide +kernel)
abbrev y9:Stmt:=top 39
theorem a2x:bM ["P","many","items","stand","goal","table","told","t","r","ahead"] ["P","many","items","stand","goal"] (bI y9):=b5 (by decide +kernel)
abbrev Ic:Stmt:=top 67
theorem QW:bM ["script","many","P","stand","goal","items","few","told","place","form"] ["script"] (bI Ic):=b5 (by decide +kernel)
noncomputable def KK(P:rh):aK :=
 (nat_lit 3,⟨(.type "dict"),none,.dict (HQ.en P "__name__" 165 (.str "law_longrounds_k94_whole_what_bars_a_goal" 652)::HQ.en P "__doc__" 166 .none::HQ.en P "__package__" 167 .none::HQ.en P "__loader__" 168 (.builtin "__main__.__loader__#opaque")::HQ.en P "__spec__" 169 .none::HQ.en P "__annotations__" 170 (.ref 6)::HQ.en P "__builtins__" 171 (.ref 4)::HQ.en P "__file__" 173 (.str "/claim/cut.py" 172)::HQ.en P "__cached__" 174 .none::HQ.en P "LongError" 206 (.ref 24)::HQ.en P "NoNumber" 222 (.ref 37)::HQ.en P "TooLong" 238 (.ref 49)::HQ.en P "least_divisor" 248 (.ref 58)::HQ.en P "on" 256 (.ref 65)::HQ.en P "back" 266 (.ref 72)::HQ.en P "worth" 274 (.ref 77)::HQ.en P "turned" 280 (.ref 82)::HQ.en P "one_at" 286 (.ref 87)::HQ.en P "idle" 292 (.ref 92)::HQ.en P "column_sum" 298 (.ref 97)::HQ.en P "form_ahead" 304 (.ref 102)::HQ.en P "then" 310 (.ref 107)::HQ.en P "setting" 320 (.ref 114)::HQ.en P "ladder" 334 (.ref 121)::HQ.en P "rungs_for" 340 (.ref 126)::HQ.en P "rounds" 351 (.ref 133)::HQ.en P "table_of_item" 360 (.ref 140)::HQ.en P "table_of" 371 (.ref 147)::HQ.en P "without_prime" 381 (.ref 154)::HQ.en P "primes_of" 389 (.ref 161)::HQ.en P "parts_of_rings" 401 (.ref 168)::HQ.en P "product" 410 (.ref 175)::HQ.en P "primes_of_parts" 419 (.ref 182)::HQ.en P "climbed" 430 (.ref 189)::HQ.en P "shortest" 442 (.ref 196)::HQ.en P "tail" 453 (.ref 203)::HQ.en P "ring_of_table" 459 (.ref 208)::HQ.en P "LONGEST_RING" 463 (.int 10000 462)::HQ.en P "walked" 475 (.ref 215)::HQ.en P "root_above" 483 (.ref 222)::HQ.en P "far_stands" 495 (.ref 229)::HQ.en P "on_or_apart" 512 (.ref 236)::HQ.en P "reach" 528 (.ref 243)::HQ.en P "times" 536 (.ref 248)::HQ.en P "lead_row" 546 (.ref 255)::HQ.en P "cleared" 552 (.ref 260)::HQ.en P "steps_form" 558 (.ref 265)::HQ.en P "idle_sums" 564 (.ref 270)::HQ.en P "weights_to" 574 (.ref 277)::HQ.en P "brought_together" 580 (.ref 282)::HQ.en P "shutting_row" 586 (.ref 287)::HQ.en P "solved" 596 (.ref 294)::HQ.en P "with_one" 605 (.ref 301)::HQ.en P "towards" 611 (.ref 306)::HQ.en P "hull" 625 (.ref 313)::HQ.en P "placed" 637 (.ref 320)::HQ.en P "change" 645 (.ref 325)::HQ.en P "kept" 651 (.ref 330)::HQ.en P "_law_cell" 661 (.ref 337)::HQ.en P "_law_small" 667 (.ref 342)::HQ.en P "_law_digits" 678 (.ref 349)::HQ.en P "_law_worth" 684 (.ref 354)::HQ.en P "_law_turned" 690 (.ref 359)::HQ.en P "_law_count" 697 (.ref 366)::HQ.en P "_law_set" 709 (.ref 373)::HQ.en P "_law_items" 724 (.ref 380)::HQ.en P "law" 740 (.ref 387)::[]).toArray 67,#[]⟩) ::
 (nat_lit 23,⟨(.type "dict"),none,.dict (HQ.en P "__module__" 196 (.str "longrounds.errors" 187)::HQ.en P "__firstlineno__" 200 (.int 2 199)::HQ.en P "__static_attributes__" 201 (.ref 22)::HQ.en P "__weakref__" 203 (.ref 25)::HQ.en P "__doc__" 204 .none::[]).toArray 3,#[]⟩) ::
 (nat_lit 24,⟨(.type "type"),none,.cls { name:="LongError",bases:=[(.type "ValueError")],mro:=[(.ref 24),(.type "ValueError"),(.type "Exception"),(.type "BaseException"),(.type "object")],ns:=23,qualname:="LongError",hasDict:=true,slotNames:=[],subclasses:=[(.ref 37),(.ref 49)],abstract:=false,collection:=none,hasDel:=false },([some (.ref 15),none,some (.str "LongError" 189),some (.str "LongError" 197),some (.builtin "ValueError.__new__"),some (.bool true)]).toArray⟩) ::
 (nat_lit 36,⟨(.type "dict"),none,.dict (HQ.en P "__module__" 214 (.str "longrounds.errors" 187)::HQ.en P "__firstlineno__" 218 (.int 4 217)::HQ.en P "__static_attributes__" 219 (.ref 35)::HQ.en P "__doc__" 220 .none::[]).toArray 2,#[]⟩) ::
 (nat_lit 37,⟨(.type "type"),none,.cls { name:="NoNumber",bases:=[(.ref 24)],mro:=[(.ref 37),(.ref 24),(.type "ValueError"),(.type "Exception"),(.type "BaseException"),(.type "object")],ns:=36,qualname:="NoNumber",hasDict:=true,slotNames:=[],subclasses:=[],abstract:=false,collection:=none,hasDel:=false },([some (.ref 28),none,some (.str "NoNumber" 207),some (.str "NoNumber" 215),some (.builtin "ValueError.__new__"),some (.bool true)]).toArray⟩) ::
 (nat_lit 48,⟨(.type "dict"),none,.dict (HQ.en P "__module__" 230 (.str "longrounds.errors" 187)::HQ.en P "__firstlineno__" 234 (.int 6 233)::HQ.en P "__static_attributes__" 235 (.ref 47)::HQ.en P "__doc__" 236 .none::[]).toArray 2,#[]⟩) ::
 (nat_lit 49,⟨(.type "type"),none,.cls { name:="TooLong",bases:=[(.ref 24)],mro:=[(.ref 49),(.ref 24),(.type "ValueError"),(.type "Exception"),(.type "BaseException"),(.type "object")],ns:=48,qualname:="TooLong",hasDict:=true,slotNames:=[],subclasses:=[],abstract:=false,collection:=none,hasDel:=false },([some (.ref 40),none,some (.str "TooLong" 223),some (.str "TooLong" 231),some (.builtin "ValueError.__new__"),some (.bool true)]).toArray⟩) ::
 (nat_lit 57,HQ.cO "least_divisor" 241 9 1 (.ref 52) (.ref 53) (.ref 54) (.ref 55) (.ref 56) 246) ::
 (nat_lit 58,HQ.fO "least_divisor" (top 5) (.str "longrounds.numbers" 239) (.ref 57)) ::
 (nat_lit 64,HQ.cO "on" 249 16 2 (.ref 59) (.ref 60) (.ref 61) (.ref 62) (.ref 63) 254) ::
 (nat_lit 65,HQ.fO "on" (top 6) (.str "longrounds.numbers" 239) (.ref 64)) ::
 (nat_lit 71,HQ.cO "back" 257 18 2 (.ref 66) (.ref 67) (.ref 68) (.ref 69) (.ref 70) 264) ::
 (nat_lit 72,HQ.fO "back" (top 7) (.str "longrounds.numbers" 239) (.ref 71)) ::
 (nat_lit 76,HQ.cO "worth" 269 28 3 (.ref 73) (.ref 74) .none .none (.ref 75) 272) ::
 (nat_lit 77,HQ.fO "worth" (top 9) (.str "longrounds.tables" 267) (.ref 76)) ::
 (nat_lit 81,HQ.cO "turned" 275 31 3 (.ref 78) (.ref 79) .none .none (.ref 80) 278) ::
 (nat_lit 82,HQ.fO "turned" (top 10) (.str "longrounds.tables" 267) (.ref 81)) ::
 (nat_lit 86,HQ.cO "one_at" 281 33 2 (.ref 83) (.ref 84) .none .none (.ref 85) 284) ::
 (nat_lit 87,HQ.fO "one_at" (top 11) (.str "longrounds.tables" 267) (.ref 86)) ::
 (nat_lit 91,HQ.cO "idle" 287 35 1 (.ref 88) (.ref 89) .none .none (.ref 90) 290) ::
 (nat_lit 92,HQ.fO "idle" (top 12) (.str "longrounds.tables" 267) (.ref 91)) ::
 (nat_lit 96,HQ.cO "column_sum" 293 37 3 (.ref 93) (.ref 94) .none .none (.ref 95) 296) ::
 (nat_lit 97,HQ.fO "column_sum" (top 13) (.str "longrounds.tables" 267) (.ref 96)) ::
 (nat_lit 101,HQ.cO "form_ahead" 299 39 3 (.ref 98) (.ref 99) .none .none (.ref 100) 302) ::
 (nat_lit 102,HQ.fO "form_ahead" (top 14) (.str "longrounds.tables" 267) (.ref 101)) ::
 (nat_lit 106,HQ.cO "then" 305 44 3 (.ref 103) (.ref 104) .none .none (.ref 105) 308) ::
 (nat_lit 107,HQ.fO "then" (top 15) (.str "longrounds.tables" 267) (.ref 106)) ::
 (nat_lit 113,HQ.cO "setting" 311 46 3 (.ref 108) (.ref 109) (.ref 110) (.ref 111) (.ref 112) 318) ::
 (nat_lit 114,HQ.fO "setting" (top 16) (.str "longrounds.tables" 267) (.ref 113)) ::
 (nat_lit 120,HQ.cO "ladder" 323 51 3 (.ref 115) (.ref 116) (.ref 117) (.ref 118) (.ref 119) 332) ::
 (nat_lit 121,HQ.fO "ladder" (top 18) (.str "longrounds.making" 321) (.ref 120)) ::
 (nat_lit 125,HQ.cO "rungs_for" 335 58 2 (.ref 122) (.ref 123) .none .none (.ref 124) 338) ::
 (nat_lit 126,HQ.fO "rungs_for" (top 19) (.str "longrounds.making" 321) (.ref 125)) ::
 (nat_lit 132,HQ.cO "rounds" 341 60 3 (.ref 127) (.ref 128) (.ref 129) (.ref 130) (.ref 131) 349) ::
 (nat_lit 133,HQ.fO "rounds" (top 20) (.str "longrounds.making" 321) (.ref 132)) ::
 (nat_lit 139,HQ.cO "table_of_item" 352 65 3 (.ref 134) (.ref 135) (.ref 136) (.ref 137) (.ref 138) 358) ::
 (nat_lit 140,HQ.fO "table_of_item" (top 21) (.str "longrounds.making" 321) (.ref 139)) ::
 (nat_lit 146,HQ.cO "table_of" 361 69 3 (.ref 141) (.ref 142) (.ref 143) (.ref 144) (.ref 145) 369) ::
 (nat_lit 147,HQ.fO "table_of" (top 22) (.str "longrounds.making" 321) (.ref 146)) ::
 (nat_lit 153,HQ.cO "without_prime" 374 75 2 (.ref 148) (.ref 149) (.ref 150) (.ref 151) (.ref 152) 379) ::
 (nat_lit 154,HQ.fO "without_prime" (top 24) (.str "longrounds.rings" 372) (.ref 153)) ::
 (nat_lit 160,HQ.cO "primes_of" 382 79 1 (.ref 155) (.ref 156) (.ref 157) (.ref 158) (.ref 159) 387) ::
 (nat_lit 161,HQ.fO "primes_of" (top 25) (.str "longrounds.rings" 372) (.ref 160)) ::
 (nat_lit 167,HQ.cO "parts_of_rings" 390 85 2 (.ref 162) (.ref 163) (.ref 164) (.ref 165) (.ref 166) 399) ::
 (nat_lit 168,HQ.fO "parts_of_rings" (top 26) (.str "longrounds.rings" 372) (.ref 167)) ::
 (nat_lit 174,HQ.cO "product" 402 96 1 (.ref 169) (.ref 170) (.ref 171) (.ref 172) (.ref 173) 408) ::
 (nat_lit 175,HQ.fO "product" (top 27) (.str "longrounds.rings" 372) (.ref 174)) ::
 (nat_lit 181,HQ.cO "primes_of_parts" 411 101 1 (.ref 176) (.ref 177) (.ref 178) (.ref 179) (.ref 180) 417) ::
 (nat_lit 182,HQ.fO "primes_of_parts" (top 28) (.str "longrounds.rings" 372) (.ref 181)) ::
 (nat_lit 188,HQ.cO "climbed" 420 106 4 (.ref 183) (.ref 184) (.ref 185) (.ref 186) (.ref 187) 428) ::
 (nat_lit 189,HQ.fO "climbed" (top 29) (.str "longrounds.rings" 372) (.ref 188)) ::
 (nat_lit 195,HQ.cO "shortest" 431 110 5 (.ref 190) (.ref 191) (.ref 192) (.ref 193) (.ref 194) 440) ::
 (nat_lit 196,HQ.fO "shortest" (top 30) (.str "longrounds.rings" 372) (.ref 195)) ::
 (nat_lit 202,HQ.cO "tail" 443 115 4 (.ref 197) (.ref 198) (.ref 199) (.ref 200) (.ref 201) 451) ::
 (nat_lit 203,HQ.fO "tail" (top 31) (.str "longrounds.rings" 372) (.ref 202)) ::
 (nat_lit 207,HQ.cO "ring_of_table" 454 121 3 (.ref 204) (.ref 205) .none .none (.ref 206) 457) ::
 (nat_lit 208,HQ.fO "ring_of_table" (top 32) (.str "longrounds.rings" 372) (.ref 207)) ::
 (nat_lit 214,HQ.cO "walked" 464 131 4 (.ref 209) (.ref 210) (.ref 211) (.ref 212) (.ref 213) 473) ::
 (nat_lit 215,HQ.fO "walked" (top 35) (.str "longrounds.reaching" 460) (.ref 214)) ::
 (nat_lit 221,HQ.cO "root_above" 476 137 1 (.ref 216) (.ref 217) (.ref 218) (.ref 219) (.ref 220) 481) ::
 (nat_lit 222,HQ.fO "root_above" (top 36) (.str "longrounds.reaching" 460) (.ref 221)) ::
 (nat_lit 228,HQ.cO "far_stands" 484 142 5 (.ref 223) (.ref 224) (.ref 225) (.ref 226) (.ref 227) 493) ::
 (nat_lit 229,HQ.fO "far_stands" (top 37) (.str "longrounds.reaching" 460) (.ref 228)) ::
 (nat_lit 235,HQ.cO "on_or_apart" 496 145 6 (.ref 230) (.ref 231) (.ref 232) (.ref 233) (.ref 234) 510) ::
 (nat_lit 236,HQ.fO "on_or_apart" (top 38) (.str "longrounds.reaching" 460) (.ref 235)) ::
 (nat_lit 242,HQ.cO "reach" 513 153 5 (.ref 237) (.ref 238) (.ref 239) (.ref 240) (.ref 241) 526) ::
 (nat_lit 243,HQ.fO "reach" (top 39) (.str "longrounds.reaching" 460) (.ref 242)) ::
 (nat_lit 247,HQ.cO "times" 531 167 3 (.ref 244) (.ref 245) .none .none (.ref 246) 534) ::
 (nat_lit 248,HQ.fO "times" (top 41) (.str "longrounds.solving" 529) (.ref 247)) ::
 (nat_lit 254,HQ.cO "lead_row" 537 169 3 (.ref 249) (.ref 250) (.ref 251) (.ref 252) (.ref 253) 544) ::
 (nat_lit 255,HQ.fO "lead_row" (top 42) (.str "longrounds.solving" 529) (.ref 254)) ::
 (nat_lit 259,HQ.cO "cleared" 547 174 4 (.ref 256) (.ref 257) .none .none (.ref 258) 550) ::
 (nat_lit 260,HQ.fO "cleared" (top 43) (.str "longrounds.solving" 529) (.ref 259)) ::
 (nat_lit 264,HQ.cO "steps_form" 553 176 2 (.ref 261) (.ref 262) .none .none (.ref 263) 556) ::
 (nat_lit 265,HQ.fO "steps_form" (top 44) (.str "longrounds.solving" 529) (.ref 264)) ::
 (nat_lit 269,HQ.cO "idle_sums" 559 186 2 (.ref 266) (.ref 267) .none .none (.ref 268) 562) ::
 (nat_lit 270,HQ.fO "idle_sums" (top 45) (.str "longrounds.solving" 529) (.ref 269)) ::
 (nat_lit 276,HQ.cO "weights_to" 565 190 3 (.ref 271) (.ref 272) (.ref 273) (.ref 274) (.ref 275) 572) ::
 (nat_lit 277,HQ.fO "weights_to" (top 46) (.str "longrounds.solving" 529) (.ref 276)) ::
 (nat_lit 281,HQ.cO "brought_together" 575 195 3 (.ref 278) (.ref 279) .none .none (.ref 280) 578) ::
 (nat_lit 282,HQ.fO "brought_together" (top 47) (.str "longrounds.solving" 529) (.ref 281)) ::
 (nat_lit 286,HQ.cO "shutting_row" 581 197 3 (.ref 283) (.ref 284) .none .none (.ref 285) 584) ::
 (nat_lit 287,HQ.fO "shutting_row" (top 48) (.str "longrounds.solving" 529) (.ref 286)) ::
 (nat_lit 293,HQ.cO "solved" 587 204 3 (.ref 288) (.ref 289) (.ref 290) (.ref 291) (.ref 292) 594) ::
 (nat_lit 294,HQ.fO "solved" (top 49) (.str "longrounds.solving" 529) (.ref 293)) ::
 (nat_lit 300,HQ.cO "with_one" 599 210 1 (.ref 295) (.ref 296) (.ref 297) (.ref 298) (.ref 299) 603) ::
 (nat_lit 301,HQ.fO "with_one" (top 51) (.str "longrounds.hulls" 597) (.ref 300)) ::
 (nat_lit 305,HQ.cO "towards" 606 212 3 (.ref 302) (.ref 303) .none .none (.ref 304) 609) ::
 (nat_lit 306,HQ.fO "towards" (top 52) (.str "longrounds.hulls" 597) (.ref 305)) ::
 (nat_lit 312,HQ.cO "hull" 612 214 4 (.ref 307) (.ref 308) (.ref 309) (.ref 310) (.ref 311) 623) ::
 (nat_lit 313,HQ.fO "hull" (top 53) (.str "longrounds.hulls" 597) (.ref 312)) ::
 (nat_lit 319,HQ.cO "placed" 626 224 5 (.ref 314) (.ref 315) (.ref 316) (.ref 317) (.ref 318) 635) ::
 (nat_lit 320,HQ.fO "placed" (top 54) (.str "longrounds.hulls" 597) (.ref 319)) ::
 (nat_lit 324,HQ.cO "change" 640 228 3 (.ref 321) (.ref 322) .none .none (.ref 323) 643) ::
 (nat_lit 325,HQ.fO "change" (top 56) (.str "longrounds.keeping" 638) (.ref 324)) ::
 (nat_lit 329,HQ.cO "kept" 646 230 3 (.ref 326) (.ref 327) .none .none (.ref 328) 649) ::
 (nat_lit 330,HQ.fO "kept" (top 57) (.str "longrounds.keeping" 638) (.ref 329)) ::
 (nat_lit 336,HQ.cO "_law_cell" 654 234 2 (.ref 331) (.ref 332) (.ref 333) (.ref 334) (.ref 335) 659) ::
 (nat_lit 337,HQ.fO "_law_cell" (top 59) (.str "law_longrounds_k94_whole_what_bars_a_goal" 652) (.ref 336)) ::
 (nat_lit 341,HQ.cO "_law_small" 662 238 2 (.ref 338) (.ref 339) .none .none (.ref 340) 665) ::
 (nat_lit 342,HQ.fO "_law_small" (top 60) (.str "law_longrounds_k94_whole_what_bars_a_goal" 652) (.ref 341)) ::
 (nat_lit 348,HQ.cO "_law_digits" 668 243 3 (.ref 343) (.ref 344) (.ref 345) (.ref 346) (.ref 347) 676) ::
 (nat_lit 349,HQ.fO "_law_digits" (top 61) (.str "law_longrounds_k94_whole_what_bars_a_goal" 652) (.ref 348)) ::
 (nat_lit 353,HQ.cO "_law_worth" 679 249 3 (.ref 350) (.ref 351) .none .none (.ref 352) 682) ::
 (nat_lit 354,HQ.fO "_law_worth" (top 62) (.str "law_longrounds_k94_whole_what_bars_a_goal" 652) (.ref 353)) ::
 (nat_lit 365,HQ.cO "_law_count" 691 253 1 (.ref 360) (.ref 361) (.ref 362) (.ref 363) (.ref 364) 695) ::
 (nat_lit 366,HQ.fO "_law_count" (top 64) (.str "law_longrounds_k94_whole_what_bars_a_goal" 652) (.ref 365)) ::
 (nat_lit 372,HQ.cO "_law_set" 698 255 4 (.ref 367) (.ref 368) (.ref 369) (.ref 370) (.ref 371) 707) ::
 (nat_lit 373,HQ.fO "_law_set" (top 65) (.str "law_longrounds_k94_whole_what_bars_a_goal" 652) (.ref 372)) ::
 (nat_lit 379,HQ.cO "_law_items" 710 261 4 (.ref 374) (.ref 375) (.ref 376) (.ref 377) (.ref 378) 722) ::
 (nat_lit 380,HQ.fO "_law_items" (top 66) (.str "law_longrounds_k94_whole_what_bars_a_goal" 652) (.ref 379)) ::
 (nat_lit 386,HQ.cO "law" 725 275 1 (.ref 381) (.ref 382) (.ref 383) (.ref 384) (.ref 385) 738) ::
 (nat_lit 387,HQ.fO "law" (top 67) (.str "law_longrounds_k94_whole_what_bars_a_goal" 652) (.ref 386))::[]
def ks:List Addr:=[3,23,24,36,37,48,49,57,58,64,65,71,72,76,77,81,82,86,87,91,92,96,97,101,102,106,107,113,114,120,121,125,126,132,133,139,140,146,147,153,154,160,161,167,168,174,175,181,182,188,189,195,196,202,203,207,208,214,215,221,222,228,229,235,236,242,243,247,248,254,255,259,260,264,265,269,270,276,277,281,282,286,287,293,294,300,301,305,306,312,313,319,320,324,325,329,330,336,337,341,342,348,349,353,354,365,366,372,373,379,380,386,387]
structure Bi (E:Ev):Prop where
 ba:E.mg "any"=none
 bb:E.mg "enumerate"=none
 bc:E.mg "len"=none
 bd:E.mg "list"=none
 be:E.mg "max"=none
 bf:E.mg "min"=none
 bg:E.mg "range"=none
 bh:E.mg "set"=none
 bi:E.mg "sorted"=none
 bj:E.mg "sum"=none
 bk:E.mg "tuple"=none
 bl:E.mg "zip"=none
 bm:E.mg "LONGEST_RING"=some (.int 10000 462)
 bn:E.mg "NoNumber"=some (.ref 37)
 bo:E.mg "TooLong"=some (.ref 49)
 bp:E.mg "LongError"=some (.ref 24)
 bq:zV E.K E.mg .vq 37
 br:zV E.K E.mg .tooLong 49
section
variable {E:Ev}(B:Bi E)
abbrev QX (E:Ev):Prop:=cC E 1 "_law_cell" ["script","k"] rY
abbrev Ie (E:Ev):Prop:=cC E 1 "_law_digits" ["cell","P","size"] tM
abbrev QY (E:Ev):Prop:=cC E 1 "_law_count" ["cell"] E6
abbrev QZ (E:Ev):Prop:=cC E 2 "_law_set" ["cell","more","P","many"] E9
abbrev Q0 (E:Ev):Prop:=cC E 3 "_law_items" ["cells","P","many","agains"] BH
abbrev Q2 (E:Ev):Prop:=cC E 1 "_law_small" ["cell","many"] Cn
abbrev Q3 (E:Ev):Prop:=cC E 1 "_law_worth" ["P","form","stand"] vK
abbrev Q4 (E:Ev):Prop:=cC E 1 "column_sum" ["form","table","place"] ES
abbrev sO (E:Ev):Prop:=cC E 1 "on" ["P","n"] lq
abbrev Ig (E:Ev):Prop:=cC E 2 "form_ahead" ["P","table","form"] BC
abbrev Q5 (E:Ev):Prop:=cC E 3 "change" ["P","table","form"] FO
abbrev Dl (E:Ev):Prop:=cC E 1 "one_at" ["width","place"] ym
abbrev Q6 (E:Ev):Prop:=cC E 2 "cleared" ["P","row","lead","place"] yB
abbrev Ih (E:Ev):Prop:=cC E 2 "back" ["P","n"] pk
abbrev Ac (E:Ev):Prop:=cC E 2 "times" ["P","row","number"] nV
abbrev Q7 (E:Ev):Prop:=cC E 3 "lead_row" ["P","rows","place"] BU
abbrev Q8 (E:Ev):Prop:=lR E 4 "steps_form" ["P","rows"] Fp
abbrev Dm (E:Ev):Prop:=lR E 5 "idle_sums" ["P","rows"] vT
abbrev Dn (E:Ev):Prop:=cC E 2 "idle" ["many"] yn
abbrev Dp (E:Ev):Prop:=cC E 3 "then" ["P","one","other"] yk
abbrev Ii (E:Ev):Prop:=lR E 4 "ladder" ["P","table","n"] BI
abbrev Ij (E:Ev):Prop:=lR E 1 "rungs_for" ["rungs","n"] BJ
abbrev Dq (E:Ev):Prop:=cC E 5 "rounds" ["P","table","n"] vP
abbrev Q9 (E:Ev):Prop:=cC E 3 "setting" ["many","x","form"] ET
abbrev Ik (E:Ev):Prop:=cC E 17 "table_of" ["P","many","items"] (lx 12)
abbrev Q_ (E:Ev):Prop:=lR E 18 "kept" ["P","many","items"] B6
abbrev Ra (E:Ev):Prop:=cC E 2 "brought_together" ["P","row","other"] B1
abbrev Rb (E:Ev):Prop:=cC E 6 "shutting_row" ["P","rows","goal"] FH
abbrev Rc (E:Ev):Prop:=cC E 6 "weights_to" ["P","rows","goal"] BV
abbrev Rf (E:Ev):Prop:=cC E 7 "solved" ["P","rows","goal"] vV
abbrev Rg (E:Ev):Prop:=cC E 1 "with_one" ["stand"] B7
abbrev Il (E:Ev):Prop:=cC E 8 "towards" ["P","stands","goal"] nX
abbrev Rh (E:Ev):Prop:=cC E 2 "worth" ["P","form","stand"] yj
abbrev uH (E:Ev):Prop:=cC E 3 "turned" ["P","table","stand"] kz
abbrev Ri (E:Ev):Prop:=cC E 18 "hull" ["P","many","items","stand"] B8
abbrev Rj (E:Ev):Prop:=cC E 19 "placed" ["P","many","items","stand","goal"] vY
abbrev Dr (E:Ev):Prop:=lR E 4 "walked" ["P","table","stand","count"] yP
abbrev Rk (E:Ev):Prop:=lR E 6 "far_stands" ["P","table","m","r","stand"] Gf
abbrev Rl (E:Ev):Prop:=cC E 1 "root_above" ["r"] Gg
abbrev Rm (E:Ev):Prop:=cC E 7 "on_or_apart" ["P","table","t","r","entry","goal"] yQ
abbrev Ds (E:Ev):Prop:=cC E 4 "climbed" ["P","rungs","n","stand"] sr
abbrev Rn (E:Ev):Prop:=lR E 1 "parts_of_rings" ["P","many"] Ck
abbrev Ro (E:Ev):Prop:=cC E 1 "least_divisor" ["n"] B4
abbrev Rp (E:Ev):Prop:=cC E 1 "without_prime" ["n","divisor"] F6
abbrev Rq (E:Ev):Prop:=lR E 2 "primes_of" ["n"] F8
abbrev Rr (E:Ev):Prop:=lR E 3 "primes_of_parts" ["parts"] F9
abbrev Rt (E:Ev):Prop:=cC E 1 "product" ["parts"] F_
abbrev Ru (E:Ev):Prop:=cC E 5 "shortest" ["P","rungs","n","primes","stand"] Gb
abbrev Rw (E:Ev):Prop:=cC E 5 "tail" ["P","rungs","r","stand"] Ge
abbrev Rx (E:Ev):Prop:=cC E 6 "ring_of_table" ["P","table","stand"] Cm
abbrev Ry (E:Ev):Prop:=cC E 18 "reach" ["P","many","items","stand","goal"] yR
theorem f_w{E:Ev}(B:Bi E)(u_w:Own E "_law_cell" HM ["script","k"]):QX E:=by
 exact cS u_w a1b rfl rfl λ_ _ _ _ _ _ _ hr hu nd=>(aM (iD (cW zd (af 1) (fQ kF B.bc (by decide +kernel) (ar (af 0) aE)) (cZ _)) (aT (bU (cx (af 0) (af 1)))) iV)
  (aT (bU aN)))
theorem f_j{E:Ev}(B:Bi E)(u_j:Own E "_law_digits" HN ["cell","P","size"]):Ie E:=by
 exact cS u_j a1c rfl rfl λ_ _ _ _ _ _ _ hr hu nd=>(aM (g6 3 (jv aE) nd)
  (aM (j4 4 fe rfl (lK (af 2) B.bg)
  (aM (pL 3 (PD.ro (aZ fY (af 0) (af 1))))
  (aT (bE 0 (PD.ro (aZ kE (af 0) (af 1))) nd))) nd)
  (aT (bU (jw jx B.bk (by decide +kernel) (ar (af 3) aE))))))
theorem f_k{E:Ev}(u_k:Own E "_law_count" HP ["cell"]):QY E:=by
 exact cS u_k a1d rfl rfl λ_ _ _ _ _ _ _ hr hu nd=>(aT (bU (cx (PF.pd (jv (ar (aZ fY (aZ kE (af 0) aN) aN) (ar (aZ fY (aZ kE (af 0) aN) aN) (ar (aZ fY (aZ kE (af 0) aN) (aZ dQ (aZ Za aN aN) aN)) aE))))) (aZ fY (af 0) aN))))
theorem f_B{E:Ev}(u_B:Own E "_law_set" HR ["cell","more","P","many"])(wK:Ie E):QZ E:=by
 obtain⟨_,_,Dt,Du⟩:=wK.up (k':=1) (by lia)
 exact cS u_B a1e rfl rfl λ_ _ _ _ _ _ _ hr hu nd=>(aM (bE 4 (PD.ro (aZ fY (af 0) (af 3))) nd)
  (aM (bE 5 (PD.ro (bH Dt hr Du (ar (af 1) (ar (af 2) (ar (aZ dQ (af 3) aN) aE))))) nd)
  (aM (iD (jV.pt (uj (cW (i9 hu) (cx (af 5) (af 4)) aN (cZ _)) (we (cW ze (aZ fY (aZ kE (af 0) aN) aN) aN (cZ _))))) (aT (bE 5 (PD.ro (aZ dQ (aZ dQ (oG (af 5) pN (mV (af 4))) (lI (ar (aZ dQ aN (aZ fY (aZ kE (af 0) aN) (aZ n9 (af 2) aN))) aE))) (oG (af 5) (mV (aZ dQ (af 4) aN)) pN))) nd)) iV)
  (aT (bU (lI (ar iw (ar (af 4) (ar (af 5) aE)))))))))
theorem f_n{E:Ev}(B:Bi E)(u_n:Own E "_law_items" HS ["cells","P","many","agains"])(Im:QY E)(Io:QZ E):Q0 E:=by
 obtain⟨_,_,F_k,m_k⟩:=Im.up (k':=2) (by lia)
 obtain⟨_,_,F_B,m_B⟩:=Io.up (k':=2) (by lia)
 exact cS u_n a1f rfl rfl λ_ _ _ _ _ _ _ hr hu nd=>(aM (g6 4 (jv aE) nd)
  (aM (g6 5 (jv aE) nd)
  (aM (j4 6 fe rfl (Z8 aN (aZ n9 (fQ (Pg rfl) B.bf (by decide +kernel) (ar (fQ kF B.bc (by decide +kernel) (ar (af 0) aE)) (ar aN aE))) aN) aN B.bg)
  (aM (bE 7 (PD.ro (aZ n9 (fQ kF B.bc (by decide +kernel) (ar (af 4) aE)) (fQ (Pg rfl) B.bf (by decide +kernel) (ar (aZ fY (aZ kE (cx (af 0) (af 6)) aN) aN) (ar (fQ kF B.bc (by decide +kernel) (ar (af 4) aE)) aE))))) nd)
  (aM (bE 8 (PD.ro (aZ dQ aN (fQ (w4t rfl) B.be (by decide +kernel) (ar (PF.pd (G1 (PF.pd (jv (ar aN aE))) (oG (af 5) (mV (af 7)) pN))) aE)))) nd)
  (aT (iD (jV.pt (uj (cW (i9 hu) (aZ fY (cx (af 0) (af 6)) aN) aN (cZ _)) (uj (cW zd (af 8) aN (cZ _)) (we (cW ze (af 3) aN (cZ _)))))) (aM (g6 4 (G1 (oG (af 4) pN (mV (af 7))) (PF.pd (jv (ar (lI (ar iw (ar (bH F_k hr m_k (ar (cx (af 0) (aZ dQ (af 6) aN)) aE)) (ar (jw jx B.bk (by decide +kernel) (ar (oG (af 4) (mV (af 7)) pN) aE)) aE)))) aE)))) nd)
  (aM (g6 5 (G1 (oG (af 5) pN (mV (af 7))) (PF.pd (jv (ar (af 8) aE)))) nd)
  (aT (bE 3 (PD.ro (aZ n9 (af 3) aN)) nd)))) (aM (pL 4 (PD.ro (bH F_B hr m_B (ar (aZ kE (cx (af 0) (af 6)) aN) (ar (cx (af 0) (aZ dQ (af 6) aN)) (ar (af 1) (ar (af 2) aE)))))))
  (aT (pL 5 (PD.ro aN)))))))) nd)
  (aT (bU (jw jx B.bk (by decide +kernel) (ar (af 4) aE)))))))
theorem f_s{E:Ev}(B:Bi E)(u_s:Own E "_law_small" HU ["cell","many"]):Q2 E:=by
 exact cS u_s a1g rfl rfl λ_ _ _ _ _ _ _ hr hu nd=>(aM (bE 2 (PD.ro (aZ dQ aN (aZ fY (af 0) (cx (PF.pd (jv ZW)) (aZ n9 (af 1) aN))))) nd)
  (aM (pM 10000 fe (Pc (fQ (Zq rfl) B.ba (by decide +kernel) (ar (PF.pd (jZ (iT.qt (ZA aN aN B.bg)) (GK (λ_ _ _ _ _=>(cW zd (af 0) (af 3) (cZ _))) (λ_ _ _ _ _=>(PD.ro (Pa (i9 hu) (aZ fY (af 3) (af 0)) aN (cZ _))))) nd rfl)) aE))) (aT (bE 2 (PD.ro (aZ dQ (af 2) aN)) nd)))
  (aT (bU (af 2)))))
theorem f_t{E:Ev}(B:Bi E)(u_t:Own E "_law_worth" HV ["P","form","stand"]):Q3 E:=by
 exact cS u_t a1h rfl rfl λ_ _ _ _ _ _ _ hr hu nd=>(aT (bU (aZ fY (aZ dQ (cx (af 1) (Cz aN)) (fQ (CB rfl) B.bj (by decide +kernel) (ar (PF.pd (jZ (iT.qt (lK (fQ kF B.bc (by decide +kernel) (ar (af 2) aE)) B.bg)) (jA (λ_ _ _ _ _=>(PD.ro (aZ mP (cx (af 2) (af 0)) (cx (af 3) (af 0)))))) nd rfl)) aE))) (af 0))))
theorem f_o{E:Ev}(B:Bi E)(u_o:Own E "column_sum" yq ["form","table","place"]):Q4 E:=by
 exact cS u_o a1i rfl rfl λ_ _ _ _ _ _ _ hr hu nd=>(aT (bU (fQ (CB rfl) B.bj (by decide +kernel) (ar (PF.pd (jZ (iT.qt (lK (fQ kF B.bc (by decide +kernel) (ar (af 1) aE)) B.bg)) (jA (λ_ _ _ _ _=>(PD.ro (aZ mP (cx (af 1) (af 0)) (cx (cx (af 2) (af 0)) (af 3)))))) nd rfl)) aE))))
theorem a2y{E:Ev}(a2z:Own E "on" s_on ["P","n"]):sO E:=by
 exact cS a2z w7a rfl rfl λ_ _ _ _ _ _ _ hr hu nd=>(aT (bU (aZ fY (af 1) (af 0))))
theorem f_q{E:Ev}(B:Bi E)(u_q:Own E "form_ahead" vN ["P","table","form"])(Ip:Q4 E)(gI:sO E):Ig E:=by
 obtain⟨_,_,F_o,m_o⟩:=Ip.up (k':=1) (by lia)
 obtain⟨_,_,kK,kL⟩:=gI.up (k':=1) (by lia)
 exact cS u_q a1j rfl rfl λ_ _ _ _ _ _ _ hr hu nd=>(aM (bE 3 (PD.ro (fQ kF B.bc (by decide +kernel) (ar (af 1) aE))) nd)
  (aM (CO 4 (iT.qt (lK (aZ dQ (af 3) aN) B.bg)) (jA (λ_ _ _ _ _=>(PD.ro (jX F_o hr m_o (ar (af 3) (ar (af 2) (ar (af 0) aE))))))) nd rfl)
  (aM (PH 4 (af 3) (PD.ro (aZ dQ (cx (af 4) (af 3)) (cx (af 2) (af 3)))))
  (aT (bU (jw jx B.bk (by decide +kernel) (ar (PF.pd (jZ (oh (af 4)) (jA (λ_ _ _ _ _=>(PD.ro (jX kK hr kL (ar (af 1) (ar (af 0) aE)))))) nd rfl)) aE)))))))
theorem f_N{E:Ev}(B:Bi E)(u_N:Own E "change" yJ ["P","table","form"])(wL:Ig E)(gI:sO E):Q5 E:=by
 obtain⟨_,_,Iq,Ir⟩:=wL.up (k':=2) (by lia)
 obtain⟨_,_,kK,kL⟩:=gI.up (k':=2) (by lia)
 exact cS u_N a1k rfl rfl λ_ _ _ _ _ _ _ hr hu nd=>(aT (bU (jw jx B.bk (by decide +kernel) (ar (PF.pd (C4 (G_ (bH Iq hr Ir (ar (af 0) (ar (af 1) (ar (af 2) aE)))) (af 2) B.bl) (C3 (λ_ _ _ _ _=>(PD.ro (jX kK hr kL (ar (af 2) (ar (aZ n9 (af 0) (af 1)) aE)))))) nd rfl)) aE))))
theorem f_O{E:Ev}(B:Bi E)(u_O:Own E "one_at" tV ["width","place"]):Dl E:=by
 exact cS u_O a1l rfl rfl λ_ _ _ _ _ _ _ hr hu nd=>(aT (bU (jw jx B.bk (by decide +kernel) (ar (PF.pd (jZ (iT.qt (lK (af 0) B.bg)) (jA (λ_ _ _ _ _=>(PD.ro (Y_ (cW (i9 hu) (af 0) (af 2) (cZ _)) aN aN)))) nd rfl)) aE))))
theorem f_E{E:Ev}(B:Bi E)(u_E:Own E "cleared" yD ["P","row","lead","place"])(gI:sO E):Q6 E:=by
 obtain⟨_,_,kK,kL⟩:=gI.up (k':=1) (by lia)
 exact cS u_E a1m rfl rfl λ_ _ _ _ _ _ _ hr hu nd=>(aT (bU (jw jx B.bk (by decide +kernel) (ar (PF.pd (C4 (G_ (af 1) (af 2) B.bl) (C3 (λ_ _ _ _ _=>(PD.ro (jX kK hr kL (ar (af 2) (ar (aZ n9 (af 0) (aZ mP (cx (af 3) (af 5)) (af 1))) aE)))))) nd rfl)) aE))))
theorem f_T{E:Ev}(B:Bi E)(u_T:Own E "back" r_ ["P","n"])(gI:sO E):Ih E:=by
 obtain⟨_,_,kK,kL⟩:=gI.up (k':=1) (by lia)
 exact cS u_T a1n rfl rfl λ_ _ _ _ _ _ _ hr hu nd=>(aM (bE 2 (PD.ro (bH kK hr kL (ar (af 0) (ar (af 1) aE)))) nd)
  (aM (iD (cW (i9 hu) (af 2) aN (cZ _)) (aT (PX B.bq iw rfl)) iV)
  (aM (bE 3 (PD.ro aN) nd)
  (aM (pM 100000 fe (cW (su hu) (af 2) aN (cZ _)) (aM (bE 3 (PD.ro (bH kK hr kL (ar (af 0) (ar (aZ mP (Cz (af 3)) (aZ kE (af 0) (af 2))) aE)))) nd)
  (aT (bE 2 (PD.ro (aZ fY (af 0) (af 2))) nd))))
  (aT (bU (af 3)))))))
theorem f_R{E:Ev}(B:Bi E)(u_R:Own E "times" sf ["P","row","number"])(gI:sO E):Ac E:=by
 obtain⟨_,_,kK,kL⟩:=gI.up (k':=1) (by lia)
 exact cS u_R a1o rfl rfl λ_ _ _ _ _ _ _ hr hu nd=>(aT (bU (jw jx B.bk (by decide +kernel) (ar (PF.pd (jZ (oh (af 1)) (jA (λ_ _ _ _ _=>(PD.ro (jX kK hr kL (ar (af 1) (ar (aZ mP (af 3) (af 0)) aE)))))) nd rfl)) aE))))
theorem f_z{E:Ev}(u_z:Own E "lead_row" yE ["P","rows","place"])(wM:Ih E)(mY:Ac E):Q7 E:=by
 obtain⟨_,_,Iu,Iv⟩:=wM.up (k':=2) (by lia)
 obtain⟨_,_,uI,uJ⟩:=mY.up (k':=2) (by lia)
 exact cS u_z a1p rfl rfl λ_ _ _ _ _ _ _ hr hu nd=>(aM (j4 3 fe rfl (qu (fW 1))
  (aT (iD (cW (su hu) (cx (af 3) (af 2)) aN (cZ _)) (aT (bU (bH uI hr uJ (ar (af 0) (ar (af 3) (ar (bH Iu hr Iv (ar (af 0) (ar (cx (af 3) (af 2)) aE))) aE)))))) iV)) nd)
  (aT (bU zb)))
theorem f_p{E:Ev}(B:Bi E)(u_p:Own E "steps_form" t6 ["P","rows"])(Iw:Q6 E)(Iy:Q7 E)(mY:Ac E):Q8 E:=by
 obtain⟨_,_,Rz,RA⟩:=Iw.up (k':=3) (by lia)
 obtain⟨_,_,F_z,m_z⟩:=Iy.up (k':=3) (by lia)
 obtain⟨_,_,uI,uJ⟩:=mY.up (k':=3) (by lia)
 exact pO u_p a1q rfl rfl λ_ _ _ _ _ _ _ hr hu nd=>(aM (CO 2 (oh (af 1)) (jA (λ_ _ _ _ _=>(PD.ro (jX uI hr uJ (ar (af 1) (ar (af 0) (ar aN aE))))))) nd rfl)
  (aM (g6 3 (jv aE) nd)
  (aM (j4 4 fe rfl (lK (fQ kF B.bc (by decide +kernel) (ar (cx (af 1) aN) aE)) B.bg)
  (aM (bE 5 (PD.ro (bH F_z hr m_z (ar (af 0) (ar (af 2) (ar (af 4) aE))))) nd)
  (aT (iD (cW P1 (af 5) zb (cZ _)) (aM (CO 2 (oh (af 2)) (jA (λ_ _ _ _ _=>(PD.ro (jX Rz hr RA (ar (af 1) (ar (af 0) (ar (af 6) (ar (af 5) aE)))))))) nd rfl)
  (aM (CO 3 (oh (af 3)) (jA (λ_ _ _ _ _=>(PD.ro (jX Rz hr RA (ar (af 1) (ar (af 0) (ar (af 6) (ar (af 5) aE)))))))) nd rfl)
  (aT (pL 3 (PD.ro (af 5)))))) iV))) nd)
  (aT (zJ 3)))))
theorem f_u{E:Ev}(B:Bi E)(u_u:Own E "idle_sums" si ["P","rows"])(qO:Dl E)(Iz:Q8 E):Dm E:=by
 obtain⟨_,_,Ad,Ae⟩:=qO.up (k':=4) (by lia)
 obtain⟨_,_,F_p,m_p⟩:=Iz.up (k':=4) (by lia)
 exact pO u_u a1r rfl rfl λ_ _ _ _ _ _ _ hr hu nd=>(aM (bE 2 (PD.ro (fQ kF B.bc (by decide +kernel) (ar (cx (af 1) aN) aE))) nd)
  (aM (x0a 3 (Qi (af 1) B.bb) (C3 (λ_ _ _ _ _=>(PD.ro (aZ dQ (jw jx B.bk (by decide +kernel) (ar (af 1) aE)) (jX Ad hr Ae (ar (fQ kF B.bc (by decide +kernel) (ar (af 3) aE)) (ar (af 0) aE))))))) nd rfl)
  (aT (zI (jZ (oh (PF.pd (jy F_p hr m_p (ar (af 0) (ar (af 3) aE))))) (GK (λ_ _ _ _ _=>(Pd (Pc (fQ (w4u rfl) B.ba (by decide +kernel) (ar (oG (af 0) pN (mV (af 3))) aE))))) (λ_ _ _ _ _=>(PD.ro (oG (af 0) (mV (af 3)) pN)))) nd rfl)))))
theorem f_Y{E:Ev}(B:Bi E)(u_Y:Own E "idle" tW ["many"])(qO:Dl E):Dn E:=by
 obtain⟨_,_,Ad,Ae⟩:=qO.up (k':=1) (by lia)
 exact cS u_Y a1s rfl rfl λ_ _ _ _ _ _ _ hr hu nd=>(aT (bU (jw jx B.bk (by decide +kernel) (ar (PF.pd (jZ (iT.qt (lK (af 0) B.bg)) (jA (λ_ _ _ _ _=>(PD.ro (jX Ad hr Ae (ar (aZ dQ (af 1) aN) (ar (af 0) aE)))))) nd rfl)) aE))))
theorem f_W{E:Ev}(B:Bi E)(u_W:Own E "then" tU ["P","one","other"])(wL:Ig E):Dp E:=by
 obtain⟨_,_,Iq,Ir⟩:=wL.up (k':=2) (by lia)
 exact cS u_W a1t rfl rfl λ_ _ _ _ _ _ _ hr hu nd=>(aT (bU (jw jx B.bk (by decide +kernel) (ar (PF.pd (jZ (oh (af 2)) (jA (λ_ _ _ _ _=>(PD.ro (jX Iq hr Ir (ar (af 1) (ar (af 2) (ar (af 0) aE))))))) nd rfl)) aE))))
theorem f_M{E:Ev}(B:Bi E)(u_M:Own E "ladder" vQ ["P","table","n"])(qP:Dp E):Ii E:=by
 obtain⟨_,_,Af,Ag⟩:=qP.up (k':=3) (by lia)
 exact pO u_M a1u rfl rfl λ_ _ _ _ _ _ _ hr hu nd=>(aM (g6 3 (jv aE) nd)
  (aM (bE 4 (PD.ro (af 1)) nd)
  (aM (j4 5 fe rfl (lK (w3g (af 2)) B.bg)
  (aM (pL 3 (PD.ro (af 4)))
  (aT (bE 4 (PD.ro (bH Af hr Ag (ar (af 0) (ar (af 4) (ar (af 4) aE))))) nd))) nd)
  (aT (zJ 3)))))
theorem f_v{E:Ev}(B:Bi E)(u_v:Own E "rungs_for" vR ["rungs","n"]):Ij E:=by
 exact pO u_v a1v rfl rfl λ_ _ _ _ _ _ _ hr hu nd=>(aT (zI (C4 (Qi (af 0) B.bb) (x9c (λ_ _ _ _ _=>(cW (i9 hu) (aZ fY (aZ w5x (af 3) (af 0)) aN) aN (cZ _))) (λ_ _ _ _ _=>(PD.ro (af 1)))) nd rfl)))
theorem f_I{E:Ev}(B:Bi E)(u_I:Own E "rounds" t5 ["P","table","n"])(qQ:Dn E)(wN:Ii E)(wO:Ij E)(qP:Dp E):Dq E:=by
 obtain⟨_,_,Ah,Ai⟩:=qQ.up (k':=4) (by lia)
 obtain⟨_,_,IA,IB⟩:=wN.up (k':=4) (by lia)
 obtain⟨_,_,IC,ID⟩:=wO.up (k':=4) (by lia)
 obtain⟨_,_,Af,Ag⟩:=qP.up (k':=4) (by lia)
 exact cS u_I a1w rfl rfl λ_ _ _ _ _ _ _ hr hu nd=>(aM (bE 3 (PD.ro (bH Ah hr Ai (ar (fQ kF B.bc (by decide +kernel) (ar (af 1) aE)) aE))) nd)
  (aM (j4 4 fe rfl (qu (PF.ro (jy IC hr ID (ar (PF.pd (jy IA hr IB (ar (af 0) (ar (af 1) (ar (af 2) aE))))) (ar (af 2) aE)))))
  (aT (bE 3 (PD.ro (bH Af hr Ag (ar (af 0) (ar (af 3) (ar (af 4) aE))))) nd)) nd)
  (aT (bU (af 3)))))
theorem f_D{E:Ev}(B:Bi E)(u_D:Own E "setting" yr ["many","x","form"])(qQ:Dn E):Q9 E:=by
 obtain⟨_,_,Ah,Ai⟩:=qQ.up (k':=2) (by lia)
 exact cS u_D a1x rfl rfl λ_ _ _ _ _ _ _ hr hu nd=>(aM (g6 3 (Po (bH Ah hr Ai (ar (af 0) aE)) B.bd (by decide +kernel)) nd)
  (aM (PH 3 (af 1) (PD.ro (jw jx B.bk (by decide +kernel) (ar (af 2) aE))))
  (aT (bU (jw jx B.bk (by decide +kernel) (ar (af 3) aE))))))
theorem f_y{E:Ev}(u_y:Own E "table_of" r9 ["P","many","items"])(u_d:Own E "table_of_item" HX ["P","many","item"])(qQ:Dn E)(qP:Dp E)(qR:Dq E)(IE:Q9 E):∀n:Nat,cC E (5+n) "table_of" ["P","many","items"] (lx n)/\cC E (5+n) "table_of_item" ["P","many","item"] (qh n):=by
 obtain⟨a_y,d_y,RB,RC,sP⟩:=u_y
 obtain⟨a_d,d_d,RD,RE,RF⟩:=u_d
 have A:∀n:Nat,gH E.P E.w E.K E.mg E.base (5+n) a_y d_y ["P","many","items"] (lx n)/\gH E.P E.w E.K E.mg E.base (5+n) a_d d_d ["P","many","item"] (qh n):=by
  intro n
  induction n with
  | zero=>exact⟨P0 (k:=4) RB HW RC,P0 (k:=4) RD HY RE⟩
  | succ n ih =>
    obtain⟨uK,F_d⟩:=ih
    obtain⟨_,_,Ah,Ai⟩:=qQ.up (k':=5+n) (by lia)
    obtain⟨_,_,Af,Ag⟩:=qP.up (k':=5+n) (by lia)
    obtain⟨_,_,Aj,Ak⟩:=qR.up (k':=5+n) (by lia)
    obtain⟨_,_,F_D,m_D⟩:=IE.up (k':=5+n) (by lia)
    refine⟨?_,?_⟩
    ·refine CU (k:=5+n) RB HW RC (λds h=>rU h) λb7 A outer s H E hr=>?_
     have nd:=HW.nd
     have hu:=hr.units
     refine⟨BK (lx n) (qh n),?_,λds aU=>(vD (rU aU)).symm⟩
     exact(aM (bE 3 (PD.ro (bH Ah hr Ai (ar (af 1) aE))) nd)
     (aM (j4 4 fe rfl (qu (fW 2))
     (aT (bE 3 (PD.ro (bH Af hr Ag (ar (af 0) (ar (af 3) (ar (bH F_d hr RF (ar (af 0) (ar (af 1) (ar (af 4) aE)))) aE))))) nd)) nd)
     (aT (bU (af 3)))))
    ·refine CU (k:=5+n) RD HY RE (λds h=>rU h) λb7 A outer s H E hr=>?_
     have nd:=HY.nd
     have hu:=hr.units
     refine⟨BL (lx n) (qh n),?_,λds aU=>(vD (rU aU)).symm⟩
     exact(aM (iD (cW (i9 hu) (cx (af 2) aN) iw (cZ _)) (aT (bU (bH F_D hr m_D (ar (af 1) (ar (cx (af 2) aN) (ar (cx (af 2) aN) aE)))))) iV)
     (aT (bU (bH Aj hr Ak (ar (af 0) (ar (bH uK hr sP (ar (af 0) (ar (af 1) (ar (cx (af 2) aN) aE)))) (ar (cx (af 2) aN) aE)))))))
 exact λn=>⟨⟨_,_,(A n).1,sP⟩,⟨_,_,(A n).2,RF⟩⟩
theorem f_U{E:Ev}(B:Bi E)(u_U:Own E "kept" yK ["P","many","items"])(IF:Q5 E)(qS:Dm E)(qO:Dl E)(qT:Ik E):Q_ E:=by
 obtain⟨_,_,F_N,m_N⟩:=IF.up (k':=17) (by lia)
 obtain⟨_,_,Al,Am⟩:=qS.up (k':=17) (by lia)
 obtain⟨_,_,Ad,Ae⟩:=qO.up (k':=17) (by lia)
 obtain⟨_,_,uK,sP⟩:=qT.up (k':=17) (by lia)
 exact pO u_U a1y rfl rfl λ_ _ _ _ _ _ _ hr hu nd=>(aM (bE 3 (PD.ro (bH uK hr sP (ar (af 0) (ar (af 1) (ar (af 2) aE))))) nd)
  (aT (zI (jy Al hr Am (ar (af 0) (ar (PF.pd (jZ (iT.qt (lK (aZ dQ (af 1) aN) B.bg)) (jA (λ_ _ _ _ _=>(PD.ro (jX F_N hr m_N (ar (af 1) (ar (af 4) (ar (jX Ad hr Ae (ar (aZ dQ (af 2) aN) (ar (af 0) aE))) aE))))))) nd rfl)) aE))))))
theorem f_a{E:Ev}(B:Bi E)(u_a:Own E "brought_together" HZ ["P","row","other"])(gI:sO E):Ra E:=by
 obtain⟨_,_,kK,kL⟩:=gI.up (k':=1) (by lia)
 exact cS u_a a1z rfl rfl λ_ _ _ _ _ _ _ hr hu nd=>(aT (bU (bH kK hr kL (ar (af 0) (ar (fQ (CB rfl) B.bj (by decide +kernel) (ar (PF.pd (C4 (G_ (af 1) (af 2) B.bl) (C3 (λ_ _ _ _ _=>(PD.ro (aZ mP (af 0) (af 1))))) nd rfl)) aE)) aE)))))
theorem f_h{E:Ev}(B:Bi E)(u_h:Own E "shutting_row" H4 ["P","rows","goal"])(wM:Ih E)(IG:Ra E)(qS:Dm E)(mY:Ac E):Rb E:=by
 obtain⟨_,_,Iu,Iv⟩:=wM.up (k':=5) (by lia)
 obtain⟨_,_,F_a,m_a⟩:=IG.up (k':=5) (by lia)
 obtain⟨_,_,Al,Am⟩:=qS.up (k':=5) (by lia)
 obtain⟨_,_,uI,uJ⟩:=mY.up (k':=5) (by lia)
 exact cS u_h a2a rfl rfl λ_ _ _ _ _ _ _ hr hu nd=>(aM (y9z 3 (iT.qt (lK (fQ kF B.bc (by decide +kernel) (ar (af 2) aE)) B.bg)) (w3h (λ_ _ _ _ _ _=>(PD.ro (jw jx B.bk (by decide +kernel) (ar (PF.pd (jZ (oh (af 2)) (jA (λ_ _ _ _ _=>(PD.ro (cx (af 0) (af 1))))) (show List.Nodup (α:=Str) ["place","P","rows","goal","columns","row","number"] from by decide +kernel) rfl)) aE))))) nd rfl)
  (aM (j4 4 fe rfl (qu (PF.ro (jy Al hr Am (ar (af 0) (ar (af 3) aE)))))
  (aM (bE 5 (PD.ro (bH F_a hr m_a (ar (af 0) (ar (af 4) (ar (af 2) aE))))) nd)
  (aT (iD (cW (su hu) (af 5) aN (cZ _)) (aT (bU (bH uI hr uJ (ar (af 0) (ar (af 4) (ar (bH Iu hr Iv (ar (af 0) (ar (af 5) aE))) aE)))))) iV))) nd)
  (aT (bU zb))))
theorem f_r{E:Ev}(B:Bi E)(u_r:Own E "weights_to" yG ["P","rows","goal"])(qS:Dm E)(mY:Ac E):Rc E:=by
 obtain⟨_,_,Al,Am⟩:=qS.up (k':=5) (by lia)
 obtain⟨_,_,uI,uJ⟩:=mY.up (k':=5) (by lia)
 exact cS u_r a2b rfl rfl λ_ _ _ _ _ _ _ hr hu nd=>(aM (g6 3 (jy Al hr Am (ar (af 0) (ar (PF.pd (Zx (jv (ar (af 2) aE)) (Po (af 1) B.bd (by decide +kernel)))) aE))) nd)
  (aM (iD (jV.pt (Y9 (Pd (w2z (af 3))) (Y8 (cW (i9 hu) (cx (cx (af 3) aN) aN) aN (cZ _))))) (aT (bU zb)) iV)
  (aT (bU (bH uI hr uJ (ar (af 0) (ar (oG (cx (af 3) aN) (mV aN) pN) (ar (Cz aN) aE))))))))
theorem f_K{E:Ev}(u_K:Own E "solved" vX ["P","rows","goal"])(IH:Rb E)(II:Rc E):Rf E:=by
 obtain⟨_,_,F_h,m_h⟩:=IH.up (k':=6) (by lia)
 obtain⟨_,_,F_r,m_r⟩:=II.up (k':=6) (by lia)
 exact cS u_K a2c rfl rfl λ_ _ _ _ _ _ _ hr hu nd=>(aM (bE 3 (PD.ro (bH F_r hr m_r (ar (af 0) (ar (af 1) (ar (af 2) aE))))) nd)
  (aM (iD (cW P1 (af 3) zb (cZ _)) (aT (bU (lI (ar iw (ar (af 3) aE))))) iV)
  (aT (bU (lI (ar iw (ar (bH F_h hr m_h (ar (af 0) (ar (af 1) (ar (af 2) aE)))) aE)))))))
theorem f_A{E:Ev}(B:Bi E)(u_A:Own E "with_one" v9 ["stand"]):Rg E:=by
 exact cS u_A a2d rfl rfl λ_ _ _ _ _ _ _ hr hu nd=>(aT (bU (aZ dQ (jw jx B.bk (by decide +kernel) (ar (af 0) aE)) (lI (ar aN aE)))))
theorem f_H{E:Ev}(u_H:Own E "towards" uc ["P","stands","goal"])(IJ:Rf E)(IK:Rg E):Il E:=by
 obtain⟨_,_,F_K,m_K⟩:=IJ.up (k':=7) (by lia)
 obtain⟨_,_,RG,RH⟩:=IK.up (k':=7) (by lia)
 exact cS u_H a2e rfl rfl λ_ _ _ _ _ _ _ hr hu nd=>(aT (bU (bH F_K hr m_K (ar (af 0) (ar (PF.pd (jZ (oh (af 1)) (jA (λ_ _ _ _ _=>(PD.ro (jX RG hr RH (ar (af 0) aE))))) nd rfl)) (ar (bH RG hr RH (ar (af 2) aE)) aE))))))
theorem f_Q{E:Ev}(B:Bi E)(u_Q:Own E "worth" yo ["P","form","stand"])(gI:sO E):Rh E:=by
 obtain⟨_,_,kK,kL⟩:=gI.up (k':=1) (by lia)
 exact cS u_Q a2f rfl rfl λ_ _ _ _ _ _ _ hr hu nd=>(aM (bE 3 (PD.ro (fQ kF B.bc (by decide +kernel) (ar (af 2) aE))) nd)
  (aT (bU (bH kK hr kL (ar (af 0) (ar (aZ dQ (fQ (CB rfl) B.bj (by decide +kernel) (ar (PF.pd (jZ (iT.qt (lK (af 3) B.bg)) (jA (λ_ _ _ _ _=>(PD.ro (aZ mP (cx (af 2) (af 0)) (cx (af 3) (af 0)))))) nd rfl)) aE)) (cx (af 1) (af 3))) aE))))))
theorem f_L{E:Ev}(B:Bi E)(u_L:Own E "turned" pz ["P","table","stand"])(IL:Rh E):uH E:=by
 obtain⟨_,_,F_Q,m_Q⟩:=IL.up (k':=2) (by lia)
 exact cS u_L a2g rfl rfl λ_ _ _ _ _ _ _ hr hu nd=>(aT (bU (jw jx B.bk (by decide +kernel) (ar (PF.pd (jZ (oh (af 1)) (jA (λ_ _ _ _ _=>(PD.ro (jX F_Q hr m_Q (ar (af 1) (ar (af 0) (ar (af 3) aE))))))) nd rfl)) aE))))
theorem f_X{E:Ev}(u_X:Own E "hull" yN ["P","many","items","stand"])(qT:Ik E)(wQ:Il E)(iY:uH E):Ri E:=by
 obtain⟨_,_,uK,sP⟩:=qT.up (k':=17) (by lia)
 obtain⟨_,_,Dw,Dx⟩:=wQ.up (k':=17) (by lia)
 obtain⟨_,_,mZ,m5⟩:=iY.up (k':=17) (by lia)
 exact cS u_X a2h rfl rfl λ_ _ _ _ _ _ _ hr hu nd=>(aM (bE 4 (PD.ro (bH uK hr sP (ar (af 0) (ar (af 1) (ar (af 2) aE))))) nd)
  (aM (g6 5 (jv (ar (af 3) aE)) nd)
  (aM (bE 6 (PD.ro (bH mZ hr m5 (ar (af 0) (ar (af 4) (ar (af 3) aE))))) nd)
  (aM (bE 7 (PD.ro (bH Dw hr Dx (ar (af 0) (ar (af 5) (ar (af 6) aE))))) nd)
  (aM (pM 10 fe (cW (i9 hu) (cx (af 7) aN) iw (cZ _)) (aM (pL 5 (PD.ro (af 6)))
  (aM (bE 6 (PD.ro (bH mZ hr m5 (ar (af 0) (ar (af 4) (ar (af 6) aE))))) nd)
  (aT (bE 7 (PD.ro (bH Dw hr Dx (ar (af 0) (ar (af 5) (ar (af 6) aE))))) nd)))))
  (aT (bU (lI (ar (af 5) (ar (cx (af 7) aN) aE))))))))))
theorem f_P{E:Ev}(u_P:Own E "placed" yO ["P","many","items","stand","goal"])(IM:Ri E)(wQ:Il E):Rj E:=by
 obtain⟨_,_,F_X,m_X⟩:=IM.up (k':=18) (by lia)
 obtain⟨_,_,Dw,Dx⟩:=wQ.up (k':=18) (by lia)
 exact cS u_P a2i rfl rfl λ_ _ _ _ _ _ _ hr hu nd=>(aM (bE 5 (w5q (C_ F_X hr m_X (iW (fW 0) (iW (fW 1) (iW (fW 2) (iW (fW 3) C0))))) aN) nd)
  (aT (bU (bH Dw hr Dx (ar (af 0) (ar (af 5) (ar (af 4) aE)))))))
theorem f_J{E:Ev}(B:Bi E)(u_J:Own E "walked" uf ["P","table","stand","count"])(iY:uH E):Dr E:=by
 obtain⟨_,_,mZ,m5⟩:=iY.up (k':=3) (by lia)
 exact pO u_J a2j rfl rfl λ_ _ _ _ _ _ _ hr hu nd=>(aM (g6 4 (jv aE) nd)
  (aM (j4 5 fe rfl (lK (af 3) B.bg)
  (aM (pL 4 (PD.ro (af 2)))
  (aT (bE 2 (PD.ro (bH mZ hr m5 (ar (af 0) (ar (af 1) (ar (af 2) aE))))) nd))) nd)
  (aT (zJ 4))))
theorem f_l{E:Ev}(u_l:Own E "far_stands" H8 ["P","table","m","r","stand"])(qR:Dq E)(iY:uH E)(qU:Dr E):Rk E:=by
 obtain⟨_,_,Aj,Ak⟩:=qR.up (k':=5) (by lia)
 obtain⟨_,_,mZ,m5⟩:=iY.up (k':=5) (by lia)
 obtain⟨_,_,An,Ao⟩:=qU.up (k':=5) (by lia)
 exact pO u_l a2k rfl rfl λ_ _ _ _ _ _ _ hr hu nd=>(aM (bE 5 (PD.ro (bH Aj hr Ak (ar (af 0) (ar (af 1) (ar (af 2) aE))))) nd)
  (aT (zI (jy An hr Ao (ar (af 0) (ar (af 5) (ar (bH mZ hr m5 (ar (af 0) (ar (af 5) (ar (af 4) aE)))) (ar (aZ kE (aZ n9 (aZ dQ (af 3) (af 2)) aN) (af 2)) aE))))))))
theorem f_m{E:Ev}(u_m:Own E "root_above" H9 ["r"]):Rl E:=by
 exact cS u_m a2l rfl rfl λ_ _ _ _ _ _ _ hr hu nd=>(aM (bE 1 (PD.ro aN) nd)
  (aM (pM 200 fe (cW zd (aZ mP (af 1) (af 1)) (af 0) (cZ _)) (aT (bE 1 (PD.ro (aZ dQ (af 1) aN)) nd)))
  (aT (bU (af 1)))))
theorem f_i{E:Ev}(B:Bi E)(u_i:Own E "on_or_apart" y8 ["P","table","t","r","entry","goal"])(IP:Rk E)(IQ:Rl E)(qU:Dr E):Rm E:=by
 obtain⟨_,_,F_l,m_l⟩:=IP.up (k':=6) (by lia)
 obtain⟨_,_,F_m,m_m⟩:=IQ.up (k':=6) (by lia)
 obtain⟨_,_,An,Ao⟩:=qU.up (k':=6) (by lia)
 exact cS u_i a2m rfl rfl λ_ _ _ _ _ _ _ hr hu nd=>(aM (bE 6 (PD.ro (bH F_m hr m_m (ar (af 3) aE))) nd)
  (aM (g6 7 (jy An hr Ao (ar (af 0) (ar (af 1) (ar (af 5) (ar (af 6) aE))))) nd)
  (aM (g6 8 (jy F_l hr m_l (ar (af 0) (ar (af 1) (ar (af 6) (ar (af 3) (ar (af 4) aE)))))) nd)
  (aM (w5k 8 (w3a 9 10 fe rfl (x9a (fW 8) aN B.bb)
  (aT (iD (cW (HG hu) (af 10) (af 7) rfl) (aT (bU (lI (ar iw (ar (aZ n9 (aZ dQ (af 2) (aZ mP (af 9) (af 6))) (QS hu (af 7) (af 10))) aE))))) iV)) nd))
  (aT (bU (lI (ar iw (ar (af 2) (ar (af 3) (ar (af 7) (ar (af 8) aE))))))))))))
theorem f_G{E:Ev}(u_G:Own E "climbed" ue ["P","rungs","n","stand"])(wO:Ij E)(iY:uH E):Ds E:=by
 obtain⟨_,_,IC,ID⟩:=wO.up (k':=3) (by lia)
 obtain⟨_,_,mZ,m5⟩:=iY.up (k':=3) (by lia)
 exact cS u_G a2n rfl rfl λ_ _ _ _ _ _ _ hr hu nd=>(aM (j4 4 fe rfl (qu (PF.ro (jy IC hr ID (ar (af 1) (ar (af 2) aE)))))
  (aT (bE 3 (PD.ro (bH mZ hr m5 (ar (af 0) (ar (af 4) (ar (af 3) aE))))) nd)) nd)
  (aT (bU (af 3))))
theorem f_c{E:Ev}(B:Bi E)(u_c:Own E "parts_of_rings" H_ ["P","many"]):Rn E:=by
 exact pO u_c a2o rfl rfl λ_ _ _ _ _ _ _ hr hu nd=>(aM (g6 2 (jv (ar (aZ n9 (af 0) aN) aE)) nd)
  (aM (bE 3 (PD.ro aN) nd)
  (aM (j4 4 fe rfl (lK (af 1) B.bg)
  (aM (pL 2 (PD.ro (af 3)))
  (aT (bE 3 (PD.ro (aZ dQ (aZ mP (af 3) (af 0)) aN)) nd))) nd)
  (aM (bE 5 (PD.ro aN) nd)
  (aM (pM 10 fe (cW zd (af 5) (aZ dQ (af 1) aN) (cZ _)) (aM (pL 2 (PD.ro (af 0)))
  (aT (bE 5 (PD.ro (aZ mP (af 5) (af 0))) nd))))
  (aT (zJ 2)))))))
theorem f_e{E:Ev}(u_e:Own E "least_divisor" Ia ["n"]):Ro E:=by
 exact cS u_e a2p rfl rfl λ_ _ _ _ _ _ _ hr hu nd=>(aM (bE 1 (PD.ro aN) nd)
  (aM (pM 10000 fe (cW Zb (aZ mP (af 1) (af 1)) (af 0) (cZ _)) (aM (iD (cW (i9 hu) (aZ fY (af 0) (af 1)) aN (cZ _)) (aT (bU (af 1))) iV)
  (aT (bE 1 (PD.ro (aZ dQ (af 1) aN)) nd))))
  (aT (bU (af 0)))))
theorem f_f{E:Ev}(u_f:Own E "without_prime" Ib ["n","divisor"]):Rp E:=by
 exact cS u_f a2q rfl rfl λ_ _ _ _ _ _ _ hr hu nd=>(aM (pM 100 fe (cW (i9 hu) (aZ fY (af 0) (af 1)) aN (cZ _)) (aT (bE 0 (PD.ro (aZ kE (af 0) (af 1))) nd)))
  (aT (bU (af 0))))
theorem f_x{E:Ev}(u_x:Own E "primes_of" yT ["n"])(IS:Ro E)(IT:Rp E):Rq E:=by
 obtain⟨_,_,F_e,m_e⟩:=IS.up (k':=1) (by lia)
 obtain⟨_,_,F_f,m_f⟩:=IT.up (k':=1) (by lia)
 exact pO u_x a2r rfl rfl λ_ _ _ _ _ _ _ hr hu nd=>(aM (g6 1 (jv aE) nd)
  (aM (pM 100 fe (cW ze (af 0) aN (cZ _)) (aM (pL 1 (PD.ro (bH F_e hr m_e (ar (af 0) aE))))
  (aT (bE 0 (PD.ro (bH F_f hr m_f (ar (af 0) (ar (cx (af 1) (Cz aN)) aE)))) nd))))
  (aT (zJ 1))))
theorem f_b{E:Ev}(B:Bi E)(u_b:Own E "primes_of_parts" yZ ["parts"])(IU:Rq E):Rr E:=by
 obtain⟨_,_,F_x,m_x⟩:=IU.up (k':=2) (by lia)
 exact pO u_b a2s rfl rfl λ_ _ _ _ _ _ _ hr hu nd=>(aM (g6 1 (jv aE) nd)
  (aM (j4 2 fe rfl (qu (fW 0))
  (aT (x5j 1 (jy F_x hr m_x (ar (af 2) aE)))) nd)
  (aT (zI (w3b (af 1) B.bi B.bh rfl)))))
theorem f_F{E:Ev}(u_F:Own E "product" yX ["parts"]):Rt E:=by
 exact cS u_F a2t rfl rfl λ_ _ _ _ _ _ _ hr hu nd=>(aM (bE 1 (PD.ro aN) nd)
  (aM (j4 2 fe rfl (qu (fW 0))
  (aT (bE 1 (PD.ro (aZ w3o (af 1) (af 2))) nd)) nd)
  (aT (bU (af 1)))))
theorem f_C{E:Ev}(u_C:Own E "shortest" yV ["P","rungs","n","primes","stand"])(qV:Ds E):Ru E:=by
 obtain⟨_,_,Ap,Aq⟩:=qV.up (k':=4) (by lia)
 exact cS u_C a2u rfl rfl λ_ _ _ _ _ _ _ hr hu nd=>(aM (j4 5 fe rfl (qu (fW 3))
  (aT (pM 200 fe (jV.pt (uj (cW (i9 hu) (aZ fY (af 2) (af 5)) aN (cZ _)) (we (cW (i9 hu) (bH Ap hr Aq (ar (af 0) (ar (af 1) (ar (aZ kE (af 2) (af 5)) (ar (af 4) aE))))) (af 4) (cZ _))))) (aT (bE 2 (PD.ro (aZ kE (af 2) (af 5))) nd)))) nd)
  (aT (bU (af 2))))
theorem f_V{E:Ev}(u_V:Own E "tail" yW ["P","rungs","r","stand"])(qV:Ds E)(iY:uH E):Rw E:=by
 obtain⟨_,_,Ap,Aq⟩:=qV.up (k':=4) (by lia)
 obtain⟨_,_,mZ,m5⟩:=iY.up (k':=4) (by lia)
 exact cS u_V a2v rfl rfl λ_ _ _ _ _ _ _ hr hu nd=>(aM (bE 4 (PD.ro aN) nd)
  (aM (pM 10 fe (cW (su hu) (bH Ap hr Aq (ar (af 0) (ar (af 1) (ar (af 2) (ar (af 3) aE))))) (af 3) (cZ _)) (aM (bE 3 (PD.ro (bH mZ hr m5 (ar (af 0) (ar (cx (af 1) aN) (ar (af 3) aE))))) nd)
  (aT (bE 4 (PD.ro (aZ dQ (af 4) aN)) nd))))
  (aT (bU (af 4)))))
theorem f_g{E:Ev}(B:Bi E)(u_g:Own E "ring_of_table" y6 ["P","table","stand"])(qV:Ds E)(wN:Ii E)(IV:Rn E)(IW:Rr E)(IX:Rt E)(IY:Ru E)(IZ:Rw E):Rx E:=by
 obtain⟨_,_,Ap,Aq⟩:=qV.up (k':=5) (by lia)
 obtain⟨_,_,IA,IB⟩:=wN.up (k':=5) (by lia)
 obtain⟨_,_,F_c,m_c⟩:=IV.up (k':=5) (by lia)
 obtain⟨_,_,F_b,m_b⟩:=IW.up (k':=5) (by lia)
 obtain⟨_,_,F_F,m_F⟩:=IX.up (k':=5) (by lia)
 obtain⟨_,_,F_C,m_C⟩:=IY.up (k':=5) (by lia)
 obtain⟨_,_,F_V,m_V⟩:=IZ.up (k':=5) (by lia)
 exact cS u_g a2w rfl rfl λ_ _ _ _ _ _ _ hr hu nd=>(aM (bE 3 (PD.ro (fQ kF B.bc (by decide +kernel) (ar (af 1) aE))) nd)
  (aM (g6 4 (jy F_c hr m_c (ar (af 0) (ar (af 3) aE))) nd)
  (aM (bE 5 (PD.ro (bH F_F hr m_F (ar (af 4) aE))) nd)
  (aM (g6 6 (jy F_b hr m_b (ar (af 4) aE)) nd)
  (aM (g6 7 (jy IA hr IB (ar (af 0) (ar (af 1) (ar (af 5) aE)))) nd)
  (aM (bE 8 (PD.ro (bH F_C hr m_C (ar (af 0) (ar (af 7) (ar (af 5) (ar (af 6) (ar (bH Ap hr Aq (ar (af 0) (ar (af 7) (ar (af 3) (ar (af 2) aE))))) aE))))))) nd)
  (aT (bU (lI (ar (bH F_V hr m_V (ar (af 0) (ar (af 7) (ar (af 8) (ar (af 2) aE))))) (ar (af 8) (ar (PF.pd (jZ (oh (af 6)) (GK (λ_ _ _ _ _=>(cW (i9 hu) (aZ fY (af 9) (af 0)) aN (cZ _))) (λ_ _ _ _ _=>(PD.ro (af 0)))) nd rfl)) aE))))))))))))
theorem f_S{E:Ev}(B:Bi E)(u_S:Own E "reach" y9 ["P","many","items","stand","goal"])(I0:Rm E)(I8:Rx E)(qR:Dq E)(qT:Ik E)(iY:uH E)(qU:Dr E):Ry E:=by
 obtain⟨_,_,F_i,m_i⟩:=I0.up (k':=17) (by lia)
 obtain⟨_,_,F_g,m_g⟩:=I8.up (k':=17) (by lia)
 obtain⟨_,_,Aj,Ak⟩:=qR.up (k':=17) (by lia)
 obtain⟨_,_,uK,sP⟩:=qT.up (k':=17) (by lia)
 obtain⟨_,_,mZ,m5⟩:=iY.up (k':=17) (by lia)
 obtain⟨_,_,An,Ao⟩:=qU.up (k':=17) (by lia)
 exact cS u_S a2x rfl rfl λ_ _ _ _ _ _ _ hr hu nd=>(aM (bE 5 (PD.ro (bH uK hr sP (ar (af 0) (ar (af 1) (ar (af 2) aE))))) nd)
  (aM (bE 6 (C_ F_g hr m_g (iW (fW 0) (iW (fW 5) (iW (fW 3) C0)))) nd)
  (aM (bE 7 (PD.ro (cx (af 6) aN)) nd)
  (aM (bE 8 (PD.ro (cx (af 6) aN)) nd)
  (aM (iD (cW ze (af 8) (ZX B.bm ⟨_,rfl⟩) (cZ _)) (aT (PX B.br iw rfl)) iV)
  (aM (g6 9 (jy An hr Ao (ar (af 0) (ar (af 5) (ar (af 3) (ar (aZ dQ (af 7) aN) aE))))) nd)
  (aM (iD (cW (HG hu) (af 4) (af 9) rfl) (aT (bU (lI (ar iw (ar (QS hu (af 9) (af 4)) aE))))) iV)
  (aM (iD (cW (su hu) (bH mZ hr m5 (ar (af 0) (ar (bH Aj hr Ak (ar (af 0) (ar (af 5) (ar (af 8) aE)))) (ar (af 4) aE)))) (af 4) (cZ _)) (aT (bU (lI (ar iw (ar (af 7) (ar (af 8) aE)))))) iV)
  (aT (bU (gY.pd (C_ F_i hr m_i (iW (fW 0) (iW (fW 5) (iW (fW 7) (iW (fW 8) (iW (PD.ro (cx (af 9) (af 7))) (iW (fW 4) C0))))))))))))))))))
theorem w7z{E:Ev}{a:Addr}{d:da}(B:Bi E)(U:p9 E.K "law" "law" Ic a d)(hb:oY E.K d ["script"] [])(I9:QX E)(wK:Ie E)(I_:Q0 E)(Ja:Q2 E)(Jb:Q3 E)(Jc:Q_ E)(Jd:Rj E)(Je:Ry E):gH E.P E.w E.K E.mg E.base 20 a d ["script"] Cv:=by
 obtain⟨_,_,Ar,As⟩:=I9.up (k':=19) (by lia)
 obtain⟨_,_,Dt,Du⟩:=wK.up (k':=19) (by lia)
 obtain⟨_,_,F_n,m_n⟩:=I_.up (k':=19) (by lia)
 obtain⟨_,_,F_s,m_s⟩:=Ja.up (k':=19) (by lia)
 obtain⟨_,_,RI,RJ⟩:=Jb.up (k':=19) (by lia)
 obtain⟨_,_,F_U,m_U⟩:=Jc.up (k':=19) (by lia)
 obtain⟨_,_,F_P,m_P⟩:=Jd.up (k':=19) (by lia)
 obtain⟨_,_,F_S,m_S⟩:=Je.up (k':=19) (by lia)
 refine CU U QW hb (λds h=>rU h) λb7 A outer s H E hr=>?_
 have nd:=QW.nd
 have hu:=hr.units
 exact⟨Gr,(aM (bE 1 (PD.ro (aZ dQ aN (aZ fY (bH Ar hr As (ar (af 0) (ar aN aE))) aN))) nd)
  (aM (bE 2 (PD.ro (bH F_s hr m_s (ar (bH Ar hr As (ar (af 0) (ar aN aE))) (ar (af 1) aE)))) nd)
  (aM (bE 3 (PD.ro (bH Dt hr Du (ar (bH Ar hr As (ar (af 0) (ar aN aE))) (ar (af 2) (ar (af 1) aE))))) nd)
  (aM (bE 4 (PD.ro (bH Dt hr Du (ar (bH Ar hr As (ar (af 0) (ar aN aE))) (ar (af 2) (ar (af 1) aE))))) nd)
  (aM (bE 5 (PD.ro (bH F_n hr m_n (ar (oG (af 0) (mV aN) (mV aN)) (ar (af 2) (ar (af 1) (ar aN aE)))))) nd)
  (aM (bE 6 (PD.ro (aZ fY (aZ kE (bH Ar hr As (ar (af 0) (ar aN aE))) aN) aN)) nd)
  (aM (iD (cW ze (af 6) aN (cZ _)) (aT (bE 5 (PD.ro (oG (af 5) pN (mV (aZ n9 (af 6) aN)))) nd)) iV)
  (aM (bE 7 (C_ F_S hr m_S (iW (fW 2) (iW (fW 1) (iW (fW 5) (iW (fW 3) (iW (fW 4) C0)))))) nd)
  (aM (bE 8 (PD.ro (bH F_P hr m_P (ar (af 2) (ar (af 1) (ar (af 5) (ar (af 3) (ar (af 4) aE))))))) nd)
  (aM (iD (jV.pt (uj (cW (i9 hu) (cx (af 8) aN) iw (cZ _)) (we (cW (i9 hu) (cx (af 7) aN) iw (cZ _))))) (aT (bU Gw)) iV)
  (aM (iD (jV.pt (uj (cW (su hu) (cx (af 8) aN) iw (cZ _)) (we (cW (su hu) (aZ fY (fQ (w4s rfl) B.bj (by decide +kernel) (ar (cx (af 8) aN) aE)) (af 2)) aN (cZ _))))) (aT (bU Gw)) iV)
  (aM (j4 9 fe rfl (qu (PF.ro (jy F_U hr m_U (ar (af 2) (ar (af 1) (ar (af 5) aE))))))
  (aT (iD (jV.pt (uj (cW (su hu) (bH RI hr RJ (ar (af 2) (ar (af 9) (ar (af 3) aE)))) (bH RI hr RJ (ar (af 2) (ar (af 9) (ar (af 4) aE)))) (cZ _)) (we (cW (i9 hu) (cx (af 7) aN) iw (cZ _))))) (aT (bU Gw)) iV)) nd)
  (aT (bU (Pa (HG hu) (cx (af 7) aN) (lI (ar iw (ar iw (ar iw aE)))) rfl))))))))))))))),λds aU=>(vD (rU aU)).symm⟩
end
theorem qW{α:Type}{p:List α->Prop}(h:∀a,p [a])(us:List α)(hl:us.length=1):p us:=by
 obtain⟨a,rfl⟩:∃a,us=[a]:=by
  match us,hl with
  | [a],_=>exact⟨a,rfl⟩
 exact h a
theorem pP{α:Type}{p:List α->Prop}(h:∀a b,p [a,b])(us:List α)(hl:us.length=2):p us:=by
 obtain⟨a,b,rfl⟩:∃a b,us=[a,b]:=by
  match us,hl with
  | [a,b],_=>exact⟨a,b,rfl⟩
 exact h a b
theorem gp{α:Type}{p:List α->Prop}(h:∀a b c,p [a,b,c])(us:List α)(hl:us.length=3):p us:=by
 obtain⟨a,b,c,rfl⟩:∃a b c,us=[a,b,c]:=by
  match us,hl with
  | [a,b,c],_=>exact⟨a,b,c,rfl⟩
 exact h a b c
theorem uL{α:Type}{p:List α->Prop}(h:∀a b c d,p [a,b,c,d])(us:List α)(hl:us.length=4):p us:=by
 obtain⟨a,b,c,d,rfl⟩:∃a b c d,us=[a,b,c,d]:=by
  match us,hl with
  | [a,b,c,d],_=>exact⟨a,b,c,d,rfl⟩
 exact h a b c d
theorem Dy{α:Type}{p:List α->Prop}(h:∀a b c d e,p [a,b,c,d,e])(us:List α)(hl:us.length=5):p us:=by
 obtain⟨a,b,c,d,e,rfl⟩:∃a b c d e,us=[a,b,c,d,e]:=by
  match us,hl with
  | [a,b,c,d,e],_=>exact⟨a,b,c,d,e,rfl⟩
 exact h a b c d e
theorem w7u{α:Type}{p:List α->Prop}(h:∀a b c d e f,p [a,b,c,d,e,f])(us:List α)(hl:us.length=6):p us:=by
 obtain⟨a,b,c,d,e,f,rfl⟩:∃a b c d e f,us=[a,b,c,d,e,f]:=by
  match us,hl with
  | [a,b,c,d,e,f],_=>exact⟨a,b,c,d,e,f,rfl⟩
 exact h a b c d e f
section
variable {w:aY}{h:Heap}{mg:Str->Option ae}(X:(KK w.params).In h)(G:h.Ns dU mg)
include X G in
theorem ma{x:Str}{v:ae}(e:nj (KK w.params) dU x=some (some v)):mg x=some v:=AD X G e
include X G in
theorem mn{x:Str}(e:nj (KK w.params) dU x=some none):mg x=none:=PySem.W.mg_none_of X G e
include X G in
theorem ow(base:Heap){x:Str}{st:Stmt}{ps:List Str}{c:Addr}{pm:ae}(a:Addr)(n:nj (KK w.params) dU x=some (some (.ref a)))(l:(KK w.params).lookup a=some (HQ.fO x st pm (.ref c)))(e:Jn (KK w.params) (.ref c) x=true)(b:∀(kV doc pm:ae) (an:Option Addr) (b7 ct:ae) (us:List ae),us.length=ps.length->RV (DC x x (xV st) (p8 st) (bI st) .none kV doc pm an b7 ct) ⟨us,[]⟩=pure (ps.zip us)):Own ⟨PySem.Challenge.rw_longrounds_k94_whole_what_bars_a_goal.prog,w,(KK w.params),mg,base⟩ x st ps:=⟨a,_,HQ.HK l e,(HQ.HK l e).binds b,AD X G n⟩
include X G in
set_option maxHeartbeats 0 in
theorem all{fa:Addr}(hfa:mg "law"=some (.ref fa)):∃fd:da,(∀(s:aq) (v:ae),BindsTo s fd ⟨[v],[]⟩ [("script",v)])/\∀base:Heap,(KK w.params).In base->base.Ns dU mg->jG PySem.Challenge.rw_longrounds_k94_whole_what_bars_a_goal.prog w (KK w.params) mg base (qr PySem.Challenge.rw_longrounds_k94_whole_what_bars_a_goal.prog w) 20 fa fd ["script"] (wC Cv (KK w.params)):=by
 k_fill
 have RK:nj (KK w.params) dU "NoNumber"=some (some (.ref 37)):=by k_is
 have RL:=AD X G RK
 have b0b:CY (KK w.params) 37:=⟨by k_is,by k_is,by k_is,by k_is,by k_is,by k_is,HL (by k_is)⟩
 have RM:nj (KK w.params) dU "TooLong"=some (some (.ref 49)):=by k_is
 have RN:=AD X G RM
 have b0c:CY (KK w.params) 49:=⟨by k_is,by k_is,by k_is,by k_is,by k_is,by k_is,HL (by k_is)⟩
 have a3a:nj (KK w.params) dU "LongError"=some (some (.ref 24)):=by k_is
 have a3b:=AD X G a3a
 have b0d:CY (KK w.params) 24:=⟨by k_is,by k_is,by k_is,by k_is,by k_is,by k_is,HL (by k_is)⟩
 have a3c:zV (KK w.params) mg .vq 37:=⟨RK,RL,by k_exc⟩
 have a3d:zV (KK w.params) mg .tooLong 49:=⟨RM,RN,by k_exc⟩
 have b0e:nj (KK w.params) dU "NoPrime"=some none:=by k_is
 have b0f:nj (KK w.params) dU "NoProgram"=some none:=by k_is
 have b0g:nj (KK w.params) dU "Lossy"=some none:=by k_is
 have b0h:nj (KK w.params) dU "NoText"=some none:=by k_is
 have lL:(KK w.params).lookup 387=some (HQ.fO "law" Ic (.str "law_longrounds_k94_whole_what_bars_a_goal" 652) (.ref 386)):=by k_is
 have lC:Jn (KK w.params) (.ref 386) "law"=true:=by k_is
 have a3e:=ma X G (x:="law") (v:=.ref 387) (by k_is)
 have e:=hfa.symm.trans a3e
 cases e
 have UL:=HQ.HK lL lC
 refine a1a UL (λs v=>.of_eq rfl) λbase _ _=>?_
 have B:Bi ⟨PySem.Challenge.rw_longrounds_k94_whole_what_bars_a_goal.prog,w,(KK w.params),mg,base⟩:=⟨mn X G (by k_is),mn X G (by k_is),mn X G (by k_is),mn X G (by k_is),mn X G (by k_is),mn X G (by k_is),mn X G (by k_is),mn X G (by k_is),mn X G (by k_is),mn X G (by k_is),mn X G (by k_is),mn X G (by k_is),ma X G (by k_is),RL,RN,a3b,a3c,a3d⟩
 have a3f:=ow X G base (x:="_law_cell") (st:=HM) (ps:=["script","k"]) 337 (by k_is) (by k_is) (by k_is) λ_ _ _ _ _ _=>pP λ_ _=>rfl
 have I9:=f_w B a3f
 have a3g:=ow X G base (x:="_law_digits") (st:=HN) (ps:=["cell","P","size"]) 349 (by k_is) (by k_is) (by k_is) λ_ _ _ _ _ _=>gp λ_ _ _=>rfl
 have wK:=f_j B a3g
 have a3h:=ow X G base (x:="_law_count") (st:=HP) (ps:=["cell"]) 366 (by k_is) (by k_is) (by k_is) λ_ _ _ _ _ _=>qW λ_=>rfl
 have Im:=f_k a3h
 have a3i:=ow X G base (x:="_law_set") (st:=HR) (ps:=["cell","more","P","many"]) 373 (by k_is) (by k_is) (by k_is) λ_ _ _ _ _ _=>uL λ_ _ _ _=>rfl
 have Io:=f_B a3i wK
 have a3j:=ow X G base (x:="_law_items") (st:=HS) (ps:=["cells","P","many","agains"]) 380 (by k_is) (by k_is) (by k_is) λ_ _ _ _ _ _=>uL λ_ _ _ _=>rfl
 have I_:=f_n B a3j Im Io
 have a3k:=ow X G base (x:="_law_small") (st:=HU) (ps:=["cell","many"]) 342 (by k_is) (by k_is) (by k_is) λ_ _ _ _ _ _=>pP λ_ _=>rfl
 have Ja:=f_s B a3k
 have a3l:=ow X G base (x:="_law_worth") (st:=HV) (ps:=["P","form","stand"]) 354 (by k_is) (by k_is) (by k_is) λ_ _ _ _ _ _=>gp λ_ _ _=>rfl
 have Jb:=f_t B a3l
 have a3m:=ow X G base (x:="column_sum") (st:=yq) (ps:=["form","table","place"]) 97 (by k_is) (by k_is) (by k_is) λ_ _ _ _ _ _=>gp λ_ _ _=>rfl
 have Ip:=f_o B a3m
 have a3n:=ow X G base (x:="on") (st:=s_on) (ps:=["P","n"]) 65 (by k_is) (by k_is) (by k_is) λ_ _ _ _ _ _=>pP λ_ _=>rfl
 have gI:=a2y a3n
 have a3o:=ow X G base (x:="form_ahead") (st:=vN) (ps:=["P","table","form"]) 102 (by k_is) (by k_is) (by k_is) λ_ _ _ _ _ _=>gp λ_ _ _=>rfl
 have wL:=f_q B a3o Ip gI
 have a3p:=ow X G base (x:="change") (st:=yJ) (ps:=["P","table","form"]) 325 (by k_is) (by k_is) (by k_is) λ_ _ _ _ _ _=>gp λ_ _ _=>rfl
 have IF:=f_N B a3p wL gI
 have a3q:=ow X G base (x:="one_at") (st:=tV) (ps:=["width","place"]) 87 (by k_is) (by k_is) (by k_is) λ_ _ _ _ _ _=>pP λ_ _=>rfl
 have qO:=f_O B a3q
 have a3r:=ow X G base (x:="cleared") (st:=yD) (ps:=["P","row","lead","place"]) 260 (by k_is) (by k_is) (by k_is) λ_ _ _ _ _ _=>uL λ_ _ _ _=>rfl
 have Iw:=f_E B a3r gI
 have a3s:=ow X G base (x:="back") (st:=r_) (ps:=["P","n"]) 72 (by k_is) (by k_is) (by k_is) λ_ _ _ _ _ _=>pP λ_ _=>rfl
 have wM:=f_T B a3s gI
 have a3t:=ow X G base (x:="times") (st:=sf) (ps:=["P","row","number"]) 248 (by k_is) (by k_is) (by k_is) λ_ _ _ _ _ _=>gp λ_ _ _=>rfl
 have mY:=f_R B a3t gI
 have a3u:=ow X G base (x:="lead_row") (st:=yE) (ps:=["P","rows","place"]) 255 (by k_is) (by k_is) (by k_is) λ_ _ _ _ _ _=>gp λ_ _ _=>rfl
 have Iy:=f_z a3u wM mY
 have a3v:=ow X G base (x:="steps_form") (st:=t6) (ps:=["P","rows"]) 265 (by k_is) (by k_is) (by k_is) λ_ _ _ _ _ _=>pP λ_ _=>rfl
 have Iz:=f_p B a3v Iw Iy mY
 have a3w:=ow X G base (x:="idle_sums") (st:=si) (ps:=["P","rows"]) 270 (by k_is) (by k_is) (by k_is) λ_ _ _ _ _ _=>pP λ_ _=>rfl
 have qS:=f_u B a3w qO Iz
 have a3x:=ow X G base (x:="idle") (st:=tW) (ps:=["many"]) 92 (by k_is) (by k_is) (by k_is) λ_ _ _ _ _ _=>qW λ_=>rfl
 have qQ:=f_Y B a3x qO
 have a3y:=ow X G base (x:="then") (st:=tU) (ps:=["P","one","other"]) 107 (by k_is) (by k_is) (by k_is) λ_ _ _ _ _ _=>gp λ_ _ _=>rfl
 have qP:=f_W B a3y wL
 have a3z:=ow X G base (x:="ladder") (st:=vQ) (ps:=["P","table","n"]) 121 (by k_is) (by k_is) (by k_is) λ_ _ _ _ _ _=>gp λ_ _ _=>rfl
 have wN:=f_M B a3z qP
 have a4a:=ow X G base (x:="rungs_for") (st:=vR) (ps:=["rungs","n"]) 126 (by k_is) (by k_is) (by k_is) λ_ _ _ _ _ _=>pP λ_ _=>rfl
 have wO:=f_v B a4a
 have a4b:=ow X G base (x:="rounds") (st:=t5) (ps:=["P","table","n"]) 133 (by k_is) (by k_is) (by k_is) λ_ _ _ _ _ _=>gp λ_ _ _=>rfl
 have qR:=f_I B a4b qQ wN wO qP
 have a4c:=ow X G base (x:="setting") (st:=yr) (ps:=["many","x","form"]) 114 (by k_is) (by k_is) (by k_is) λ_ _ _ _ _ _=>gp λ_ _ _=>rfl
 have IE:=f_D B a4c qQ
 have a4d:=ow X G base (x:="table_of") (st:=r9) (ps:=["P","many","items"]) 147 (by k_is) (by k_is) (by k_is) λ_ _ _ _ _ _=>gp λ_ _ _=>rfl
 have a4e:=ow X G base (x:="table_of_item") (st:=HX) (ps:=["P","many","item"]) 140 (by k_is) (by k_is) (by k_is) λ_ _ _ _ _ _=>gp λ_ _ _=>rfl
 have RO:=f_y a4d a4e qQ qP qR IE
 have qT:=(RO 12).1
 have p_d:=(RO 12).2
 have a4f:=ow X G base (x:="kept") (st:=yK) (ps:=["P","many","items"]) 330 (by k_is) (by k_is) (by k_is) λ_ _ _ _ _ _=>gp λ_ _ _=>rfl
 have Jc:=f_U B a4f IF qS qO qT
 have a4g:=ow X G base (x:="brought_together") (st:=HZ) (ps:=["P","row","other"]) 282 (by k_is) (by k_is) (by k_is) λ_ _ _ _ _ _=>gp λ_ _ _=>rfl
 have IG:=f_a B a4g gI
 have a4h:=ow X G base (x:="shutting_row") (st:=H4) (ps:=["P","rows","goal"]) 287 (by k_is) (by k_is) (by k_is) λ_ _ _ _ _ _=>gp λ_ _ _=>rfl
 have IH:=f_h B a4h wM IG qS mY
 have a4i:=ow X G base (x:="weights_to") (st:=yG) (ps:=["P","rows","goal"]) 277 (by k_is) (by k_is) (by k_is) λ_ _ _ _ _ _=>gp λ_ _ _=>rfl
 have II:=f_r B a4i qS mY
 have a4j:=ow X G base (x:="solved") (st:=vX) (ps:=["P","rows","goal"]) 294 (by k_is) (by k_is) (by k_is) λ_ _ _ _ _ _=>gp λ_ _ _=>rfl
 have IJ:=f_K a4j IH II
 have a4k:=ow X G base (x:="with_one") (st:=v9) (ps:=["stand"]) 301 (by k_is) (by k_is) (by k_is) λ_ _ _ _ _ _=>qW λ_=>rfl
 have IK:=f_A B a4k
 have a4l:=ow X G base (x:="towards") (st:=uc) (ps:=["P","stands","goal"]) 306 (by k_is) (by k_is) (by k_is) λ_ _ _ _ _ _=>gp λ_ _ _=>rfl
 have wQ:=f_H a4l IJ IK
 have a4m:=ow X G base (x:="worth") (st:=yo) (ps:=["P","form","stand"]) 77 (by k_is) (by k_is) (by k_is) λ_ _ _ _ _ _=>gp λ_ _ _=>rfl
 have IL:=f_Q B a4m gI
 have a4n:=ow X G base (x:="turned") (st:=pz) (ps:=["P","table","stand"]) 82 (by k_is) (by k_is) (by k_is) λ_ _ _ _ _ _=>gp λ_ _ _=>rfl
 have iY:=f_L B a4n IL
 have a4o:=ow X G base (x:="hull") (st:=yN) (ps:=["P","many","items","stand"]) 313 (by k_is) (by k_is) (by k_is) λ_ _ _ _ _ _=>uL λ_ _ _ _=>rfl
 have IM:=f_X a4o qT wQ iY
 have a4p:=ow X G base (x:="placed") (st:=yO) (ps:=["P","many","items","stand","goal"]) 320 (by k_is) (by k_is) (by k_is) λ_ _ _ _ _ _=>Dy λ_ _ _ _ _=>rfl
 have Jd:=f_P a4p IM wQ
 have a4q:=ow X G base (x:="walked") (st:=uf) (ps:=["P","table","stand","count"]) 215 (by k_is) (by k_is) (by k_is) λ_ _ _ _ _ _=>uL λ_ _ _ _=>rfl
 have qU:=f_J B a4q iY
 have a4r:=ow X G base (x:="far_stands") (st:=H8) (ps:=["P","table","m","r","stand"]) 229 (by k_is) (by k_is) (by k_is) λ_ _ _ _ _ _=>Dy λ_ _ _ _ _=>rfl
 have IP:=f_l a4r qR iY qU
 have a4s:=ow X G base (x:="root_above") (st:=H9) (ps:=["r"]) 222 (by k_is) (by k_is) (by k_is) λ_ _ _ _ _ _=>qW λ_=>rfl
 have IQ:=f_m a4s
 have a4t:=ow X G base (x:="on_or_apart") (st:=y8) (ps:=["P","table","t","r","entry","goal"]) 236 (by k_is) (by k_is) (by k_is) λ_ _ _ _ _ _=>w7u λ_ _ _ _ _ _=>rfl
 have I0:=f_i B a4t IP IQ qU
 have a4u:=ow X G base (x:="climbed") (st:=ue) (ps:=["P","rungs","n","stand"]) 189 (by k_is) (by k_is) (by k_is) λ_ _ _ _ _ _=>uL λ_ _ _ _=>rfl
 have qV:=f_G a4u wO iY
 have a4v:=ow X G base (x:="parts_of_rings") (st:=H_) (ps:=["P","many"]) 168 (by k_is) (by k_is) (by k_is) λ_ _ _ _ _ _=>pP λ_ _=>rfl
 have IV:=f_c B a4v
 have a4w:=ow X G base (x:="least_divisor") (st:=Ia) (ps:=["n"]) 58 (by k_is) (by k_is) (by k_is) λ_ _ _ _ _ _=>qW λ_=>rfl
 have IS:=f_e a4w
 have a4x:=ow X G base (x:="without_prime") (st:=Ib) (ps:=["n","divisor"]) 154 (by k_is) (by k_is) (by k_is) λ_ _ _ _ _ _=>pP λ_ _=>rfl
 have IT:=f_f a4x
 have a4y:=ow X G base (x:="primes_of") (st:=yT) (ps:=["n"]) 161 (by k_is) (by k_is) (by k_is) λ_ _ _ _ _ _=>qW λ_=>rfl
 have IU:=f_x a4y IS IT
 have a4z:=ow X G base (x:="primes_of_parts") (st:=yZ) (ps:=["parts"]) 182 (by k_is) (by k_is) (by k_is) λ_ _ _ _ _ _=>qW λ_=>rfl
 have IW:=f_b B a4z IU
 have a5a:=ow X G base (x:="product") (st:=yX) (ps:=["parts"]) 175 (by k_is) (by k_is) (by k_is) λ_ _ _ _ _ _=>qW λ_=>rfl
 have IX:=f_F a5a
 have a5b:=ow X G base (x:="shortest") (st:=yV) (ps:=["P","rungs","n","primes","stand"]) 196 (by k_is) (by k_is) (by k_is) λ_ _ _ _ _ _=>Dy λ_ _ _ _ _=>rfl
 have IY:=f_C a5b qV
 have a5c:=ow X G base (x:="tail") (st:=yW) (ps:=["P","rungs","r","stand"]) 203 (by k_is) (by k_is) (by k_is) λ_ _ _ _ _ _=>uL λ_ _ _ _=>rfl
 have IZ:=f_V a5c qV iY
 have a5d:=ow X G base (x:="ring_of_table") (st:=y6) (ps:=["P","table","stand"]) 208 (by k_is) (by k_is) (by k_is) λ_ _ _ _ _ _=>gp λ_ _ _=>rfl
 have I8:=f_g B a5d qV wN IV IW IX IY IZ
 have a5e:=ow X G base (x:="reach") (st:=y9) (ps:=["P","many","items","stand","goal"]) 243 (by k_is) (by k_is) (by k_is) λ_ _ _ _ _ _=>Dy λ_ _ _ _ _=>rfl
 have Je:=f_S B a5e I0 I8 qR qT iY qU
 exact w7z (E:=⟨PySem.Challenge.rw_longrounds_k94_whole_what_bars_a_goal.prog,w,(KK w.params),mg,base⟩) B UL (UL.binds λ_ _ _ _ _ _=>qW λ_=>rfl) I9 wK I_ Ja Jb Jc Jd Je
end
end Row
open PySem PySem.W PyProof.Rows
set_option maxRecDepth 100000 in
set_option maxHeartbeats 0 in
theorem PySem.Challenge.cw_longrounds_k94_whole_what_bars_a_goal_holds : PySem.Challenge.rw_longrounds_k94_whole_what_bars_a_goal.Holds := by
 w_on;o_law
 refine PySem.W.holds_open (q:=TY Ks [67]) (loose:=HQ.a0x Ks) (Xt:=λs=>PySem.W.xlAt (TY Ks [67]) [] s&&PySem.W.recOk [] s) (XP:=PySem.W.XL (TY Ks [67]) []) (Yf:=λs=>Row.ks.map s.heap.get?) (Ya:=λw=>(Row.KK w.params).map λp:Addr×Obj=>some p.2) (YP:=PySem.W.InK Row.KK) (N:=40000) ?hl (PySem.W.InK.of (K:=Row.KK) (as:=Row.ks) λ_=>rfl) PySem.W.InK.keeps (λs e=>PySem.W.xl_of s (Bool.and_eq_true_iff.mp e).1) PySem.W.XL.keeps (by rfl) (by rfl) (by rfl) (λs e=>PySem.W.recFacts_of (Bool.and_eq_true_iff.mp e).2) (by rfl) (by assumption) (by decide +kernel) ⟨rfl,rfl,rfl,rfl,rfl,by decide +kernel⟩ ?hw ?hc
 case hl =>
  refine HQ.a0y (by kernel_rfl) (by kernel_rfl) (λs=>by kernel_rfl) ?_
  intro w os
  delta Row.KK Row.top
  rw[PySem.W.Fast.te5408095467410768276]
  kernel_rfl
 case hw=>w_witness2
 exact L3.Z1 (sp:=L3.wC L3.Cv) (l:=PySem.Challenge.rw_longrounds_k94_whole_what_bars_a_goal) (n:=63) (k:=20) (x:="script") (CX:=λw=>L3.qr PySem.Challenge.rw_longrounds_k94_whole_what_bars_a_goal.prog w) rfl (by decide) rfl ⟨rfl,by decide,by decide⟩ (K:=Row.KK) (λw h Y=>Y) (λw mg fa h KX G p6=>Row.all KX G p6) (λK H a ns hl hS=>L3.ZZ L3.YW hl hS) λw H s e s' h=>L3.Z0 h

