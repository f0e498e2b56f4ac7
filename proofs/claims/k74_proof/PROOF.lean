import PyProof.Rows.All
import Wide.All
import OpenK.AllK
import Wide.FinOn
import Lean
import PyProof.EqAt
import PyProof.EqKinds
import PyProof.TupleCall
import PySem.Challenge.RW_longrounds_k74_rings_of_nine
set_option Elab.async false
set_option linter.all false
set_option maxRecDepth 100000
set_option genSizeOf false
set_option maxHeartbeats 4000000
open Array renaming length_toList->gK,getElem?_eq_getElem->iU,getElem_toList->qK,getElem?_toList->uX,getD->Ku,replicate->Tp,append_assoc->a4k,toList_push->a7e,getElem?_eq_none->a7x,forIn_toList->a8o
open Bool renaming false_eq_true->gM,and_eq_true->jf,not_true->o_,false_ne_true->qw,or_eq_true->Kk,and_self->Su,false_and->a4n,eq_iff_iff->a6f
open Classical renaming byContradiction->Dm
open False renaming elim->cT
open ForInStep renaming yield->nQ
open Int renaming mul_assoc->e_,emod_eq_of_lt->jg,mul_comm->j_,mul_zero->kd,mul_le_mul->kG,mul_one->lq,pow_succ->ly,toNat_natCast->mq,zero_add->mr,zero_mul->mx,neg_mul->my,one_mul->nP,add_comm->oX,zero_emod->qE,eq_ofNat_of_zero_le->qF,mul_add->uJ,dvd_of_emod_eq_zero->uQ,emod_eq_zero_of_dvd->uR,pow_zero->xk,emod_add_mul_ediv->An,le_of_dvd->Aq,natCast_pow->Di,lt_trichotomy->Dk,lt_or_le->Dl,natCast_mul->Dq,le_refl->Dr,add_emod->JP,mul_emod->JQ,emod_nonneg->JR,emod_lt_of_pos->JS,mul_le_mul_of_nonneg_right->JX,sub_zero->JY,le_trans->Ka,sub_emod->R3,add_zero->R4,natCast_nonneg->R9,mul_neg_of_pos_of_neg->R_,add_mul->Sa,natCast_add->Sj,le_of_lt->Sk,mul_le_mul_of_nonneg_left->Sl,fdiv_eq_ediv_of_nonneg->a4r,natAbs_natCast->a5m,natCast_emod->a5q,mul_emod_left->a5r,ediv_nonneg->a5s,ediv_le_self->a5t,add_mul_emod_self_left->a6c,dvd_mul_of_dvd_right->a6d,mul_nonneg->a6e,ediv_eq_zero_of_lt->a6x
open List renaming length_map->bu,mem_cons_self->bB,range->bK,mem_cons_of_mem->bL,getElem?_eq_getElem->cf,getElem?_map->cm,map_cons->cJ,mem_append_right->c6,size_toArray->dc,length_cons->de,replicate->dD,getElem?_set_ne->fC,length_append->fD,mem_cons->fF,getElem?_eq_none->fK,mem_of_getElem?->fV,not_mem_nil->gN,getElem?_set_self->gY,mem_append_left->je,length_set->jJ,map_map->ka,append_nil->lu,map_append->lx,length_take->mj,getElem_mem->mw,mem_singleton->nN,replicate_succ->oU,getElem?_range->oW,all_eq_true->qD,getElem?_append_right->su,getElem?_append_left->sy,sum_cons->sD,append_assoc->uG,take_length->uI,range_succ->uK,map_congr_left->uL,length_nil->uM,mem_map->uO,filterMap_cons->wV,length_drop->wX,map_nil->wY,flatten_cons->w0,length_singleton->xc,drop_zero->xg,all_cons->xp,drop_length->Aj,take_add_one->Am,set_cons_zero->Ao,set_cons_succ->Ap,drop_eq_getElem_cons->Ay,of_mem_zip->C2,all_map->C8,take_of_length_le->C9,ext_getElem->Dc,map_set->De,mem_of_mem_take->Df,length_range->Dh,mem_or_eq_of_mem_set->Dj,map_drop->Dn,map_take->Dp,isEmpty_nil->DG,length->JI,getElem?_take_of_lt->JJ,range_succ_eq_map->JT,mem_range->JU,mem_append->JV,nil_append->JW,filter_cons_of_pos->JZ,filter_cons_of_neg->J2,getElem?_of_mem->J3,replicate_zero->Ke,findIdx?_cons->Kf,getElem?_replicate->RJ,cons_append->R6,length_zip->Sb,take_zero->Sm,pairwise_map->Sr,all_nil->Ss,map->SU,reverse_cons->a5e,foldl_cons->a5f,any_eq_true->a5j,mem_filterMap->a5k,mem_of_mem_drop->a5l,filter_cons->a5o,range_eq_range'->a5p,pairwise_singleton->a5u,filter_sublist->a5v,perm_cons_erase->a5w,length_erase_of_mem->a5x,mem_erase_of_ne->a5y,nodup_range->a5z,dropLast_concat_getLast->a6g,pairwise_lt_range->a6h,nodup_nil->a6o,take_append_drop->a7a,length_eraseIdx_of_lt->a7t,getElem?_toArray->a7u,map_filterMap->a7z
open List.Pairwise renaming nil->a5g
open List.Perm renaming cons->J4
open Nat renaming le_refl->a7,lt_or_ge->cG,lt_of_lt_of_le->cI,ne_of_lt->cN,le_trans->fB,zero_add->fE,zero_le->iT,lt_irrefl->jb,not_lt_zero->jK,ne_of_gt->mi,add_zero->nO,lt_succ_self->qx,le_of_lt->sj,mul_comm->sC,eq_zero_or_pos->sF,lt_trichotomy->uN,gcd->uP,mul_le_mul_right->uS,mod_lt->uT,lt_succ_of_lt->uW,le_of_dvd->xl,pow_zero->Ak,pow_succ->Al,add_comm->C5,lt_of_le_of_lt->C7,sub_zero->C_,sub_self->Dg,lt_trans->DA,div_add_mod->J_,mul_one->Kb,mul_left_comm->Kc,mul_div_cancel_left->Kd,le_of_eq->RF,le_of_not_lt->RX,min_eq_left->R1,two_pow_pos->R5,add_assoc->R7,zero_mul->R8,mul_zero->Sd,add_mul->Se,gcd_dvd_left->Sf,gcd_dvd_right->Sg,mod_eq_zero_of_dvd->Sh,pow_pos->Si,div_le_self->Sn,dvd_trans->So,min_eq_right->a5i,mod_eq_of_lt->a5n,mul_le_mul->a6b,le_succ_of_le->a6p,succ_le_succ->a6r,le_antisymm->a6s,le_of_lt_succ->a8m,le_add_right->a8r
open Nat.Coprime renaming dvd_of_dvd_mul_left->a6a
open Ne renaming symm->gJ
open Option renaming map_some->xh,getD_some->xj,getD_none->RV
open Option.some renaming inj->iQ,injEq->sE
open Or renaming inr->fb,inl->gZ
open Prod renaming fst->uV,snd->Ax
open Prod.mk renaming injEq->DB
open PyProof renaming noPylong_small->a4s
open PyProof.Rows renaming IntsAre->kF,AllBare->nD,firstMet->nU,IsTup->si,envOfC->sr,callWith_type1->uU,seqObj->uY,slot_tuple_getitem->JN,callWith_builtin1->Kh,Call_->Kj,boot_range->SD,firstMet_succ->SW,slicePart_none->a4x,entry_tuple_getitem->a5a,args_tuple_getitem->a5b,subscriptTail_builtinR->a5d,firstMet_length_le->a7f
open PyProof.Rows.F renaming plain_set_update_loop->AG,entry_set_update_loop->KC
open PyProof.Rows.IsTup renaming new->RS
open PySem renaming Shared->ai,wpAny->ax,wpAny_bind->ay,wpAny_mono->aC,model->aF,wpAny_pure->aM,World->aO,Program->aY,starEach->bA,intKind->bD,sizeLine->ck,backTo->cK,FuncData->cP,SetTable->cV,Scope->da,tupleKeyHash->dn,mainGlobals->dP,cLine->fU,spliced->gf,Builtin->g9,compEnvC->iB,pyNext->iR,binaryOp->iS,mem_of_lookup->jI,wpAny_passesOwn->jL,wpAny_holding->j9,relabel->lA,wpAny_Call_Name_kw->mB,sizeLine_eq->nE,codeAny->nG,NameKind->nJ,wpAny_field->nK,wpAny_call_entry->nM,bootBuiltins->oN,Model->oO,isTrue->oP,compareOp->oQ,wpAny_newObj_type->oR,codeAny_mono->oV,IsEnum->oZ,wpAny_setState_of->o9,assign->qt,pyIter->qu,Keyword->qz,IsPart->qA,Params->qC,backToKw->qH,keywordEach->qI,scanBound->qL,codeAny_builtin->qM,setNext->qN,bindL->uD,bindC->uE,wpAny_callSpecial?_slot->uF,callerA->uH,getItem->wW,sliceBounds->wZ,call_meets->w_,wpAny_pyIter_list->xq,wpAny_setField->xt,GenState->Ae,assignEach->Af,Result->Ah,wpAny_typeOf->Ai,holding->Ar,wpAny_call->Aw,lookup_relabel_local->Az,foldedSetIterable->AA,wpAny_execs_nil->AB,notedBy->AE,relayAll->AF,argsOk->AH,wpAny_attempt->AI,Drawn->CZ,wpAny_truthy_bool->Ds,Meets->Dt,swapsWith->Dw,wpAny_rule->Dy,plainId_quiet->DC,wants->DD,slotArgs->DF,wpAny_setEntries_of->DH,pickOrder->DI,wpAny_setField_rec->DJ,importedModules->DM,treeTable->DN,letOwnedTupleGo->JE,IsRangeIter->JF,behindInMarks->JG,concat_meets->JL,wpAny_ite_false->Kg,newList->Kl,wpAny_standAt->Km,attributeBase->Kn,wpAny_Call_method_late->Ko,wpAny_pyIter_enum->Ks,ElemsOf->Kx,wpAny_storeSet_of->Ky,fits_of_scanBound->Kz,setAddHashed->KA,setAdd->KD,codeAny_of_tree->KG,codeAny_call_builtin->KH,wpAny_fieldsOf->KI,wpAny_seqItems->KJ,IsEnumOut->KL,field->KN,builtinsNs->RB,wpAny_Name->RC,setItem->RD,bindArgs->RG,leaving->RH,cellsFrom->RI,noFill_tuple_add->RK,seq_tuple_add->RL,typeLookup->RQ,seqIndex_of->RT,seqIndex_neg->RU,call->RY,DictEntry->RZ,wpAny_BinOp->Sv,closureFor->SE,wpAny_comprehension_free->SF,compPost->SG,wpAny_Return_some->SH,wpAny_For->SJ,codeAny_forLoop_any->SK,noteFrame->SM,storeSet->SV,wpAny_of_eq->SX,wpAny_askSetting->SY,callAny->S0,weight_type_call_type->S_,wpAny_runValue->Ta,isSubtype_type->Tb,entryFor->Tc,signature?_of->Td,wpAny_isInstance->Tf,wpAny_pyIter_slot->Th,drawOrder->Ti,filterMap_getElem?_range->Tj,collect->Tn,storedH->To,wpAny_forIn_list->Tq,OsState->Tv,wpAny_assign_Name->a4m,wpAny_pyNext_range_end->a4o,wpAny_pyIter_rangeiter->a4p,wpAny_pyIter_range->a4q,recursionLimit->a4v,wpAny_sequenceKey->a4z,seqSlot_of->a6j,wpAny_tests_one->a6l,newFunctionEnv->a6m,wpAny_newFunctionEnv->a6n,wpAny_list_append_plain->a6q,codeAny_compStart_list->a6t,wpAny_execs_cons->a6u,wpAny_Assign_Name->a6v,wpAny_Expr_any->a6w,wpAny_letOwnedTupleGo_enum->a6z,setAddHashedIn->a7c,checkBuiltinCall->a7g,check_set_init_1->a7k,typeLookup_type->a7o,builtinLookup_eq_fast->a7p,entryFor_alias->a7q,firstArgMember->a7r,isSubtype_stop->a7s,wpAny_setEpoch_of->a7w,wpAny_newTuple->a7y,wpAny_specialOf->a8b,wpAny_updateSeq->a8f,ofAClassStatement->a8n,searchCouldBeSeen->a8p,wpAny_eqIsQuiet_tuple->a8q
open PySem.Around renaming under_plainId->xw,under_plain->S9
open PySem.AutoSeq1 renaming idx_int->Sw
open PySem.Builtin.Frozenset renaming updateFrom->a7n
open PySem.Builtin.Int renaming intBits->Kr
open PySem.Builtin.List renaming listTooLong->RW,listLengthHint->a8a,listExtendWith->a8d,listSameRef->a8e
open PySem.Builtin.Range renaming rangeSize->Ag,small->a6y
open PySem.Builtin.Slice renaming slicePlaces->JM,sliceAdjust->RP,sliceApplied->a4y
open PySem.Builtin.SmallTypes renaming ownedTupleIsFree->a8i,ownedTupleHandOut->a8j
open PySem.Builtin.Tuple renaming tupleExact->JO,tupleItemsOf->a5c,tupleTooMany->a6i
open PySem.Calls renaming spliced_cons->iA,spliced_nil->ke,callWith_builtin->Kp,evalArgs_plain->Kq,Name_function_global->a4l
open PySem.Code renaming quiet_builtin->S4
open PySem.F renaming slot_enumerate_next->KO,slot_tuple_add->RM,entry_tuple_add->RN,args_tuple_add_2->RO,slot_tuple_mul->Sy,entry_tuple_mul->Sz,args_tuple_mul_2->SA,plainAttrs_list->SI,entry_type_call->S8,slot_int_rmul->a6k,plain_set_new->a7h,typeCall_set_1->a7i,entry_set_init->a7j,sub_list_set->a7l,sub_list_frozenset->a7m,slot_set_iter->a7v,plain_list_iadd->a8c,slot_list_index->a8g,entry_enumerate_next->a8k,args_enumerate_next_1->a8l
open PySem.Heap renaming lt_size->bE,get?_push_of_some->bP,get?_push_size->dQ,size_push->iw,SameBut->qr,get?_update_self->sA,get?_none_of_le->Ad,get?_update_other->C4
open PySem.Heap.SameBut renaming update->o8,refl->a7d
open PySem.NameKind renaming free->qG
open PySem.Obj renaming putSet->o7,mapSeq->qB,data_mapFields->qJ,mapFields->xr,isFreed_of_fields->Dx,cls_mapFields->Tg
open PySem.PyData renaming eqv->oY,canLay0->sG,depth->As,canLayAll0->Au,depthAll->Av,eqvAll->Du
open PySem.SeqAt renaming readOf->a8h
open PySem.SetTable renaming leap->eK,below->fc,runEnd->gj,bits->iV,Probe->jh,insertAt->kH,turns->qO,grown->sH,slot->Kv,laid->Kw,toList_insertAt->SQ,has->SR,layClean->SS,relaid->a7b
open PySem.SetTable.below renaming go->Kt
open PySem.SetTable.layClean renaming free->DL
open PySem.SetTable.probe renaming go->nR
open PySem.Shared renaming TypeIs->DE
open PySem.Str renaming ofString->cU
open PySem.Value renaming ref->c_,none->kE,int->lh,type->sg,isInt->Jz,str->JA,bool->JB
open PySem.W renaming Frag->aD,boot_heap->jN,nsIn->mz,findIn->uB,emptyDict->uC,instObj->wU,kia_one->xu,kitOne->AD,SharedT->AJ,keepIn->C0,fnOf->C3,mg_of->C6,mroIn->JH,codeIn->JK,callWith_K->Ki,through->KP,methodObj->RA,lookIn->RE,excIn->SN,staticsOk->Tr,namesBound->Ts,gensDone->Tt,laidKept->Tu,topFrom->Tw,view->Tx,plainGet->a4t,specialIn->a4u,cellsFrom_some->a4w,OpenLaw->a5h
open PySem.Walks renaming list->SO
open Sum renaming inl->wQ,inr->wR
open True renaming intro->C1
noncomputable section
namespace L2
open PySem PySem.Spec PyProof.Rows
abbrev Key:=Sum Int Str
def KQ:Key->Value->Bool
 | .inl k,v=>Jz k v
 | .inr x,v=>Value.isStrOf x v
def Tz(w:aO):Key->Int
 | .inl k=>hashInt k
 | .inr x=>hashStr w x
theorem pa:∀{k:Key} {v:Value},KQ k v=true->(∃i t,k=wQ i/\v=lh i t)∨(∃x t,k=wR x/\v=JA x t)
 | .inl i,v,h=>by
   obtain⟨t,e⟩:=Value.isInt_shape (k:=i) (v:=v) h
   exact .inl ⟨i,t,rfl,e⟩
 | .inr x,v,h=>by
   obtain⟨t,e⟩:=Value.isStrOf_shape (x:=x) (v:=v) h
   exact .inr ⟨x,t,rfl,e⟩
theorem TB(a b:Int):decide ((wQ a:Key)=wQ b)=(a==b):=by
 by_cases e:a=b
 ·subst e;simp
 ·have h:¬(wQ a:Key)=wQ b:=λq=>e (Sum.inl.inj q)
  rw[decide_eq_false h]
  exact(beq_eq_false_iff_ne.mpr e).symm
theorem TC(a b:Str):decide ((wR a:Key)=wR b)=decide (a=b):=by
 by_cases e:a=b
 ·subst e;simp
 ·have h:¬(wR a:Key)=wR b:=λq=>e (Sum.inr.inj q)
  rw[decide_eq_false h,decide_eq_false e]
theorem TF(a:Int)(b:Str):decide ((wQ a:Key)=wR b)=false:=decide_eq_false (λq=>nomatch q)
theorem TH(a:Str)(b:Int):decide ((wR a:Key)=wQ b)=false:=decide_eq_false (λq=>nomatch q)
def KR(prog:aY)(w:aO):PySem.KeyKind prog w Key where
 is:=KQ
 hash:=Tz w
 inj:=λv a b ha hb=>by
  rcases pa ha with ⟨i,t,rfl,rfl⟩ | ⟨x,t,rfl,rfl⟩
  ·rcases pa hb with ⟨j,u,rfl,e⟩ | ⟨y,u,rfl,e⟩
   ·injection e with e1 _;rw[e1]
   ·exact nomatch e
  ·rcases pa hb with ⟨j,u,rfl,e⟩ | ⟨y,u,rfl,e⟩
   ·exact nomatch e
   ·injection e with e1 _;rw[e1]
 byValue:=λk v h=>by
  rcases pa h with ⟨i,t,rfl,rfl⟩ | ⟨x,t,rfl,rfl⟩<;>rfl
 pyHash:=λhv h=>by
  rcases pa hv with ⟨i,t,rfl,rfl⟩ | ⟨x,t,rfl,rfl⟩
  ·exact wpAny_pyHash_int h
  ·exact wpAny_pyHash_str h
 eqBool:=λhu hv h=>by
  rcases pa hu with ⟨i,t,rfl,rfl⟩ | ⟨x,t,rfl,rfl⟩
  ·rcases pa hv with ⟨j,u,rfl,rfl⟩ | ⟨y,u,rfl,rfl⟩
   ·rw[TB] at h;exact wpAny_eqBool_int h
   ·rw[TF] at h;exact SeqAt.EqAt.int_str i t y u _ _ _ _ h
  ·rcases pa hv with ⟨j,u,rfl,rfl⟩ | ⟨y,u,rfl,rfl⟩
   ·rw[TH] at h;exact SeqAt.EqAt.str_int x t j u _ _ _ _ h
   ·rw[TC] at h;exact wpAny_eqBool_str h
 «strs»:=λk x t v h=>by
  rcases pa h with ⟨i,u,rfl,e⟩ | ⟨y,u,rfl,e⟩
  ·exact nomatch e
  ·injection e with e1 _
   subst e1
   cases v<;>rfl
end L2
namespace L2
open PySem PySem.Spec PyProof.Rows
inductive V where
 | b_ | bl (b:Bool) | int (i:Int) | str (x:Str) | DO (b:Array UInt8) | xx (b:UInt64) | ref (a:Addr) | ty (n:String)
 deriving DecidableEq
def RelV:V->Value->Prop
 | .b_,u=>u=kE
 | .bl b,u=>u=JB b
 | .int i,u=>∃t,u=lh i t
 | .str x,u=>∃t,u=JA x t
 | .DO b,u=>∃t,u=Value.bytes b t
 | .xx b,u=>∃t,u=Value.float b t
 | .ref a,u=>u=c_ a
 | .ty n,u=>u=sg n
abbrev Vals:List V->List Value->Prop:=Paired RelV
theorem Vals.length{xs:List V}{us:List Value}(r:Vals xs us):xs.length=us.length:=Paired.length r
theorem Vals.get:∀{xs:List V} {us:List Value} {i:Nat} {x:V},Vals xs us->xs[i]? = some x->∃u,us[i]? = some u/\RelV x u
 | _,_,_,_,.nil,e=>by simp at e
 | _,_,0,_,.cons r _,e=>by simp at e;subst e;exact⟨_,rfl,r⟩
 | _,_,i+1,x,.cons _ t,e=>by
   obtain⟨u,h1,h2⟩:=Vals.get (i:=i) (x:=x) t (by simpa using e)
   exact⟨u,by simpa using h1,h2⟩
theorem Vals.set{x:V}{u:Value}(r:RelV x u):∀{xs:List V} {us:List Value} (i:Nat),Vals xs us->Vals (xs.set i x) (us.set i u)
 | _,_,_,.nil=>.nil
 | _,_,0,.cons _ t=>.cons r t
 | _,_,i+1,.cons q t=>.cons q (Vals.set r i t)
theorem Vals.append:∀{xs ys:List V} {us ws:List Value},Vals xs us->Vals ys ws->Vals (xs++ys) (us++ws)
 | _,_,_,_,.nil,s=>s
 | _,_,_,_,.cons r t,s=>.cons r (Vals.append t s)
theorem Vals.take:∀{xs:List V} {us:List Value} (n:Nat),Vals xs us->Vals (xs.take n) (us.take n)
 | _,_,0,_=>.nil
 | _,_,_+1,.nil=>.nil
 | _,_,n+1,.cons r t=>.cons r (Vals.take n t)
theorem Vals.drop:∀{xs:List V} {us:List Value} (n:Nat),Vals xs us->Vals (xs.drop n) (us.drop n)
 | _,_,0,r=>r
 | _,_,_+1,.nil=>.nil
 | _,_,n+1,.cons _ t=>Vals.drop n t
def KS:Option V->Option Value->Prop
 | some v,some u=>RelV v u
 | none,none=>True
 | _,_=>False
def KV{κ:Type}:List (κ×V)->List (κ×Value)->Prop:=Paired λ(p:κ×V) (q:κ×Value)=>p.1=q.1/\RelV p.2 q.2
def kV:Key->V
 | .inl i=>.int i
 | .inr x=>.str x
inductive HO where
 | lst (xs:List V)
 | tup (xs:List V)
 | dK (fe:List (Key×V)) | dT (fe:List (List Key×V))
 | set (S:Int->Bool) (n:Nat)
 | ins (C dx:Addr) (fs:List (Str×V))
 | own (x:Addr)
 | xd (fs:List (Str×V))
 | met (f x:Addr)
 | AK (lo hi:Int)
 | fh (o:Obj) (u:HO)
 | qP (ps:Array Value)
 | ext (φ:Heap->Prop)
abbrev Hp:=Addr->Option HO
def upd(H:Hp)(a:Addr)(o:HO):Hp:=λb=>if b=a then some o else H b
theorem dI{H:Hp}{a:Addr}{o:HO}:upd H a o a=some o:=by unfold upd;rw[if_pos rfl]
theorem bS{H:Hp}{a b:Addr}{o:HO}(h:b≠a):upd H a o b=H b:=by unfold upd;rw[if_neg h]
theorem g_{H:Hp}{a b:Addr}{o:HO}(h:H a=some o)(h':H b=none):a≠b:=by
 intro e;subst e;rw[h] at h';cases h'
section
variable (P:aY)(w:aO)
def iW(H:Hp)(h:Heap)(a:Addr):HO->Prop
 | .lst xs=>xs.length<=ck/\∃(its:List Value) (n:Nat),Vals xs its/\h.get? a=some { cls:=.type "list",data:=.seq its.toArray n }
 | .tup xs=>xs.length<=ck/\∃its:List Value,Vals xs its/\si h a its.toArray
 | .dK fe=>fe.length<=ck/\(a==sysModules)=false/\∃vs,KV fe vs/\h.DictOf (KR P w) a vs
 | .dT fe=>fe.length<=ck/\(a==sysModules)=false/\∃xs:List (List Key×Addr×Value),
    Paired (λ(p:List Key×V) (q:List Key×Addr×Value)=>p.1=q.1/\H q.2.1=some (.tup (p.1.map kV))/\RelV p.2 q.2.2) fe xs /\
    ∃o es ep,h.get? a=some o/\o.ExactDict/\o.data = .dict es ep/\es.toList=xs.map (entryOfKey (tupleKind (KR P w)))/\(xs.map (·.1)).Nodup
 | .set S n=>h.SetOf (bD P w) a S n
 | .ins C dx fs=>H dx=some (.own a)/\fs.length<=1000/\dx≠a/\h.get? a=some (wU C dx) /\
    ∃mA,h.Ns1 dx mA/\(∀f,KS (fs.lookup f) (mA f))/\PySem.Within mA (fs.map (·.1))
 | .own _=>∃o,h.get? a=some o
 | .xd fs=>∃mA,h.Ns1 a mA/\∀f,KS (fs.lookup f) (mA f)
 | .AK lo hi=>∃t u v,h.get? a=some { cls:=.type "range",data:=.fields #[.int lo t,.int hi u,.int 1 v] }
 | .fh o u=>h.get? a=some o/\iW H h a u
 | .qP ps=>h.get? a=some { cls:=.none,data:=.fields ps }
 | .met f x=>h.get? a=some (RA (.ref f) (.ref x))
 | .ext φ=>φ h/\(∃o,h.get? a=some o)/\∀h1 h2:Heap,φ h1->(∀o,h1.get? a=some o->h2.get? a=some o)->φ h2
def dq(H:Hp)(h:Heap):Prop:=∀a o,H a=some o->iW P w H h a o
end
section
variable {P:aY}{w:aO}{H H':Hp}{h h':Heap}{a:Addr}{o:HO}
theorem iW.lt(x:iW P w H h a o):a<h.objs.size:=by
 cases o with
 | lst xs=>obtain⟨_,_,_,_,e⟩:=x;exact bE e
 | tup xs=>obtain⟨_,_,_,p⟩:=x;exact p.lt
 | dK fe=>obtain⟨_,_,_,_,o,_,_,e,_⟩:=x;exact bE e
 | dT fe=>obtain⟨_,_,_,_,o,_,_,e,_⟩:=x;exact bE e
 | set S n=>obtain⟨o,_,_,_,e,_⟩:=x;exact bE e
 | ins C dx fs=>obtain⟨_,_,_,e,_⟩:=x;exact bE e
 | own y=>obtain⟨_,e⟩:=x;exact bE e
 | xd fs=>obtain⟨_,⟨_,_,_,e,_⟩,_⟩:=x;exact bE e
 | AK lo hi=>obtain⟨_,_,_,e⟩:=x;exact bE e
 | fh ob u=>obtain⟨e,_⟩:=x;exact bE e
 | qP ps=>exact bE (show h.get? a=some _ from x)
 | met f y=>exact bE (show h.get? a=some _ from x)
 | ext φ=>obtain⟨_,⟨_,e⟩,_⟩:=x;exact bE e
theorem Paired.KU{α β:Type}{F G:α->β->Prop}:∀{l₁:List α} {l₂:List β},Paired F l₁ l₂->(∀a b,F a b->G a b)->Paired G l₁ l₂
 | _,_,.nil,_=>.nil
 | _,_,.cons r t,f=>.cons (f _ _ r) (Paired.KU t f)
theorem iW.mD(x:iW P w H h a o)(k:∀b u,(b=a∨H b=some (.own a))->h.get? b=some u->h'.get? b=some u)
 (ho:∀b,H b=some (.own a)->H' b=some (.own a)) (ht:∀b xs,H b=some (.tup xs)->H' b=some (.tup xs)):iW P w H' h' a o:=by
 induction o with
 | lst xs=>obtain⟨z,its,n,r,e⟩:=x;exact⟨z,its,n,r,k _ _ (.inl rfl) e⟩
 | tup xs=>obtain⟨z,its,r,ob,e,c⟩:=x;exact⟨z,its,r,ob,k _ _ (.inl rfl) e,c⟩
 | dK fe=>obtain⟨z,y,vs,r,ob,es,ep,e,c⟩:=x;exact⟨z,y,vs,r,ob,es,ep,k _ _ (.inl rfl) e,c⟩
 | dT fe =>
   obtain⟨z,y,xs,r,ob,es,ep,e,c⟩:=x
   exact⟨z,y,xs,Paired.KU r λp q z=>⟨z.1,ht _ _ z.2.1,z.2.2⟩,ob,es,ep,k _ _ (.inl rfl) e,c⟩
 | set S n=>obtain⟨ob,es,ep,t,e,c⟩:=x;exact⟨ob,es,ep,t,k _ _ (.inl rfl) e,c⟩
 | ins C dx fs =>
   obtain⟨d,z,ne,e,mA,⟨od,es,ep,e2,c⟩,r⟩:=x
   exact⟨ho _ d,z,ne,k _ _ (.inl rfl) e,mA,⟨od,es,ep,k _ _ (.inr d) e2,c⟩,r⟩
 | own y=>obtain⟨ob,e⟩:=x;exact⟨ob,k _ _ (.inl rfl) e⟩
 | xd fs=>obtain⟨mA,⟨od,es,ep,e,c⟩,r⟩:=x;exact⟨mA,⟨od,es,ep,k _ _ (.inl rfl) e,c⟩,r⟩
 | AK lo hi=>obtain⟨t,u,v,e⟩:=x;exact⟨t,u,v,k _ _ (.inl rfl) e⟩
 | fh ob u ih=>obtain⟨e,q⟩:=x;exact⟨k _ _ (.inl rfl) e,ih q⟩
 | qP ps =>
   have e:h.get? a=some { cls:=.none,data:=.fields ps }:=x
   show h'.get? a=some { cls:=.none,data:=.fields ps }
   exact k a _ (.inl rfl) e
 | met f y =>
   have e:h.get? a=some (RA (.ref f) (.ref y)):=x
   show h'.get? a=some (RA (.ref f) (.ref y))
   exact k a _ (.inl rfl) e
 | ext φ=>obtain⟨p,⟨o,e⟩,st⟩:=x;exact⟨st _ _ p λo q=>k _ _ (.inl rfl) q,⟨o,k _ _ (.inl rfl) e⟩,st⟩
theorem dq.lt(x:dq P w H h)(e:H a=some o):a<h.objs.size:=(x a o e).lt
theorem dq.fresh(x:dq P w H h)(e:h.objs.size<=a):H a=none:=by
 cases q:H a with
 | none=>rfl
 | some u=>exact absurd (cI (x.lt q) e) (jb _)
theorem dq.kept(x:dq P w H h)(k:∀b u,h.get? b=some u->h'.get? b=some u):dq P w H h':=λa o e =>
 (x a o e).mD (λb u _ q=>k b u q) (λ_ q=>q) λ_ _ q=>q
theorem dq.laid(x:dq P w H h)(k:∀b u,h.get? b=some u->h'.get? b=some u)(hp:h.objs.size<=a)(new:iW P w (upd H a o) h' a o):dq P w (upd H a o) h':=λb u e=>by
 have hn:=x.fresh hp
 by_cases hb:b=a
 ·subst hb;rw[dI] at e;cases e;exact new
 ·rw[bS hb] at e
  exact(x b u e).mD (λc v _ q=>k c v q) (λc q=>by rw[bS (g_ q hn)];exact q) λc xs q=>by rw[bS (g_ q hn)];exact q
end
def Rd(H:Hp)(a:Addr)(u:HO):Prop:=H a=some u∨∃o,H a=some (.fh o u)
theorem Rd.of{H:Hp}{a:Addr}{u:HO}(h:H a=some u):Rd H a u:=.inl h
theorem Rd.ok{P:aY}{w:aO}{H:Hp}{h:Heap}{a:Addr}{u:HO}(r:Rd H a u)(x:dq P w H h):iW P w H h a u:=by
 rcases r with r | ⟨o,r⟩
 ·exact x a u r
 ·obtain⟨_,q⟩:=x a _ r
  exact q
def AL:Option HO->Prop
 | some (.lst _)=>True
 | some (.dK _)=>True
 | some (.dT _)=>True
 | some (.set _ _)=>True
 | some (.ins _ _ _)=>True
 | some (.ext _)=>True
 | _=>False
section
variable {P:aY}{w:aO}{H:Hp}{h h':Heap}{x e:Addr}{o':HO}
theorem dq.write(ok:dq P w H h)(mu:AL (H x))(he:e=x∨H e=some (.own x))(k:∀b u,b≠e->h.get? b=some u->h'.get? b=some u)(uZ:∃u,h'.get? e=some u)
 (new:iW P w (upd H x o') h' x o'):dq P w (upd H x o') h':=λb u q=>by
 have KW:∀c y,H c=some (.own y)->c≠x:=λc y r z=>by subst z;rw[r] at mu;exact mu
 have TJ:∀c xs,H c=some (.tup xs)->c≠x:=λc xs r z=>by subst z;rw[r] at mu;exact mu
 by_cases hb:b=x
 ·subst hb;rw[dI] at q;cases q;exact new
 ·rw[bS hb] at q
  by_cases sI:b=e
  ·have q':H b=some (.own x):=by
    rcases he with z | z
    ·exact absurd (sI.trans z) hb
    ·rw[sI];exact z
   rw[q] at q';cases q'
   obtain⟨v,hv⟩:=uZ
   exact⟨v,by rw[sI];exact hv⟩
  ·refine(ok b u q).mD (λc v hc r=>k c v ?_ r) (λc r=>by rw[bS (KW c b r)];exact r) λc xs r=>by rw[bS (TJ c xs r)];exact r
   rcases hc with rfl | hc
   ·exact sI
   ·rintro rfl
    rcases he with z | z
    ·exact KW c b hc z
    ·rw[hc] at z;cases z;exact hb rfl
end
structure Un (fs ex:List Addr) (H H':Hp) (h h':Heap):Prop where
 keep:∀b o,h.get? b=some o->H b=none->b ∉ fs->b ∉ ex->h'.get? b=some o
 slot:∀b o,h.get? b=some o->H b=none->b∈fs->b ∉ ex->∃sl,h'.get? b=some { o with slots:=sl }
 free:∀b o,h.get? b=some o->H b=none->b ∉ ex->H' b=none
 there:∀b o,h.get? b=some o->b ∉ ex->∃o',h'.get? b=some o'
 jO:∀b xs,H b=some (.tup xs)->H' b=some (.tup xs)
 ji:∀b o u,H b=some (.fh o u)->H' b=some (.fh o u)
 jP:∀b ps,H b=some (.qP ps)->∃more,H' b=some (.qP (ps++more))
section
variable {fs DP ex KY:List Addr}{H H1 H2:Hp}{h h1 h2 h':Heap}{a x e:Addr}{o:HO}
theorem Un.any(u:Un fs ex H H1 h h1){b:Addr}{ob:Obj}(q:h.get? b=some ob)(n:H b=none)(hx:b ∉ ex):∃sl,h1.get? b=some { ob with slots:=sl }:=by
 by_cases hb:b∈fs
 ·exact u.slot b ob q n hb hx
 ·exact⟨ob.slots,u.keep b ob q n hb hx⟩
theorem Un.trans(a:Un fs ex H H1 h h1)(b:Un fs ex H1 H2 h1 h2):Un fs ex H H2 h h2 where
 keep:=λc ob q n hc hx=>b.keep c ob (a.keep c ob q n hc hx) (a.free c ob q n hx) hc hx
 slot:=λc ob q n hc hx=>by
  obtain⟨sl,e1⟩:=a.slot c ob q n hc hx
  obtain⟨AM,e2⟩:=b.slot c _ e1 (a.free c ob q n hx) hc hx
  exact⟨AM,e2⟩
 free:=λc ob q n hx=>by
  obtain⟨o',e1⟩:=a.there c ob q hx
  exact b.free c o' e1 (a.free c ob q n hx) hx
 there:=λc ob q hx=>by
  obtain⟨o',e1⟩:=a.there c ob q hx
  exact b.there c o' e1 hx
 jO:=λc xs q=>b.jO c xs (a.jO c xs q)
 ji:=λc ob xs q=>b.ji c ob xs (a.ji c ob xs q)
 jP:=λc ps q=>by
  obtain⟨m1,e1⟩:=a.jP c ps q
  obtain⟨m2,e2⟩:=b.jP c _ e1
  exact⟨m1++m2,by rw[e2,a4k]⟩
theorem Un.kept(k:∀b u,h.get? b=some u->h'.get? b=some u):Un fs ex H H h h' :=
 ⟨λb ob q _ _ _=>k b ob q,λb ob q _ _ _=>⟨ob.slots,k b ob q⟩,λ_ _ _ n _=>n,λb ob q _=>⟨ob,k b ob q⟩,λ_ _ q=>q,λ_ _ _ q=>q,λ_ ps q=>⟨#[],by rw[q];simp⟩⟩
theorem Un.refl:Un fs ex H H h h:=Un.kept λ_ _ q=>q
theorem Un.laid(k:∀b u,h.get? b=some u->h'.get? b=some u)(hp:h.objs.size<=a)(hn:H a=none):Un fs ex H (upd H a o) h h' where
 keep:=λb u q _ _ _=>k b u q
 slot:=λb u q _ _ _=>⟨u.slots,k b u q⟩
 free:=λb u q n _=>by rw[bS (cN (cI (bE q) hp))];exact n
 there:=λb u q _=>⟨u,k b u q⟩
 jO:=λb xs q=>by rw[bS (g_ q hn)];exact q
 ji:=λb u xs q=>by rw[bS (g_ q hn)];exact q
 jP:=λb ps q=>⟨#[],by rw[bS (g_ q hn),q];simp⟩
theorem Un.write(mu:AL (H x))(he:e=x∨H e=some (.own x))(k:∀b u,b≠e->h.get? b=some u->h'.get? b=some u)(uZ:∃u,h'.get? e=some u):Un fs ex H (upd H x o) h h':=by
 have hx:∀b,H b=none->b≠x:=λb n z=>by subst z;rw[n] at mu;exact mu
 have hb:∀b,H b=none->b≠e:=λb n z=>by
  subst z
  rcases he with r | r
  ·exact hx b n r
  ·rw[n] at r;cases r
 have hm:∀b u,H b=some u->¬AL (some u)->b≠x:=λb u q nm z=>by subst z;rw[q] at mu;exact nm mu
 refine⟨λb u q n _ _=>k b u (hb b n) q,λb u q n _ _=>⟨u.slots,k b u (hb b n) q⟩,λb u q n _=>by rw[bS (hx b n)];exact n,λb u q _=>?_,
  λb xs q=>by rw[bS (hm b _ q λz=>z)];exact q,λb u xs q=>by rw[bS (hm b _ q λz=>z)];exact q,λb ps q=>⟨#[],by rw[bS (hm b _ q λz=>z),q];simp⟩⟩
 by_cases sI:b=e
 ·subst sI;exact uZ
 ·exact⟨u,k b u sI q⟩
theorem Un.mono(u:Un fs ex H H1 h h1)(hs:∀b∈fs,b∈DP)(hx:∀b∈ex,b∈KY):Un DP KY H H1 h h1 :=
 ⟨λb ob q n hb he=>u.keep b ob q n (λz=>hb (hs b z)) λz=>he (hx b z),λ_ _ q n _ he=>u.any q n λz=>he (hx _ z),λb ob q n he=>u.free b ob q n λz=>he (hx b z),λb ob q he=>u.there b ob q λz=>he (hx b z),u.jO,u.ji,u.jP⟩
end
def AN(h:Heap)(H:Hp):List Addr:=(bK h.objs.size).filter λa=>(H a).isSome
def jj(h:Heap)(H:Hp):Heap:=PySem.W.hideAll h (AN h H)
theorem TK(h:Heap)(H:Hp):(jj h H).objs.size=h.objs.size:=PySem.W.hideAll_size _ _
theorem DQ{h:Heap}{H:Hp}{b:Addr}{o:Obj}(e:h.get? b=some o)(n:H b=none):(jj h H).get? b=some o :=
 PySem.W.hideAll_get _ e λhm=>by
  have q:(H b).isSome=true:=(List.mem_filter.mp hm).2
  rw[n] at q;simp at q
theorem DR{h:Heap}{H:Hp}{b:Addr}{o:Obj}(e:(jj h H).get? b=some o):h.get? b=some o/\H b=none:=by
 have e':h.get? b=some o:=PySem.W.of_hideAll (AN h H) e
 refine⟨e',?_⟩
 cases q:H b with
 | none=>rfl
 | some x =>
   have hm:b∈AN h H:=List.mem_filter.mpr ⟨List.mem_range.mpr (bE e'),by simp[q]⟩
   have z:(jj h H).get? b=none:=PySem.W.hideAll_none (AN h H) hm
   rw[z] at e;cases e
def TL(g h:Heap)(L:Addr):List (Addr×Obj):=(bK h.objs.size).filterMap λa=>if a=L∨(g.get? a).isSome=true then none else (h.get? a).map λo=>(a,o)
def rest(g h:Heap)(L d:Addr):List (Addr×Obj):=(TL g h L).filter λp=>decide (p.1≠d)
end L2
namespace L2
open PySem PySem.Spec PyProof.Rows
structure Mod (K:aD) (mg:Str->Option Value) (base:Heap):Prop where
 sJ:K.In base
 glob:base.Ns dP mg
 blt:∃mb,base.Ns RB mb/\∀x:Str,x≠"__name__"->mb x=oN x
 nolimit:base.NoLimit
structure Cx where
 prog:aY
 w:aO
 K:aD
 mg:Str->Option Value
 base:Heap
 A:Around
 N:List Str
 s₀:ai
 H₀:Hp
 env:Env
 outer:List Env
 stack:List Env
 ex:List Addr
 fn:Str->Bool
 calm:Bool
 pn:List (Addr×Obj)
 xe:Value->ai->Prop
def cW(l:List Env):List Addr:=l.filterMap (·.frame)
abbrev Cx.fs (X:Cx):List Addr:=cW X.outer
def nV(sc:da)(x:Str):Prop:=sc.names.lookup x=some .local∨sc.names.lookup x=some .cell∨sc.names.lookup x=some .free
def Loc(sc:da)(x:Str):Prop:=sc.names.lookup x=some .local∨sc.names.lookup x=some .cell
def Look(env:Env)(h:Heap)(m:Str->Option Value)(x:Str)(u:Value):Prop :=
 (env.kindOf x=some .local/\m x=some u)∨((env.kindOf x=some .cell∨env.kindOf x=some .free)/\∃c,env.cells.lookup x=some c/\h.IsCell c (some u))
structure Cx.Ok (X:Cx):Prop where
 mod:Mod X.K X.mg X.base
 kind:X.env.scope.kind = .function
 glob:X.env.globals=dP
 blt:X.env.builtins=RB
 above:X.s₀.heap.objs.size<=X.env.locals
 inj:∀x y c,X.env.cells.lookup x=some c->X.env.cells.lookup y=some c->x=y
 has:∀x,(X.env.kindOf x=some .cell∨X.env.kindOf x=some .free)->∃c,X.env.cells.lookup x=some c
 xy:∀x c,X.fn x=true->X.env.cells.lookup x=some c->X.s₀.heap.objs.size<=c
 hd:X.calm=true->X.A.handled=none
 frames:X.A.frames=some X.stack
 AO:X.stack=X.outer∨(X.stack=X.env::X.outer/\X.env.frame=some X.env.locals)
 KZ:∀b∈X.ex,b≠X.env.locals/\∀x c,X.env.cells.lookup x=some c->c≠b
 bs:∀b o,X.base.get? b=some o->X.s₀.heap.get? b=some o/\X.H₀ b=none
 kI:X.base.objs.size<=X.s₀.heap.objs.size
 u9:∀b o,X.base.get? b=some o->b ∉ X.ex
 AP:∀b∈X.ex,b ∉ X.fs
 kJ:X.s₀.heap.FunFrames X.base X.outer
 pb:∀b∈X.fs,X.H₀ b=none
structure Inv (X:Cx) (pins:List (Addr×Obj)) (σ:List (Option V)) (H:Hp) (s:ai):Prop where
 ok:X.Ok
 os:s.os=X.s₀.os
 bare:nD s.gens
 base:Un X.fs X.ex X.H₀ H X.s₀.heap s.heap
 loc:∃m,s.heap.Ns X.env.locals m/\∀(i:Nat) (x:Str) (v:V),X.N[i]? = some x->σ[i]? = some (some v)->nV X.env.scope x->∃u,RelV v u/\Look X.env s.heap m x u
 cell:∀x c,X.env.cells.lookup x=some c->∃v,s.heap.IsCell c v
 free:H X.env.locals=none
 mE:∀x c,X.env.cells.lookup x=some c->H c=none
 pin:∀p∈X.pn++pins,s.heap.get? p.1=some p.2/\H p.1=none/\p.1≠X.env.locals/\p.1 ∉ X.fs/\∀v,p.2.data ≠ .cell v
 aS:dq X.prog X.w H s.heap
 len:σ.length=X.N.length
section
variable {X:Cx}{pins:List (Addr×Obj)}{σ:List (Option V)}{H H':Hp}{s:ai}{h':Heap}
theorem Cx.Ok.TM(ok:X.Ok){b:Addr}{o:Obj}(e:X.base.get? b=some o):b ∉ X.fs:=λhb=>by
 have:=(ok.kJ.mem hb).1
 rw[e] at this;cases this
theorem Inv.bs(I:Inv X pins σ H s):∀b o,X.base.get? b=some o->s.heap.get? b=some o/\H b=none:=λb o e =>
 ⟨I.base.keep b o (I.ok.bs b o e).1 (I.ok.bs b o e).2 (I.ok.TM e) (I.ok.u9 b o e),I.base.free b o (I.ok.bs b o e).1 (I.ok.bs b o e).2 (I.ok.u9 b o e)⟩
theorem Inv.bk(I:Inv X pins σ H s):∀b o,X.base.get? b=some o->s.heap.get? b=some o:=λb o e=>(I.bs b o e).1
theorem Inv.mod(I:Inv X pins σ H s):Mod X.K X.mg X.base:=I.ok.mod
theorem Inv.iD(I:Inv X pins σ H s):X.K.In s.heap:=I.ok.mod.sJ.keeps I.bk
theorem Inv.nolimit(I:Inv X pins σ H s):s.heap.NoLimit:=I.ok.mod.nolimit.keeps I.bk
theorem Inv.fr(I:Inv X pins σ H s):∃m,Fr X.base X.env.locals s.heap m :=
 let ⟨m,hn,_⟩:=I.loc
 ⟨m,hn,I.bk,fB I.ok.kI I.ok.above⟩
theorem Inv.lt(I:Inv X pins σ H s):X.env.locals<s.heap.objs.size:=let ⟨_,hn,_⟩:=I.loc;hn.lt
theorem Inv.sz(I:Inv X pins σ H s):X.s₀.heap.objs.size<=s.heap.objs.size:=fB I.ok.above (sj I.lt)
theorem Inv.DS(I:Inv X pins σ H s){a:Addr}(h:s.heap.objs.size<=a):a ∉ X.fs:=λhb=>by
 obtain⟨_,o,ho,_⟩:=I.ok.kJ.mem hb
 exact absurd (cI (bE ho) (fB I.sz h)) (jb _)
theorem Inv.sL(I:Inv X pins σ H s):∀x c,X.env.cells.lookup x=some c->c≠X.env.locals:=λx c e z=>by
 obtain⟨v,o,ho,hd⟩:=I.cell x c e
 obtain⟨m,⟨o',es,ep,dR,iX,_⟩,_⟩:=I.loc
 rw[z,dR] at ho;cases ho;rw[iX] at hd;cases hd
theorem Inv.kJ(I:Inv X pins σ H s):s.heap.FunFrames X.base X.outer:=by
 have all:∀(l:List Env),(∀b∈cW l,b∈X.fs)->X.s₀.heap.FunFrames X.base l->s.heap.FunFrames X.base l:=by
  intro l
  induction l with
  | nil=>intro _ _;trivial
  | cons env r ih =>
    intro hs hl
    obtain⟨hk,⟨L,o,hf,hn,ho,hd⟩,hr⟩:=hl
    have hL:L∈X.fs:=hs L (by unfold cW;rw[wV,hf];exact bB)
    obtain⟨sl,e⟩:=I.base.slot L o ho (I.ok.pb L hL) hL λz=>I.ok.AP L z hL
    exact⟨hk,⟨L,_,hf,hn,e,hd⟩,ih (λb hb=>hs b (by unfold cW;rw[wV,hf];exact bL _ hb)) hr⟩
 exact all X.outer (λ_ hb=>hb) I.ok.kJ
theorem Inv.stack(I:Inv X pins σ H s):s.heap.FunFrames X.base X.stack:=by
 rcases I.ok.AO with e | ⟨e,hf⟩
 ·rw[e];exact I.kJ
 ·rw[e]
  obtain⟨m,hn,_⟩:=I.loc
  refine .cons (by rw[I.ok.kind];decide) hf hn ?_ I.kJ
  exact Ad (fB I.ok.kI I.ok.above)
theorem Inv.nX(I:Inv X pins σ H s):∀b∈cW X.stack,b∈X.env.locals::X.fs:=λb hb=>by
 rcases I.ok.AO with e | ⟨e,hf⟩
 ·rw[e] at hb;exact bL _ hb
 ·rw[e] at hb
  unfold cW at hb
  rw[wV,hf] at hb
  exact hb
theorem Inv.AQ(I:Inv X pins σ H s):∀b∈cW X.stack,H b=none:=λb hb=>by
 rcases List.mem_cons.mp (I.nX b hb) with e | hb
 ·rw[e];exact I.free
 ·obtain⟨_,o,ho,_⟩:=I.ok.kJ.mem hb
  exact I.base.free b o ho (I.ok.pb b hb) λz=>I.ok.AP b z hb
theorem Inv.step{g':Array Ae}{t':Nat}{d':CZ}{ch:List Addr}(I:Inv X pins σ H s)
 (iY:∀b∈ch,(b∈X.ex∨X.s₀.heap.get? b=none)/\b≠X.env.locals/\(∀x c,X.env.cells.lookup x=some c->c≠b)/\∀p∈X.pn++pins,p.1≠b)
 (keep:∀b o,b≠X.env.locals->b ∉ X.fs->b ∉ ch->s.heap.get? b=some o->H b=none->h'.get? b=some o)
 (slot:∀b o,b≠X.env.locals->b∈X.fs->b ∉ ch->s.heap.get? b=some o->H b=none->∃sl,h'.get? b=some { o with slots:=sl }) (free:∀b o,b ∉ ch->s.heap.get? b=some o->H b=none->H' b=none)
 (there:∀b o,b ∉ ch->s.heap.get? b=some o->∃o',h'.get? b=some o')
 (jO:∀b xs,H b=some (.tup xs)->H' b=some (.tup xs)) (ji:∀b o u,H b=some (.fh o u)->H' b=some (.fh o u)) (jP:∀b ps,H b=some (.qP ps)->∃more,H' b=some (.qP (ps++more)))
 (ns:∀m,s.heap.Ns X.env.locals m->h'.Ns X.env.locals m) (aS:dq X.prog X.w H' h') (hg:nD g') :
 Inv X pins σ H' { s with heap:=h',gens:=g',drawn:=d',toks:=t' }:=by
 have K0:∀b o,X.s₀.heap.get? b=some o->b≠X.env.locals:=λb o e=>cN (cI (bE e) I.ok.above)
 have AR:∀b o,X.s₀.heap.get? b=some o->b ∉ X.ex->b ∉ ch:=λb o e hx hb=>by
  rcases(iY b hb).1 with z | z
  ·exact hx z
  ·rw[e] at z;cases z
 have cellK:∀x c,X.env.cells.lookup x=some c->∀v,s.heap.IsCell c v->h'.IsCell c v:=λx c e v ⟨o,ho,hd⟩=>by
  have xA:c ∉ ch:=λz=>(iY c z).2.2.1 x c e rfl
  by_cases hc:c∈X.fs
  ·obtain⟨sl,q⟩:=slot c o (I.sL x c e) hc xA ho (I.mE x c e)
   exact⟨_,q,hd⟩
  ·exact⟨o,keep c o (I.sL x c e) hc xA ho (I.mE x c e),hd⟩
 refine⟨I.ok,I.os,hg,⟨λb o e n hb hx=>?_,λb o e n hb hx=>?_,λb o e n hx=>?_,λb o e hx=>?_,λb xs e=>jO b xs (I.base.jO b xs e),λb o xs e=>ji b o xs (I.base.ji b o xs e),λb ps e=>?_⟩,?_,λx c e=>?_,?_,λx c e=>?_,λp hp=>?_,aS,I.len⟩
 ·exact keep b o (K0 b o e) hb (AR b o e hx) (I.base.keep b o e n hb hx) (I.base.free b o e n hx)
 ·obtain⟨sl,e1⟩:=I.base.slot b o e n hb hx
  obtain⟨AM,e2⟩:=slot b _ (K0 b o e) hb (AR b o e hx) e1 (I.base.free b o e n hx)
  exact⟨AM,e2⟩
 ·obtain⟨o',e1⟩:=I.base.there b o e hx
  exact free b o' (AR b o e hx) e1 (I.base.free b o e n hx)
 ·obtain⟨o',e1⟩:=I.base.there b o e hx
  exact there b o' (AR b o e hx) e1
 ·obtain⟨m1,e1⟩:=I.base.jP b ps e
  obtain⟨m2,e2⟩:=jP b _ e1
  exact⟨m1++m2,by rw[e2,a4k]⟩
 ·obtain⟨m,hn,hl⟩:=I.loc
  refine⟨m,ns m hn,λi x v e1 e2 e3=>?_⟩
  obtain⟨u,r,l⟩:=hl i x v e1 e2 e3
  refine⟨u,r,?_⟩
  rcases l with l | ⟨k,c,e,z⟩
  ·exact .inl l
  ·exact .inr ⟨k,c,e,cellK x c e _ z⟩
 ·obtain⟨v,z⟩:=I.cell x c e
  exact⟨v,cellK x c e v z⟩
 ·obtain⟨m,⟨o,_,_,ho,_⟩,_⟩:=I.loc
  exact free _ o (λz=>(iY _ z).2.1 rfl) ho I.free
 ·obtain⟨v,o,ho,hd⟩:=I.cell x c e
  exact free c o (λz=>(iY c z).2.2.1 x c e rfl) ho (I.mE x c e)
 ·obtain⟨e,n,ne,nf,d⟩:=I.pin p hp
  have xA:p.1 ∉ ch:=λz=>(iY p.1 z).2.2.2 p hp rfl
  exact⟨keep p.1 p.2 ne nf xA e n,free p.1 p.2 xA e n,ne,nf,d⟩
theorem Inv.un{t':Nat}(I:Inv X pins σ H s)(u:Un X.fs [] H H' s.heap h')(aS:dq X.prog X.w H' h'):Inv X pins σ H' { s with heap:=h',toks:=t' }:=by
 obtain⟨m,⟨o,es,ep,ho,r⟩,_⟩:=id I.loc
 obtain⟨sl,hL⟩:=u.any ho I.free (by simp)
 exact I.step (g':=s.gens) (d':=s.drawn) (ch:=[]) (λ_ z=>nomatch z) (λb o _ hb _ e n=>u.keep b o e n hb (by simp)) (λb o _ hb _ e n=>u.slot b o e n hb (by simp)) (λb o _ e n=>u.free b o e n (by simp)) (λb o _ e=>u.there b o e (by simp)) u.jO u.ji u.jP (λm' hm=>by
  obtain⟨o',es',DT,dR,r'⟩:=hm
  rw[ho] at dR;cases dR
  exact⟨_,es',DT,hL,r'⟩) aS I.bare
theorem Inv.call{g':Array Ae}{t':Nat}{d':CZ}{ch:List Addr}(I:Inv X pins σ H s)(u:Un (cW X.stack) ch H H' s.heap h')(aS:dq X.prog X.w H' h')(hg:nD g')
 (iY:∀b∈ch,(b∈X.ex∨X.s₀.heap.get? b=none)/\b≠X.env.locals/\(∀x c,X.env.cells.lookup x=some c->c≠b)/\∀p∈X.pn++pins,p.1≠b) :
 Inv X pins σ H' { s with heap:=h',gens:=g',drawn:=d',toks:=t' }:=by
 obtain⟨m,⟨o,es,ep,ho,r⟩,_⟩:=id I.loc
 obtain⟨sl,hL⟩:=u.any ho I.free λz=>(iY _ z).2.1 rfl
 exact I.step (ch:=ch) iY (λb o hL hb hc e n=>u.keep b o e n (λz=>(List.mem_cons.mp (I.nX b z)).elim hL hb) hc) (λb o _ _ hc e n=>u.any e n hc) (λb o hc e n=>u.free b o e n hc) (λb o hc e=>u.there b o e hc) u.jO u.ji u.jP (λm' hm=>by
  obtain⟨o',es',DT,dR,r'⟩:=hm
  rw[ho] at dR;cases dR
  exact⟨_,es',DT,hL,r'⟩) aS hg
theorem Inv.turned{t':Nat}{it:Addr}(I:Inv X pins σ H s)(k:∀b o,b≠it->s.heap.get? b=some o->h'.get? b=some o)(hn:H it=none)(hL:it≠X.env.locals)
 (h1:it∈X.ex∨X.s₀.heap.objs.size<=it) (h2:∀x c,X.env.cells.lookup x=some c->c≠it) (h3:∀p∈X.pn++pins,p.1≠it):Inv X pins σ H { s with heap:=h',toks:=t' }:=by
 have qQ:∀b u,H b=some u->b≠it:=λb u e z=>by rw[z,hn] at e;cases e
 refine I.step (g':=s.gens) (d':=s.drawn) (ch:=[it]) (λb hb=>?_) (λb o _ _ hc e _=>k b o (λz=>hc (by simp[z])) e) (λb o _ _ hc e _=>⟨o.slots,k b o (λz=>hc (by simp[z])) e⟩) (λ_ _ _ _ n=>n)
  (λb o hc e=>⟨o,k b o (λz=>hc (by simp[z])) e⟩) (λ_ _ e=>e) (λ_ _ _ e=>e) (λb ps e=>⟨#[],by rw[e];simp⟩) (λm hm=>?_) (λb u e=>?_) I.bare
 ·have e:b=it:=by simpa using hb
  subst e
  exact⟨h1.imp_right λz=>Ad z,hL,h2,h3⟩
 ·obtain⟨o,es,ep,ho,r⟩:=hm
  exact⟨o,es,ep,k _ o (gJ hL) ho,r⟩
 ·refine(I.aS b u e).mD (λc v hc q=>k c v ?_ q) (λ_ q=>q) λ_ _ q=>q
  rcases hc with z | z
  ·rw[z];exact qQ b u e
  ·exact qQ c _ z
theorem Inv.tok(I:Inv X pins σ H s)(t:Nat):Inv X pins σ H { s with toks:=t }:=I.un (h':=s.heap) (t':=t) Un.refl I.aS
theorem Inv.kept{t':Nat}(I:Inv X pins σ H s)(k:∀b u,s.heap.get? b=some u->h'.get? b=some u):Inv X pins σ H { s with heap:=h',toks:=t' }:=I.un (Un.kept k) (I.aS.kept k)
theorem Inv.laid{a:Addr}{o:HO}{t':Nat}(I:Inv X pins σ H s)(k:∀b u,s.heap.get? b=some u->h'.get? b=some u)(hp:s.heap.objs.size<=a)(new:iW X.prog X.w (upd H a o) h' a o) :
 Inv X pins σ (upd H a o) { s with heap:=h',toks:=t' }:=I.un (Un.laid k hp (I.aS.fresh hp)) (I.aS.laid k hp new)
theorem Inv.write{x e:Addr}{o:HO}{t':Nat}(I:Inv X pins σ H s)(mu:AL (H x))(he:e=x∨H e=some (.own x))(k:∀b u,b≠e->s.heap.get? b=some u->h'.get? b=some u)(uZ:∃u,h'.get? e=some u)
 (new:iW X.prog X.w (upd H x o) h' x o):Inv X pins σ (upd H x o) { s with heap:=h',toks:=t' }:=I.un (Un.write mu he k uZ) (I.aS.write mu he k uZ new)
theorem Inv.u_{xB:List (Addr×Obj)}(I:Inv X pins σ H s)(h:∀p∈xB,s.heap.get? p.1=some p.2/\H p.1=none/\p.1≠X.env.locals/\p.1 ∉ X.fs/\∀v,p.2.data ≠ .cell v):Inv X xB σ H s :=
 ⟨I.ok,I.os,I.bare,I.base,I.loc,I.cell,I.free,I.mE,λp hp=>(List.mem_append.mp hp).elim (λz=>I.pin p (je _ z)) (h p),I.aS,I.len⟩
theorem K1{N:List Str}(hN:N.Nodup){i j:Nat}{x:Str}(a:N[i]? = some x)(b:N[j]? = some x):i=j:=by
 obtain⟨h1,e1⟩:=List.getElem?_eq_some_iff.mp a
 obtain⟨h2,e2⟩:=List.getElem?_eq_some_iff.mp b
 exact(List.getElem_inj hN).mp (e1.trans e2.symm)
theorem K2{M:oO}{A:Around}{E:Value->ai->Prop}{i:Nat}{x:Str}{v:V}{u:Value}{Q:Unit->ai->Prop}(I:Inv X pins σ H s)(hN:X.N.Nodup)(hi:X.N[i]? = some x)(hx:Loc X.env.scope x)(r:RelV v u)
 (h:∀s',Inv X pins (σ.set i (some v)) H s'->(∃a,qr a s.heap s'.heap/\(a=X.env.locals∨X.env.cells.lookup x=some a))->Q () s') (hf:X.fn x=true∨X.env.scope.names.lookup x=some .local:=by first | exact .inl rfl | exact .inr rfl | assumption):ax M A (storeName X.env x u) Q E s:=by
 obtain⟨m,hn,hl⟩:=id I.loc
 have TN:(X.env.scope.kind == .class||(X.env.scope.kind == .module&&X.env.locals != X.env.globals))=false:=by rw[I.ok.kind];rfl
 have K3:i<σ.length:=by rw[I.len];exact(List.getElem?_eq_some_iff.mp hi).1
 have sL:=I.sL
 have tracked:∀{a:Addr} {h':Heap},(∃o,s.heap.get? a=some o/\H a=none)->qr a s.heap h'->dq X.prog X.w H h':=λ{a h'} ha hs b ob e=>by
  obtain⟨_,_,xC⟩:=ha
  refine(I.aS b ob e).mD (λc w' hc q=>(hs.2 c ?_).trans q) (λ_ q=>q) λ_ _ q=>q
  rintro rfl
  rcases hc with rfl | hc
  ·rw[xC] at e;cases e
  ·rw[xC] at hc;cases hc
 rcases hx with hk | hk
 ·refine wpAny_storeName_local hk hn (λh' gm hs=>?_) TN
  obtain⟨oL,_,_,TQ,_⟩:=id hn
  refine h _ ⟨I.ok,I.os,I.bare,⟨λb o e n hb hx=>?_,λb o e n hb hx=>?_,I.base.free,λb o e hx=>?_,I.base.jO,I.base.ji,I.base.jP⟩,⟨_,gm,λj y v' e1 e2 e3=>?_⟩,λy c e=>?_,I.free,I.mE,λp hp=>?_,tracked ⟨oL,TQ,I.free⟩ hs,by simpa using I.len⟩ ⟨_,hs,.inl rfl⟩
  ·exact(hs.2 b (cN (cI (bE e) I.ok.above))).trans (I.base.keep b o e n hb hx)
  ·obtain⟨sl,e1⟩:=I.base.slot b o e n hb hx
   exact⟨sl,(hs.2 b (cN (cI (bE e) I.ok.above))).trans e1⟩
  ·obtain⟨o',e1⟩:=I.base.there b o e hx
   exact⟨o',(hs.2 b (cN (cI (bE e) I.ok.above))).trans e1⟩
  ·by_cases hj:j=i
   ·subst hj
    rw[hi] at e1;cases e1
    rw[gY K3] at e2
    cases e2
    exact⟨u,r,.inl ⟨hk,by simp⟩⟩
   ·rw[fC (gJ hj)] at e2
    obtain⟨u',r',q⟩:=hl j y v' e1 e2 e3
    refine⟨u',r',?_⟩
    rcases q with ⟨k,e⟩ | ⟨k,c,e,z⟩
    ·refine .inl ⟨k,?_⟩
     have:y≠x:=λe=>hj (K1 hN e1 (e ▸ hi))
     simp[this,e]
    ·exact .inr ⟨k,c,e,z.sameBut hs (sL y c e)⟩
  ·obtain⟨w',z⟩:=I.cell y c e
   exact⟨w',z.sameBut hs (sL y c e)⟩
  ·obtain⟨e,n,ne,nf,d⟩:=I.pin p hp
   exact⟨(hs.2 p.1 ne).trans e,n,ne,nf,d⟩
 ·have DU:X.fn x=true:=by
   rcases hf with z | z
   ·exact z
   ·rw[z] at hk;cases hk
  obtain⟨c,hc⟩:=I.ok.has x (.inl hk)
  obtain⟨w',z⟩:=I.cell x c hc
  refine wpAny_storeName_cell I.ok.kind hk hc z (λh' sM hs=>?_)
  obtain⟨oc,K4,TR⟩:=id z
  refine h { s with heap:=h' } ⟨I.ok,I.os,I.bare,⟨λb o e n hb hx=>?_,λb o e n hb hx=>?_,I.base.free,λb o e hx=>?_,I.base.jO,I.base.ji,I.base.jP⟩,⟨m,hn.sameBut hs (gJ (sL x c hc)),λj y v' e1 e2 e3=>?_⟩,λy c' e=>?_,I.free,I.mE,λp hp=>?_,tracked ⟨oc,K4,I.mE x c hc⟩ hs,by simpa using I.len⟩ ⟨c,hs,.inr hc⟩
  ·exact(hs.2 b (cN (cI (bE e) (I.ok.xy x c DU hc)))).trans (I.base.keep b o e n hb hx)
  ·obtain⟨sl,e1⟩:=I.base.slot b o e n hb hx
   exact⟨sl,(hs.2 b (cN (cI (bE e) (I.ok.xy x c DU hc)))).trans e1⟩
  ·obtain⟨o',e1⟩:=I.base.there b o e hx
   exact⟨o',(hs.2 b (cN (cI (bE e) (I.ok.xy x c DU hc)))).trans e1⟩
  ·by_cases hj:j=i
   ·subst hj
    rw[hi] at e1;cases e1
    rw[gY K3] at e2
    cases e2
    exact⟨u,r,.inr ⟨.inl hk,c,hc,sM⟩⟩
   ·rw[fC (gJ hj)] at e2
    obtain⟨u',r',q⟩:=hl j y v' e1 e2 e3
    refine⟨u',r',?_⟩
    rcases q with q | ⟨k,c',e,z'⟩
    ·exact .inl q
    ·refine .inr ⟨k,c',e,z'.sameBut hs ?_⟩
     rintro rfl
     exact hj (K1 hN e1 (I.ok.inj _ _ _ e hc ▸ hi))
  ·by_cases AS:c'=c
   ·subst AS;exact⟨_,sM⟩
   ·obtain⟨w2,z2⟩:=I.cell y c' e
    exact⟨w2,z2.sameBut hs AS⟩
  ·obtain⟨e,n,ne,nf,d⟩:=I.pin p hp
   refine⟨(hs.2 p.1 ?_).trans e,n,ne,nf,d⟩
   intro q
   rw[q,K4] at e
   have q':oc=p.2:=iQ e
   exact d w' (by rw[<-q'];exact TR)
theorem DV{M:oO}{A:Around}{E:Value->ai->Prop}{i:Nat}{x:Str}{v:V}{u:Value}{Q:Unit->ai->Prop}(I:Inv X pins σ H s)(hN:X.N.Nodup)(hi:X.N[i]? = some x)(hx:Loc X.env.scope x)(r:RelV v u)
 (h:∀s',Inv X pins (σ.set i (some v)) H s'->Q () s') (hf:X.fn x=true∨X.env.scope.names.lookup x=some .local:=by first | exact .inl rfl | exact .inr rfl | assumption):ax M A (storeName X.env x u) Q E s :=
 K2 I hN hi hx r (λs' I' _=>h s' I') hf
theorem Inv.TU{s':ai}{ch:List Addr}(I:Inv X pins σ H s)(ho:s'.os=s.os)(u:Un (cW X.stack) ch H H' s.heap s'.heap)(aS:dq X.prog X.w H' s'.heap)(hg:nD s'.gens)
 (iY:∀b∈ch,(b∈X.ex∨X.s₀.heap.get? b=none)/\b≠X.env.locals/\(∀x c,X.env.cells.lookup x=some c->c≠b)/\∀p∈X.pn++pins,p.1≠b):Inv X pins σ H' s':=by
 obtain⟨h',g',d',t',o'⟩:=s'
 have e:o'=s.os:=ho
 subst e
 exact I.call (g':=g') (t':=t') (d':=d') u aS hg iY
end
abbrev XK:=Value->Option Addr->Hp->Prop
abbrev St:=List (Option V)
abbrev VK:=V->Hp->Prop
abbrev TE:=St->Hp->VK->Prop
abbrev TT:=St->Hp->(Bool->Hp->Prop)->Prop
abbrev TA:=St->Hp->(List V->Hp->Prop)->Prop
structure Ends where
 nx:St->Hp->Prop
 rt:VK
 bk:St->Hp->Prop:=λ_ _=>False
 ct:St->Hp->Prop:=λ_ _=>False
abbrev TS:=Ends->St->Hp->Prop
def EP(X:Cx)(pins:List (Addr×Obj))(σ:St)(Q:VK)(u:Value)(s':ai):Prop:=∃v H',Inv X pins σ H' s'/\RelV v u/\Q v H'
def TP(X:Cx)(pins:List (Addr×Obj))(σ:St)(Q:Bool->Hp->Prop)(b:Bool)(s':ai):Prop:=∃H',Inv X pins σ H' s'/\Q b H'
def SP(X:Cx)(pins:List (Addr×Obj))(D:Ends)(f:Flow)(s':ai):Prop :=
 match f with
 | .next=>∃aQ H',Inv X pins aQ H' s'/\D.nx aQ H'
 | .brk=>∃aQ H',Inv X pins aQ H' s'/\D.bk aQ H'
 | .cont=>∃aQ H',Inv X pins aQ H' s'/\D.ct aQ H'
 | .ret u=>∃v aQ H',Inv X pins aQ H' s'/\RelV v u/\D.rt v H'
def PE(X:Cx)(e:Expr)(t:TE):Prop :=
 ∀(pins:List (Addr×Obj)) (s:ai) (σ:St) (H:Hp) (Q:VK),Inv X pins σ H s->t σ H Q->ax (aF X.prog X.w) X.A (eval e X.env) (EP X pins σ Q) X.xe s
def PT(X:Cx)(e:Expr)(t:TT):Prop :=
 ∀(pins:List (Addr×Obj)) (s:ai) (σ:St) (H:Hp) (Q:Bool->Hp->Prop),Inv X pins σ H s->t σ H Q->ax (aF X.prog X.w) X.A (oP e X.env (eval e X.env)) (TP X pins σ Q) X.xe s
def PW(X:Cx)(e:Expr)(t:TT):Prop :=
 ∀(whole:Sem Value) (pins:List (Addr×Obj)) (s:ai) (σ:St) (H:Hp) (Q:Bool->Hp->Prop),Inv X pins σ H s->t σ H Q->ax (aF X.prog X.w) X.A (oP e X.env whole) (TP X pins σ Q) X.xe s
theorem PW.pt{X:Cx}{e:Expr}{t:TT}(h:PW X e t):PT X e t:=h _
def xD(X:Cx)(st:List Stmt)(t:TS):Prop :=
 ∀(pins:List (Addr×Obj)) (s:ai) (σ:St) (H:Hp) (D:Ends),Inv X pins σ H s->t D σ H->ax (aF X.prog X.w) X.A (execs st X.env) (SP X pins D) X.xe s
theorem eM{α:Type}{t:Sem α}{Q Q':α->ai->Prop}{M:oO}{A:Around}{E:Value->ai->Prop}{s:ai}(h:ax M A t Q E s)(hQ:∀a s,Q a s->Q' a s):ax M A t Q' E s:=aC h hQ λ_ _ x=>x
end L2
namespace L2
open PySem PySem.Spec PyProof.Rows
section
variable {X:Cx}
def K5(i:Nat):TE:=λσ H Q=>∃v,σ[i]? = some (some v)/\Q v H
def tC(v:V):TE:=λ_ H Q=>Q v H
theorem vc{i:Nat}{x:Str}{pos:Pos}(hN:X.N[i]? = some x)(hv:nV X.env.scope x)(hd:(x==("__debug__":Str))=false:=by decide)(d8:(x==("__classdict__":Str))=false:=by decide):PE X (.Name x pos) (K5 i):=by
 intro pins s σ H Q I h
 obtain⟨v,e,h⟩:=h
 obtain⟨m,hn,hl⟩:=I.loc
 obtain⟨u,r,l⟩:=hl i x v hN e hv
 have fin:EP X pins σ Q u s:=⟨v,H,I,r,h⟩
 rcases l with ⟨hk,hm⟩ | ⟨hk,c,hc,K6⟩
 ·exact RC (wpAny_loadName_local I.ok.kind hk hn hm fin) hd
 ·rcases hk with hk | hk
  ·exact RC (wpAny_loadName_cell I.ok.kind hk hc K6 fin) hd
  ·exact RC (wpAny_loadName_free I.ok.kind hk hc K6 fin d8) hd
theorem TV{i j pos}:PE X (.Constant (.int i) j pos) (tC (.int i)):=λ_ _ _ H _ I h=>wpAny_Constant_int ⟨.int i,H,I.tok _,⟨_,rfl⟩,h⟩
theorem TX{b j pos}:PE X (.Constant (.bool b) j pos) (tC (.bl b)):=λ_ _ _ H _ I h=>Constant_bool ⟨.bl b,H,I,rfl,h⟩
theorem TY{x j pos}:PE X (.Constant (.str x) j pos) (tC (.str x)):=λ_ _ _ H _ I h=>Calls.Constant_str ⟨.str x,H,I.tok _,⟨_,rfl⟩,h⟩
def Gl(X:Cx)(x:Str):Prop:=X.env.kindOf x=some .globalImplicit
theorem vd{E:Value->ai->Prop}{pins:List (Addr×Obj)}{s:ai}{σ:St}{H:Hp}{x:Str}{u:Value}{pos:Pos}{Q:Value->ai->Prop}(I:Inv X pins σ H s)(hg:Gl X x)(hm:X.mg x=some u)(h:Q u s)
 (hd:(x==("__debug__":Str))=false:=by decide):ax (aF X.prog X.w) X.A (eval (.Name x pos) X.env) Q E s :=
 a4l I.ok.kind hg (Calls.loadGlobal_global (by rw[I.ok.glob];exact I.mod.glob.keeps I.bk) hm h) hd
theorem iE{E:Value->ai->Prop}{pins:List (Addr×Obj)}{s:ai}{σ:St}{H:Hp}{x:Str}{u:Value}{pos:Pos}{Q:Value->ai->Prop}(I:Inv X pins σ H s)(hg:Gl X x)(hm:X.mg x=none)(hv:oN x=some u)(h:Q u s)
 (hn:x≠"__name__":=by decide) (hd:(x==("__debug__":Str))=false:=by decide):ax (aF X.prog X.w) X.A (eval (.Name x pos) X.env) Q E s:=by
 obtain⟨mb,h1,h2⟩:=I.mod.blt
 exact a4l I.ok.kind hg (Calls.loadGlobal_builtin (by rw[I.ok.glob];exact I.mod.glob.keeps I.bk) hm (by rw[I.ok.blt];exact h1.keeps I.bk) ((h2 x hn).trans hv) h) hd
theorem TZ{x:Str}{v:V}{u:Value}{pos:Pos}(hg:Gl X x)(hm:X.mg x=some u)(r:RelV v u)(hd:(x==("__debug__":Str))=false:=by decide):PE X (.Name x pos) (tC v) :=
 λ_ _ _ H _ I h=>vd I hg hm ⟨v,H,I,r,h⟩ hd
variable {a b:Expr}{ta tb:TE}{pos:Pos}
variable {tA tB':TT}{rest:List Expr}
end
end L2
namespace L2
open PySem PySem.Spec PyProof.Rows
def bM(K:aD)(H:Hp)(a:Addr)(xs:List V):Prop :=
 Rd H a (.lst xs) ∨
  ∃(o:Obj) (its:Array Value) (n:Nat),K.lookup a=some o/\o.cls = .type "list"/\o.dict=none/\o.data = .seq its n/\its.size<=ck/\Vals xs its.toList
def b6(K:aD)(H:Hp)(a:Addr)(xs:List V):Prop :=
 Rd H a (.tup xs) ∨
  ∃(o:Obj) (its:Array Value) (n:Nat),K.lookup a=some o/\o.cls = .type "tuple"/\o.data = .seq its n/\its.size<=ck/\Vals xs its.toList
def T1:Value->Option V
 | .none=>some .b_
 | .bool b=>some (.bl b)
 | .int i _=>some (.int i)
 | .str x _=>some (.str x)
 | .bytes b _=>some (.DO b)
 | .float b _=>some (.xx b)
 | .ref a=>some (.ref a)
 | .type n=>some (.ty n)
 | _=>none
theorem RelV.abs{x:V}{u:Value}(r:RelV x u):T1 u=some x:=by
 cases x with
 | b_=>cases r;rfl
 | bl _=>cases r;rfl
 | int _=>obtain⟨t,rfl⟩:=r;rfl
 | str _=>obtain⟨t,rfl⟩:=r;rfl
 | DO _=>obtain⟨t,rfl⟩:=r;rfl
 | xx _=>obtain⟨t,rfl⟩:=r;rfl
 | ref _=>cases r;rfl
 | ty _=>cases r;rfl
theorem RelV.inj{x y:V}{u:Value}(r:RelV x u)(q:RelV y u):x=y:=iQ (r.abs.symm.trans q.abs)
theorem Vals.inj:∀{xs ys:List V} {us:List Value},Vals xs us->Vals ys us->xs=ys
 | _,_,_,.nil,.nil=>rfl
 | _,_,_,.cons r t,.cons r' t'=>by rw[r.inj r',Vals.inj t t']
section
variable {X:Cx}{pins:List (Addr×Obj)}{σ:St}{H:Hp}{s:ai}{a:Addr}{xs ys:List V}
theorem bM.of{K:aD}(h:H a=some (.lst xs)):bM K H a xs:=.inl (.inl h)
theorem b6.of{K:aD}(h:H a=some (.tup xs)):b6 K H a xs:=.inl (.inl h)
theorem Inv.list(I:Inv X pins σ H s)(h:bM X.K H a xs):∃its:List Value,Vals xs its/\PlainL s.heap a its.toArray/\xs.length<=ck:=by
 rcases h with h | ⟨o,its,n,hk,hc,hd,hs,hz,r⟩
 ·obtain⟨z,its,n,r,e⟩:=h.ok I.aS
  exact⟨its,r,⟨_,n,e,rfl,rfl,rfl⟩,z⟩
 ·refine⟨its.toList,r,⟨o,n,I.iD a o hk,hc,hd,by simpa using hs⟩,?_⟩
  have e:=r.length
  simp only[gK] at e
  lia
theorem Inv.tuple(I:Inv X pins σ H s)(h:b6 X.K H a xs):∃its:List Value,Vals xs its/\si s.heap a its.toArray/\xs.length<=ck:=by
 rcases h with h | ⟨o,its,n,hk,hc,hs,hz,r⟩
 ·obtain⟨z,its,r,p⟩:=h.ok I.aS
  exact⟨its,r,p,z⟩
 ·refine⟨its.toList,r,⟨o,I.iD a o hk,hc,n,by simpa using hs⟩,?_⟩
  have e:=r.length
  simp only[gK] at e
  lia
theorem Inv.DW(I:Inv X pins σ H s)(h:bM X.K H a xs)(h':bM X.K H a ys):xs=ys:=by
 obtain⟨its,r,⟨o,n,e,_,_,d⟩,_⟩:=I.list h
 obtain⟨its',r',⟨o',n',e',_,_,d'⟩,_⟩:=I.list h'
 rw[e] at e';cases e'
 rw[d] at d'
 injection d' with d1 _
 have:its=its':=by simpa using congrArg Array.toList d1
 subst this
 exact r.inj r'
theorem Inv.T2(I:Inv X pins σ H s)(h:b6 X.K H a xs)(h':b6 X.K H a ys):xs=ys:=by
 obtain⟨its,r,⟨o,e,_,n,d⟩,_⟩:=I.tuple h
 obtain⟨its',r',⟨o',e',_,n',d'⟩,_⟩:=I.tuple h'
 rw[e] at e';cases e'
 rw[d] at d'
 injection d' with d1 _
 have:its=its':=by simpa using congrArg Array.toList d1
 subst this
 exact r.inj r'
end
abbrev Cx.cZ (X:Cx) (E:Value->ai->Prop):Cx:={ X with xe:=E }
abbrev Cx.bG (X:Cx):Cx:=X.cZ λ_ _=>False
theorem Cx.Ok.cZ{X:Cx}(ok:X.Ok)(E:Value->ai->Prop):(X.cZ E).Ok :=
 ⟨ok.mod,ok.kind,ok.glob,ok.blt,ok.above,ok.inj,ok.has,ok.xy,ok.hd,ok.frames,ok.AO,ok.KZ,ok.bs,ok.kI,ok.u9,ok.AP,ok.kJ,ok.pb⟩
theorem Cx.Ok.dr{X:Cx}{E:Value->ai->Prop}(ok:(X.cZ E).Ok):X.Ok :=
 ⟨ok.mod,ok.kind,ok.glob,ok.blt,ok.above,ok.inj,ok.has,ok.xy,ok.hd,ok.frames,ok.AO,ok.KZ,ok.bs,ok.kI,ok.u9,ok.AP,ok.kJ,ok.pb⟩
section
variable {X:Cx}{pins:List (Addr×Obj)}{σ:St}{H:Hp}{s:ai}{E:Value->ai->Prop}
theorem Inv.cZ(I:Inv X pins σ H s)(E:Value->ai->Prop):Inv (X.cZ E) pins σ H s:=⟨I.ok.cZ E,I.os,I.bare,I.base,I.loc,I.cell,I.free,I.mE,I.pin,I.aS,I.len⟩
theorem Inv.dr(I:Inv (X.cZ E) pins σ H s):Inv X pins σ H s:=⟨I.ok.dr,I.os,I.bare,I.base,I.loc,I.cell,I.free,I.mE,I.pin,I.aS,I.len⟩
theorem SP.dr{D:Ends}{f:Flow}{s':ai}(h:SP (X.cZ E) pins D f s'):SP X pins D f s':=by
 cases f with
 | next=>obtain⟨aQ,H',I,q⟩:=h;exact⟨aQ,H',I.dr,q⟩
 | brk=>obtain⟨aQ,H',I,q⟩:=h;exact⟨aQ,H',I.dr,q⟩
 | cont=>obtain⟨aQ,H',I,q⟩:=h;exact⟨aQ,H',I.dr,q⟩
 | ret u=>obtain⟨v,aQ,H',I,r,q⟩:=h;exact⟨v,aQ,H',I.dr,r,q⟩
theorem PE.bG{e:Expr}{t:TE}(h:PE X.bG e t):PE X e t:=λpins s σ H Q I hw =>
 aC (h pins s σ H Q (I.cZ _) hw) (λ_ _ ⟨v,H',I',r,q⟩=>⟨v,H',I'.dr,r,q⟩) λ_ _ z=>cT z
theorem PT.bG{e:Expr}{t:TT}(h:PT X.bG e t):PT X e t:=λpins s σ H Q I hw =>
 aC (h pins s σ H Q (I.cZ _) hw) (λ_ _ ⟨H',I',q⟩=>⟨H',I'.dr,q⟩) λ_ _ z=>cT z
theorem xD.bG{st:List Stmt}{t:TS}(h:xD X.bG st t):xD X st t:=λpins s σ H D I hw =>
 aC (h pins s σ H D (I.cZ _) hw) (λ_ _ q=>q.dr) λ_ _ z=>cT z
end
section
variable {X:Cx}{st:Stmt}{rest:List Stmt}{t u:TS}{e:Expr}{te:TE}{pos:Pos}
theorem Inv.quiet{pins:List (Addr×Obj)}{σ:St}{H:Hp}{s:ai}(I:Inv X pins σ H s):interactive X.env=false:=by simp[interactive,I.ok.kind]
end
abbrev TG:=V->St->Hp->(St->Hp->Prop)->Prop
abbrev sN:=List V->St->Hp->(St->Hp->Prop)->Prop
def PG(X:Cx)(target:Expr)(t:TG):Prop :=
 ∀(pins:List (Addr×Obj)) (s:ai) (σ:St) (H:Hp) (v:V) (u:Value) (Q:St->Hp->Prop),Inv X pins σ H s->RelV v u->t v σ H Q ->
  ax (aF X.prog X.w) X.A (qt target X.env u) (λ_ s'=>∃aQ H',Inv X pins aQ H' s'/\Q aQ H') X.xe s
def AU(X:Cx)(ts:List Expr)(t:sN):Prop :=
 ∀(pins:List (Addr×Obj)) (s:ai) (σ:St) (H:Hp) (vs:List V) (us:List Value) (Q:St->Hp->Prop),Inv X pins σ H s->Vals vs us->t vs σ H Q ->
  ax (aF X.prog X.w) X.A (assignInOrder ((Af ts X.env).map (·.2)) us) (λ_ s'=>∃aQ H',Inv X pins aQ H' s'/\Q aQ H') X.xe s
abbrev T3:=V->V->V->Hp->(Hp->Prop)->Prop
def T4(X:Cx)(t:T3):Prop :=
 ∀(pins:List (Addr×Obj)) (s:ai) (σ:St) (H:Hp) (o i v:V) (ov iv u:Value) (Q:Hp->Prop),Inv X pins σ H s->RelV o ov->RelV i iv->RelV v u->t o i v H Q ->
  ax (aF X.prog X.w) X.A (RD ov iv u) (λ_ s'=>∃H',Inv X pins σ H' s'/\Q H') X.xe s
section
variable {X:Cx}{pos:Pos}
def nY(i:Nat):TG:=λv σ H Q=>Q (σ.set i (some v)) H
theorem pf{i:Nat}{x:Str}(hN:X.N.Nodup)(hi:X.N[i]? = some x)(hx:Loc X.env.scope x)(hf:X.fn x=true∨X.env.scope.names.lookup x=some .local:=by first | exact .inl rfl | exact .inr rfl | assumption):PG X (.Name x pos) (nY i):=by
 intro pins s σ H v u Q I r h
 exact a4m (DV I hN hi hx r (λs' I'=>⟨_,H,I',h⟩) hf)
def az:sN:=λvs σ H Q=>vs=[]/\Q σ H
def ae(t:TG)(u:sN):sN:=λvs σ H Q=>∃v r,vs=v::r/\t v σ H λaQ H'=>u r aQ H' Q
theorem DX:AU X [] az:=by
 intro pins s σ H vs us Q I r h
 obtain⟨e,h⟩:=h
 subst e
 cases r
 exact assignInOrder_nil ⟨σ,H,I,h⟩
theorem sO{e:Expr}{es:List Expr}{t:TG}{u:sN}(h1:PG X e t)(h2:AU X es u)
 (hs:(Af (e::es) X.env).map (·.2)=qt e X.env::(Af es X.env).map (·.2):=by rfl):AU X (e::es) (ae t u):=by
 intro pins s σ H vs us Q I r h
 obtain⟨v,vr,e1,h⟩:=h
 subst e1
 cases r with
 | cons r rr =>
   rw[hs]
   refine assignInOrder_cons (eM (h1 pins s σ H _ _ _ I r h) λ_ s1 ⟨sP,H1,I1,q1⟩=>?_)
   exact h2 pins s1 sP H1 _ _ Q I1 rr q1
def cq(K:aD)(n:Nat)(t:sN):TG:=λv σ H Q=>∃a xs,v = .ref a/\b6 K H a xs/\xs.length=n/\t xs σ H Q
theorem DY{es:List Expr}{k:Nat}{t:sN}{n:Nat}(hc:X.calm=true)(h:AU X es t)
 (hn:(Af es X.env).length=n:=by rfl) (nZ:(Af es X.env).findIdx? (·.1)=none:=by rfl):PG X (.Tuple es k pos) (cq X.K n t):=by
 intro pins s σ H v u Q I r hw
 obtain⟨a,xs,e1,hq,hl,hw⟩:=hw
 subst e1
 cases r
 obtain⟨its,rv,ht,hz⟩:=I.tuple hq
 refine assign_Tuple_tuple (I.ok.hd hc) ht (by simp[hn,<-hl,rv.length]) nZ λh' hx=>?_
 have I1:Inv X pins σ H { s with heap:=h' }:=I.kept (t':=s.toks) λb o e=>hx b o (cN (bE e)) e
 exact h pins _ σ H xs _ Q I1 (by simpa using rv) hw
end
section
variable {X:Cx}{pos:Pos}
end
structure It where
 go:Nat->Hp->Prop
 xE:Nat->Hp->V->Hp->Prop
 stop:Nat->Hp->Prop
def fL(X:Cx)(pins:List (Addr×Obj))(H:Hp)(b:Addr):Prop :=
 H b=none/\b≠X.env.locals/\b ∉ X.fs/\(b∈X.ex∨X.s₀.heap.objs.size<=b)/\(∀x c,X.env.cells.lookup x=some c->c≠b)/\∀p∈X.pn++pins,p.1≠b
theorem Inv.ve{X:Cx}{pins:List (Addr×Obj)}{σ:St}{H H':Hp}{s:ai}{b:Addr}(I:Inv X pins σ H s)(hb:s.heap.objs.size<=b)(hn:H' b=none):fL X pins H' b:=by
 refine⟨hn,mi (cI I.lt hb),I.DS hb,.inr (fB I.sz hb),λx c e z=>?_,λp hp z=>?_⟩
 ·obtain⟨v,q⟩:=I.cell x c e
  exact absurd (cI q.lt (by rw[z];exact hb)) (jb _)
 ·exact absurd (cI (bE (I.pin p hp).1) (by rw[z];exact hb)) (jb _)
structure Turn (P:aY) (w:aO) (K:aD) (tg:Expr) (J:It) (fp:List Addr) (it:Addr) (tn:Nat->Heap->Prop):Prop where
 mem:it∈fp
 obj:∀i h,tn i h->∀b∈fp,∃o,h.get? b=some o/\∀v,o.data ≠ .cell v
 keep:∀i h h',tn i h->(∀b∈fp,∀o,h.get? b=some o->h'.get? b=some o)->tn i h'
 item:∀(X:Cx),X.prog=P->X.w=w->X.K=K->X.calm=true->∀(i:Nat) (pins:List (Addr×Obj)) (s:ai) (σ:St) (H:Hp) (E:Value->ai->Prop),Inv X pins σ H s->(∀b∈fp,fL X pins H b)->tn i s.heap->J.go i H ->
  ax (aF P w) X.A (iR (.ref it)) (λr s1=>∃u,r=some u /\
   ax (aF P w) X.A (JE tg (.ref it) u) (λ_ s2=>∃x H',Inv X pins σ H' s2/\RelV x u/\J.xE i H x H'/\tn (i+1) s2.heap/\∀b∈fp,H' b=none) E s1) E s
 done:∀(X:Cx),X.prog=P->X.w=w->X.K=K->X.calm=true->∀(i:Nat) (pins:List (Addr×Obj)) (s:ai) (σ:St) (H:Hp) (E:Value->ai->Prop),Inv X pins σ H s->(∀b∈fp,fL X pins H b)->tn i s.heap->J.stop i H ->
  ax (aF P w) X.A (iR (.ref it)) (λr s1=>r=none/\Inv X pins σ H s1) E s
 self:∀(A:Around) (i:Nat) (s:ai) (Q:Value->ai->Prop) (E:Value->ai->Prop),tn i s.heap->Q (.ref it) s->ax (aF P w) A (qu (.ref it)) Q E s
abbrev TI:=St->Hp->(It->Hp->Prop)->Prop
def DZ(X:Cx)(pins:List (Addr×Obj))(σ:St)(tg:Expr)(R:It->Hp->Prop)(kK:Value)(s2:ai):Prop :=
 ∃(it:Addr) (fp:List Addr) (tn:Nat->Heap->Prop) (J:It) (H':Hp),kK = .ref it/\Inv X pins σ H' s2/\Turn X.prog X.w X.K tg J fp it tn/\tn 0 s2.heap/\(∀b∈fp,fL X pins H' b)/\R J H'
def PI(X:Cx)(tg iter:Expr)(wi:TI):Prop :=
 ∀(pins:List (Addr×Obj)) (s:ai) (σ:St) (H:Hp) (R:It->Hp->Prop),Inv X pins σ H s->wi σ H R ->
  ax (aF X.prog X.w) X.A (eval iter X.env) (λv s1=>ax (aF X.prog X.w) X.A (qu v) (DZ X pins σ tg R) X.xe s1) X.xe s
theorem AV{M:oO}{A:Around}{E:Value->ai->Prop}{s:ai}{tg:Expr}{it:Addr}{u:Value}{o:Obj}{n:String}{vs:Array Value}{Q:Unit->ai->Prop}(ho:s.heap.get? it=some o)(hc:o.cls = .type n)(hd:o.data = .fields vs)
 (hn:["enumerate","zip","dict_itemiterator","dict_reverseitemiterator","odict_iterator","itertools.zip_longest","itertools.pairwise"].contains n=false) (hQ:Q () s):ax M A (JE tg (.ref it) u) Q E s:=by
 unfold JE
 cases tg<;>first
  | exact aM hQ
  | (cases u<;>first
      | exact aM hQ
      | (refine ay (wpAny_load ho ?_)
         rw[hc,hd]
         show ax M A (if (["enumerate","zip","dict_itemiterator","dict_reverseitemiterator","odict_iterator","itertools.zip_longest","itertools.pairwise"].contains n&&vs[0]? == some (rawInt _))=true then _ else _) Q E s
         rw[if_neg (by intro h;rw[hn,a4n] at h;cases h)]
         exact aM hQ))
def AW(K:aD)(a:Addr):It :=
 ⟨λi H=>∃xs x,bM K H a xs/\xs[i]? = some x,λi H x H'=>H'=H/\∀xs,bM K H a xs->xs[i]? = some x,λi H=>∃xs,bM K H a xs/\xs.length<=i⟩
def D0(K:aD)(a:Addr):It :=
 ⟨λi H=>∃xs x,b6 K H a xs/\xs[i]? = some x,λi H x H'=>H'=H/\∀xs,b6 K H a xs->xs[i]? = some x,λi H=>∃xs,b6 K H a xs/\xs.length<=i⟩
def xF(lo:Int)(n:Nat):It:=⟨λi _=>i<n,λi H x H'=>H'=H/\x = .int (lo+i),λi _=>n<=i⟩
theorem T5{P:aY}{w:aO}{K:aD}{tg:Expr}(a it:Addr):Turn P w K tg (AW K a) [it] it (λi h=>h.IsListIter it a i) where
 mem:=by simp
 obj:=λi h st b hb=>by
  have e:b=it:=by simpa using hb
  subst e
  obtain⟨o,e,c,d⟩:=st
  exact⟨o,e,λv z=>by rw[d] at z;cases z⟩
 keep:=λi h h' st k=>st.at λo e=>k it (by simp) o e
 item:=by
  intro X hP hw hK hc i pins s σ H E I hf st hg
  subst hP hw hK
  obtain⟨xs,x,hq,hx⟩:=hg
  obtain⟨its,rv,p,hz⟩:=I.list hq
  obtain⟨u,hu,ru⟩:=rv.get hx
  obtain⟨f0,f1,f2,f3,f4,f5⟩:=hf it (by simp)
  refine wpAny_pyNext_list_item st p.isList (x:=u) (by simpa using hu) λh' jQ sb=>?_
  have I1:Inv X pins σ H { s with heap:=h' }:=I.turned (t':=s.toks) (λb o hb e=>(sb.2 b hb).trans e) f0 f1 f3 f4 f5
  obtain⟨o,e,c,d⟩:=id jQ
  exact⟨u,rfl,AV (s:={ s with heap:=h' }) e c d (by decide) ⟨x,H,I1,ru,⟨rfl,λys hy=>by rw[I.DW hy hq];exact hx⟩,jQ,λb hb=>(hf b hb).1⟩⟩
 done:=by
  intro X hP hw hK hc i pins s σ H E I hf st hg
  subst hP hw hK
  obtain⟨xs,hq,hx⟩:=hg
  obtain⟨its,rv,p,hz⟩:=I.list hq
  obtain⟨f0,f1,f2,f3,f4,f5⟩:=hf it (by simp)
  have hl:=rv.length
  exact wpAny_pyNext_list_end (I.ok.hd hc) st p.isList (by simp;lia) λh' eb=>⟨rfl,I.turned (t':=s.toks) (λb o hb e=>eb b o hb e) f0 f1 f3 f4 f5⟩
 self:=λ_ _ _ _ _ st h=>wpAny_pyIter_listiter st h
theorem T6{P:aY}{w:aO}{K:aD}{tg:Expr}(a it:Addr):Turn P w K tg (D0 K a) [it] it (λi h=>h.IsTupleIter it a i) where
 mem:=by simp
 obj:=λi h st b hb=>by
  have e:b=it:=by simpa using hb
  subst e
  obtain⟨o,e,c,d⟩:=st
  exact⟨o,e,λv z=>by rw[d] at z;cases z⟩
 keep:=λi h h' st k=>st.at λo e=>k it (by simp) o e
 item:=by
  intro X hP hw hK hc i pins s σ H E I hf st hg
  subst hP hw hK
  obtain⟨xs,x,hq,hx⟩:=hg
  obtain⟨its,rv,p,hz⟩:=I.tuple hq
  obtain⟨u,hu,ru⟩:=rv.get hx
  obtain⟨f0,f1,f2,f3,f4,f5⟩:=hf it (by simp)
  refine wpAny_pyNext_tuple_item st (show s.heap.IsTuple a its.toArray from p) (x:=u) (by simpa using hu) λh' jQ sb=>?_
  have I1:Inv X pins σ H { s with heap:=h' }:=I.turned (t':=s.toks) (λb o hb e=>(sb.2 b hb).trans e) f0 f1 f3 f4 f5
  obtain⟨o,e,c,d⟩:=id jQ
  exact⟨u,rfl,AV (s:={ s with heap:=h' }) e c d (by decide) ⟨x,H,I1,ru,⟨rfl,λys hy=>by rw[I.T2 hy hq];exact hx⟩,jQ,λb hb=>(hf b hb).1⟩⟩
 done:=by
  intro X hP hw hK hc i pins s σ H E I hf st hg
  subst hP hw hK
  obtain⟨xs,hq,hx⟩:=hg
  obtain⟨its,rv,p,hz⟩:=I.tuple hq
  obtain⟨f0,f1,f2,f3,f4,f5⟩:=hf it (by simp)
  have hl:=rv.length
  exact wpAny_pyNext_tuple_end (I.ok.hd hc) st (show s.heap.IsTuple a its.toArray from p) (by simp;lia) λh' eb=>⟨rfl,I.turned (t':=s.toks) (λb o hb e=>eb b o hb e) f0 f1 f3 f4 f5⟩
 self:=λ_ _ _ _ _ st h=>wpAny_pyIter_tupleiter st h
theorem T7{P:aY}{w:aO}{K:aD}{tg:Expr}(it:Addr)(lo:Int)(n:Nat):Turn P w K tg (xF lo n) [it] it (λi h=>JF h it (lo+(i:Nat)*1) ((n:Int)-(i:Nat)) 1) where
 mem:=by simp
 obj:=λi h st b hb=>by
  have e:b=it:=by simpa using hb
  subst e
  exact⟨_,st,λv z=>by
   have z':Data.fields _=Data.cell v:=z
   cases z'⟩
 keep:=λi h h' st k=>k it (by simp) _ st
 item:=by
  intro X hP hw hK hc i pins s σ H E I hf st hg
  subst hP hw hK
  obtain⟨f0,f1,f2,f3,f4,f5⟩:=hf it (by simp)
  have W:=Walks.range (prog:=X.prog) (w:=X.w) (I.ok.hd hc) it lo 1 n
  refine W.item i s _ _ hg st λv h' tk hv jQ kk=>?_
  obtain⟨t,rfl⟩:=hv
  have I1:Inv X pins σ H { s with heap:=h',toks:=tk }:=I.turned (λb o hb e=>kk b o (by simpa using hb) e) f0 f1 f3 f4 f5
  refine⟨_,rfl,AV (s:={ s with heap:=h',toks:=tk }) (n:="range_iterator") jQ rfl rfl (by decide) ⟨.int (lo+i),H,I1,⟨t,?_⟩,⟨rfl,rfl⟩,jQ,λb hb=>(hf b hb).1⟩⟩
  rw[lq]
 done:=by
  intro X hP hw hK hc i pins s σ H E I hf st hg
  subst hP hw hK
  obtain⟨f0,f1,f2,f3,f4,f5⟩:=hf it (by simp)
  exact a4o (I.ok.hd hc) st (by have:n<=i:=hg;lia) λh' eb=>⟨rfl,I.turned (t':=s.toks) (λb o hb e=>eb b o hb e) f0 f1 f3 f4 f5⟩
 self:=λ_ _ _ _ _ st h=>a4p st h
end L2
namespace L2
open PySem PySem.Spec PyProof.Rows
section
variable {X:Cx}{tg:Expr}
theorem K7{pins:List (Addr×Obj)}{σ:St}{H:Hp}{s:ai}{R:It->Hp->Prop}{E:Value->ai->Prop}{lo hi:Int}{t u v:Tok}{tk:Nat}(I:Inv X pins σ H s)(h1:-(2^62)<=lo)(h2:lo<2^62)(h3:-(2^62)<=hi)(h4:hi<2^62)
 (q:R (xF lo (hi-lo).toNat) H):ax (aF X.prog X.w) X.A (qu (.ref s.heap.objs.size)) (DZ X pins σ tg R) E { s with heap:=s.heap.push { cls:=.type "range",data:=.fields #[.int lo t,.int hi u,.int 1 v] },toks:=tk }:=by
 refine a4q (IsRange.new ..) (small_one h1 h2 h3 h4) ?_
 have I1:Inv X pins σ H { s with heap:=s.heap.push { cls:=.type "range",data:=.fields #[.int lo t,.int hi u,.int 1 v] },toks:=tk }:=I.kept λb o e=>bP _ e
 refine⟨(s.heap.push { cls:=.type "range",data:=.fields #[.int lo t,.int hi u,.int 1 v] }).objs.size,[(s.heap.push { cls:=.type "range",data:=.fields #[.int lo t,.int hi u,.int 1 v] }).objs.size],_,_,H,rfl,
  I1.kept (t':=tk) λb o e=>bP _ e,T7 _ lo (hi-lo).toNat,?_,λb hb=>?_,q⟩
 ·have e1:lo+((0:Nat):Int)*1=lo:=by simp
  have e2:(((hi-lo).toNat:Nat):Int)-((0:Nat):Int)=Ag lo hi 1:=by rw[rangeSize_one];split<;>lia
  show JF _ _ (lo+((0:Nat):Int)*1) ((((hi-lo).toNat:Nat):Int)-((0:Nat):Int)) 1
  rw[e1,e2]
  exact dQ _ rfl
 ·have e:b=(s.heap.push { cls:=.type "range",data:=.fields #[.int lo t,.int hi u,.int 1 v] }).objs.size:=by simpa using hb
  subst e
  exact I1.ve (a7 _) (I1.aS.fresh (a7 _))
def qR(fp:List Addr)(h:Heap):List (Addr×Obj):=fp.filterMap λb=>(h.get? b).map λo=>(b,o)
theorem n4{fp:List Addr}{h:Heap}{b:Addr}{o:Obj}(hb:b∈fp)(e:h.get? b=some o):(b,o)∈qR fp h:=List.mem_filterMap.mpr ⟨b,hb,by rw[e];rfl⟩
theorem T8{fp:List Addr}{h:Heap}{p:Addr×Obj}(hp:p∈qR fp h):p.1∈fp/\h.get? p.1=some p.2:=by
 obtain⟨b,hb,e⟩:=List.mem_filterMap.mp hp
 cases q:h.get? b with
 | none=>rw[q] at e;cases e
 | some o =>
   rw[q] at e
   have e':(b,o)=p:=iQ e
   subst e'
   exact⟨hb,q⟩
theorem Inv.pinned{pins:List (Addr×Obj)}{σ:St}{H:Hp}{s:ai}{fp:List Addr}(I:Inv X pins σ H s)(hf:∀b∈fp,fL X pins H b)(ho:∀b∈fp,∃o,s.heap.get? b=some o/\∀v,o.data ≠ .cell v):Inv X (pins++qR fp s.heap) σ H s :=
 I.u_ λp hp=>(List.mem_append.mp hp).elim (λz=>I.pin p (c6 _ z)) λz=>by
  obtain⟨hb,e⟩:=T8 z
  obtain⟨f0,f1,f2,_⟩:=hf p.1 hb
  obtain⟨o,e',d⟩:=ho p.1 hb
  rw[e] at e';cases e'
  exact⟨e,f0,f1,f2,d⟩
theorem Inv.jk{pins pl:List (Addr×Obj)}{σ:St}{H:Hp}{s:ai}(I:Inv X (pins++pl) σ H s):Inv X pins σ H s:=I.u_ λp hp=>I.pin p (c6 _ (je _ hp))
end
end L2
namespace L2
open PySem PySem.Spec PyProof.Rows
abbrev R2:=V->V->Hp->VK->Prop
def fi(X:Cx)(f:Value->Value->Sem Value)(r:R2):Prop :=
 ∀(pins:List (Addr×Obj)) (s:ai) (σ:St) (H:Hp) (x y:V) (v u:Value) (Q:VK),Inv X pins σ H s->RelV x v->RelV y u->r x y H Q ->
  ax (aF X.prog X.w) X.A (f v u) (EP X pins σ Q) X.xe s
def lB(X:Cx)(f:Value)(r:List V->Hp->VK->Prop):Prop :=
 ∀(pins:List (Addr×Obj)) (s:ai) (σ:St) (H:Hp) (xs:List V) (us:List Value) (Q:VK),Inv X pins σ H s->Vals xs us->r xs H Q ->
  ax (aF X.prog X.w) X.A (call f us) (EP X pins σ Q) X.xe s
def rI(C:Int->Int->Prop)(g:Int->Int->V):R2:=λx y H Q=>∃i j,x = .int i/\y = .int j/\C i j/\Q (g i j) H
def qS(g:Int->Int->V):R2:=λx y H Q=>∃i j,x = .int i/\y = .int j/\Q (g i j) H
section
variable {X:Cx}{a b c:Expr}{ta tb tc:TE}{pos:Pos}
theorem xG{f:Value->Value->Sem Value}{C:Int->Int->Prop}{g:Int->Int->Int}
 (rule:∀(i j:Int) (t u:Tok) (s:ai) (Q:Value->ai->Prop) (E:Value->ai->Prop),C i j->Q (.int (g i j) s.toks) { s with toks:=s.toks+1 }->ax (aF X.prog X.w) X.A (f (.int i t) (.int j u)) Q E s) :
 fi X f (rI C λi j=>.int (g i j)):=by
 intro pins s σ H x y v u Q I rx ry h
 obtain⟨i,j,rfl,rfl,hc,q⟩:=h
 obtain⟨t,rfl⟩:=rx
 obtain⟨t',rfl⟩:=ry
 exact rule i j t t' s _ _ hc ⟨.int (g i j),H,I.tok _,⟨_,rfl⟩,q⟩
theorem K8{f:Value->Value->Sem Value}{g:Int->Int->Int}
 (rule:∀(i j:Int) (t u:Tok) (s:ai) (Q:Value->ai->Prop) (E:Value->ai->Prop),Q (.int (g i j) s.toks) { s with toks:=s.toks+1 }->ax (aF X.prog X.w) X.A (f (.int i t) (.int j u)) Q E s) :
 fi X f (qS λi j=>.int (g i j)):=by
 intro pins s σ H x y v u Q I rx ry h
 obtain⟨i,j,rfl,rfl,q⟩:=h
 obtain⟨t,rfl⟩:=rx
 obtain⟨t',rfl⟩:=ry
 exact rule i j t t' s _ _ ⟨.int (g i j),H,I.tok _,⟨_,rfl⟩,q⟩
theorem D2{f:Value->Value->Sem Value}{g:Int->Int->Bool}
 (rule:∀(i j:Int) (t u:Tok) (s:ai) (Q:Value->ai->Prop) (E:Value->ai->Prop),Q (.bool (g i j)) s->ax (aF X.prog X.w) X.A (f (.int i t) (.int j u)) Q E s) :
 fi X f (qS λi j=>.bl (g i j)):=by
 intro pins s σ H x y v u Q I rx ry h
 obtain⟨i,j,rfl,rfl,q⟩:=h
 obtain⟨t,rfl⟩:=rx
 obtain⟨t',rfl⟩:=ry
 exact rule i j t t' s _ _ ⟨.bl (g i j),H,I,rfl,q⟩
def T9(i j:Int):Prop:=0<j/\j<1073741824
def D3(i j:Int):Prop:=(-(2^64)<i/\i<2^64)∨(-(2^64)<j/\j<2^64)
theorem D3.ok{i j:Int}(h:D3 i j):IntMulOk i j:=by
 rcases h with ⟨h1,h2⟩ | ⟨h1,h2⟩
 ·exact .of_left (intBits_le_64 h1 h2)
 ·exact .of_right (intBits_le_64 h1 h2)
theorem T_:fi X (iS .Add) (qS λi j=>.int (i+j)):=K8 λ_ _ _ _ _ _ _ q=>add_int q
theorem Ua:fi X (iS .Sub) (qS λi j=>.int (i-j)):=K8 λ_ _ _ _ _ _ _ q=>sub_int q
theorem Ub:fi X (iS .Mult) (rI D3 λi j=>.int (i*j)):=xG λ_ _ _ _ _ _ _ hc q=>mul_int q hc.ok
theorem Uc:fi X (iS .FloorDiv) (rI T9 λi j=>.int (i/j)):=xG λi j _ _ _ _ _ hc q=>by
 have h1:(0:Int)<j:=hc.1
 have h2:j<1073741824:=hc.2
 exact floordiv_int (by lia) (by rw[a4r i (by lia)];exact q) (.inl (a4s (by lia)))
theorem Ud:fi X (iS .Mod) (rI (λ_ j=>0<j) λi j=>.int (i%j)):=xG λi j _ _ _ _ _ hc q=>by
 have h1:(0:Int)<j:=hc
 exact mod_int' (by lia) (by rw[Int.fmod_eq_emod_of_nonneg i (by lia)];exact q)
end
section
variable {X:Cx}{a b c:Expr}{ta tb tc:TE}{pos:Pos}
theorem Ue:fi X (oQ .Lt) (qS λi j=>.bl (decide (i<j))):=D2 λ_ _ _ _ _ _ _ q=>lt_int q
theorem Ug:fi X (oQ .LtE) (qS λi j=>.bl (decide (i<=j))):=D2 λ_ _ _ _ _ _ _ q=>le_int q
theorem Uh:fi X (oQ .Gt) (qS λi j=>.bl (decide (j<i))):=D2 λ_ _ _ _ _ _ _ q=>gt_int q
theorem fi.or{f:Value->Value->Sem Value}{r r':R2}(h:fi X f r)(h':fi X f r'):fi X f (λx y H Q=>r x y H Q∨r' x y H Q):=by
 intro pins s σ H x y v u Q I rx ry q
 rcases q with q | q
 ·exact h pins s σ H x y v u Q I rx ry q
 ·exact h' pins s σ H x y v u Q I rx ry q
theorem d9(b:Expr){op:CmpOp}(h:op ≠ .In:=by decide)(h2:op ≠ .NotIn:=by decide):JG op b=false:=by
 have e1:(op==CmpOp.In)=false:=by cases op<;>first | rfl | exact absurd rfl h
 have e2:(op==CmpOp.NotIn)=false:=by cases op<;>first | rfl | exact absurd rfl h2
 cases b<;>simp[JG,e1,e2]
theorem AX:(ck:Nat)<2^63:=by rw[nE];decide
theorem sQ{x:V}{us:List Value}(r:Vals [x] us):∃u,us=[u]/\RelV x u:=by
 cases r with
 | cons r1 r2=>cases r2;exact⟨_,rfl,r1⟩
theorem Ui{x y:V}{us:List Value}(r:Vals [x,y] us):∃u w',us=[u,w']/\RelV x u/\RelV y w':=by
 cases r with
 | cons r1 r2 =>
   cases r2 with
   | cons r3 r4=>cases r4;exact⟨_,_,rfl,r1,r3⟩
theorem Uj(hc:X.calm=true):lB X (.builtin "min") (λxs H Q=>∃i j,xs=[.int i,.int j]/\Q (.int (if j<i then j else i)) H):=by
 intro pins s σ H xs us Q I r h
 obtain⟨i,j,rfl,q⟩:=h
 obtain⟨u,w',rfl,⟨t,rfl⟩,⟨t',rfl⟩⟩:=Ui r
 refine min_two_ints (I.ok.hd hc) λh' tk k=>⟨_,H,I.kept k,?_,q⟩
 by_cases hj:j<i
 ·rw[if_pos hj,if_pos hj];exact⟨_,rfl⟩
 ·rw[if_neg hj,if_neg hj];exact⟨_,rfl⟩
theorem Uk:lB X (.type "int") (λxs H Q=>(∃i,xs=[.int i]/\Q (.int i) H)∨∃k,xs=[.bl k]/\Q (.int (if k then 1 else 0)) H):=by
 intro pins s σ H xs us Q I r h
 rcases h with ⟨i,rfl,q⟩ | ⟨k,rfl,q⟩
 ·obtain⟨u,rfl,t,rfl⟩:=sQ r
  exact call_int_int ⟨.int i,H,I,⟨_,rfl⟩,q⟩
 ·obtain⟨u,rfl,r1⟩:=sQ r
  cases r1
  exact call_int_bool ⟨.int (if k then 1 else 0),H,I.tok _,⟨_,rfl⟩,q⟩
end
end L2
namespace L2
open PySem PySem.Spec PyProof.Rows
structure K9 (h:Heap) (x dx C:Addr) (mA:Str->Option Value):Prop where
 obj:h.get? x=some (wU C dx)
 ns:h.Ns1 dx mA
 ne:dx≠x
theorem Ul{h:Heap}{dx:Addr}{mA:Str->Option Value}(n:h.Ns1 dx mA):∃od,h.get? dx=some od/\∀name,RE name od=some (mA name):=by
 obtain⟨o,es,ep,ho,hd,hk,_,hm⟩:=n
 refine⟨o,ho,λname=>?_⟩
 have e:=hm name
 unfold nsFind findBy at e
 rw[<-Array.find?_toList] at e
 unfold RE
 rw[hd]
 dsimp only
 split
 ·rename_i y q
  rw[q] at e
  exact congrArg some e
 ·rename_i q
  rw[q] at e
  have a:es.toList.any (·.refKey)=false:=by
   rw[List.any_eq_false]
   intro y hy
   obtain⟨z,t,D4⟩:=hk y (Array.mem_toList_iff.mp hy)
   simp[DictEntry.refKey,D4]
  have a':¬es.toList.any (·.refKey)=true:=by rw[a];exact qw
  rw[if_neg a']
  exact congrArg some e
theorem K9.look{h:Heap}{x dx C:Addr}{mA:Str->Option Value}(I:K9 h x dx C mA):∃od,PySem.W.InstAt h x (wU C dx) C (some od)/\∀name,RE name od=some (mA name) :=
 let ⟨od,ho,hl⟩:=Ul I.ns
 ⟨od,⟨I.obj,rfl,rfl,ho⟩,hl⟩
section
variable {prog:aY}{w:aO}{A:Around}{E:Value->ai->Prop}{s:ai}{K:aD}{x dx C f:Addr}{mA:Str->Option Value}{name:Str}{v:Value}
end
section
variable {P:aY}{w:aO}{H H':Hp}{h h':Heap}{a C dx:Addr}{fs DP:List (Str×V)}
end
structure D5 (K:aD) (C:Addr):Prop where
 pg:a4t K C Str.empty=true
 hd:PySem.W.hasDictIn K C=true
 po:PySem.W.plainOver K C=true
 sa:uB K (.ref C) "__setattr__"=some (some (.builtin "object.__setattr__"))
theorem D5.get{K:aD}{C:Addr}(c:D5 K C)(f:Str):a4t K C f=true:=c.pg
structure Con (K:aD) (C:Addr) (f:Str) (v:V) (u:Value):Prop where
 at_:uB K (.ref C) f=some (some u)
 rel:RelV v u
 get:a4u K u "__get__"=some none
 cp:PySem.W.copiedNames.contains f=false
structure Meth (K:aD) (C:Addr) (m:Str) (f:Addr):Prop where
 at_:uB K (.ref C) m=some (some (.ref f))
 fn:PySem.W.isFn K (.ref f)=true
 kp:C0 K (.ref f)=true
section
variable {X:Cx}{pins:List (Addr×Obj)}{σ:St}{H:Hp}{s:ai}{a C dx:Addr}{fs:List (Str×V)}{f:Str}{v:V}{A:Around}{E:Value->ai->Prop}
theorem Inv.made(I:Inv X pins σ H s):Inv X pins σ (upd (upd H s.heap.objs.size (.own (s.heap.objs.size+1))) (s.heap.objs.size+1) (.ins C s.heap.objs.size []))
 { s with heap:=(s.heap.push uC).push (wU C s.heap.objs.size) }:=by
 have e1:(s.heap.push uC).get? s.heap.objs.size=some uC:=dQ s.heap rfl
 have e2:((s.heap.push uC).push (wU C s.heap.objs.size)).get? (s.heap.objs.size+1)=some (wU C s.heap.objs.size):=by
  have:=dQ (s.heap.push uC) (o:=wU C s.heap.objs.size) rfl
  rwa [iw] at this
 have e3:(s.heap.push uC).Ns s.heap.objs.size (λ_=>none):=⟨uC,#[],_,e1,rfl,(λe he=>absurd he (by simp)),λ_=>rfl⟩
 have I1:=I.laid (a:=s.heap.objs.size) (o:=.own (s.heap.objs.size+1)) (h':=s.heap.push uC) (t':=s.toks) (λb u q=>bP _ q) (a7 _) ⟨_,e1⟩
 refine I1.laid (a:=s.heap.objs.size+1) (o:=.ins C s.heap.objs.size []) (t':=s.toks) (λb u q=>bP _ q) (RF (iw _ _)) ?_
 have ne:s.heap.objs.size≠s.heap.objs.size+1:=cN (qx _)
 refine⟨by rw[bS ne,dI],iT _,ne,e2,λ_=>none,(Heap.Ns1.of_empty e3).at λo q=>bP _ q,λ_=>C1,λy hy=>absurd rfl hy⟩
end
section
variable {X:Cx}{o e value:Expr}{f:Str}{pos pos' a8s:Pos}{ta tv:TE}
end
section
variable {X:Cx}{pins:List (Addr×Obj)}{σ:St}{H:Hp}{s:ai}{A:Around}{E:Value->ai->Prop}{Q:Value->ai->Prop}{c:Value}{b:Bool}
inductive mF (K:aD) (H:Hp):V->Value->Prop where
 | b_:mF K H .b_ (.type "NoneType")
 | bl (x:Bool):mF K H (.bl x) (.type "bool")
 | int (i:Int):mF K H (.int i) (.type "int")
 | str (x:Str):mF K H (.str x) (.type "str")
 | xx (x:UInt64):mF K H (.xx x) (.type "float")
 | lst {a:Addr} {xs:List V} (e:H a=some (.lst xs)):mF K H (.ref a) (.type "list")
 | fh {a:Addr} {o:Obj} {xs:List V} (e:H a=some (.fh o (.lst xs))):mF K H (.ref a) (.type "list")
 | tup {a:Addr} {xs:List V} (e:H a=some (.tup xs)):mF K H (.ref a) (.type "tuple")
 | dK {a:Addr} {fe:List (Key×V)} (e:H a=some (.dK fe)):mF K H (.ref a) (.type "dict")
 | dT {a:Addr} {fe:List (List Key×V)} (e:H a=some (.dT fe)):mF K H (.ref a) (.type "dict")
 | ins {a C dx:Addr} {fs:List (Str×V)} (e:H a=some (.ins C dx fs)) (cl:D5 K C) (ha:uB K (.ref C) "__class__"=some (some (.builtin "object.__class__")))
    (hn:a4u K (.builtin "object.__class__") "__get__"=some (some (.builtin "getset_descriptor.__get__"))) (K_:PySem.W.takesIn K (.builtin "object.__class__")=some true)
    (hm:JH K C (.type "object")=some true):mF K H (.ref a) (.ref C)
end
end L2
namespace L2
open PySem PySem.Spec PyProof.Rows
structure dE (k:Nat) (A:Around):Prop where
 hd:A.handled=none
 dp:A.depth+3*k+5<a4v
 un:A.units+16*k+200<fU
theorem dE.mono{j k:Nat}{A:Around}(r:dE k A)(h:j<=k):dE j A:=⟨r.hd,by have:=r.dp;lia,by have:=r.un;lia⟩
theorem dE.deeper{k:Nat}{A:Around}(r:dE (k+1) A)(env:Env):dE k (A.deeper env) :=
 ⟨r.hd,by have:=r.dp;show A.depth+1+3*k+5<_;lia,by have:=r.un;show A.units+3+16*k+200<_;lia⟩
theorem dE.in1{k:Nat}{A:Around}(r:dE (k+1) A):dE k A.in1 :=
 ⟨r.hd,by have:=r.dp;show A.depth+3*k+5<_;lia,by have:=r.un;show A.units+1+16*k+200<_;lia⟩
theorem dE.depth{k:Nat}{A:Around}(r:dE k A):A.depth<a4v:=by have:=r.dp;lia
theorem dE.units{k:Nat}{A:Around}(r:dE k A):A.units+64<fU:=by have:=r.un;lia
section
variable {X:Cx}{e:Expr}{es:List Expr}{te:TE}{t:TA}{pos:Pos}
end
abbrev Sp:=List V->Hp->VK->XK->Prop
abbrev kf:=List Env->Hp->ai->XK->Value->ai->Prop
structure qT (P:aY) (w:aO) (K:aD) (mg:Str->Option Value) (base:Heap) (A:Around) (outer:List Env) (s:ai) (H:Hp):Prop where
 frames:A.frames=some outer
 mod:Mod K mg base
 bs:∀b o,base.get? b=some o->s.heap.get? b=some o/\H b=none
 kI:base.objs.size<=s.heap.objs.size
 kJ:s.heap.FunFrames base outer
 pb:∀b∈cW outer,H b=none
 aS:dq P w H s.heap
 bare:nD s.gens
def CE(outer:List Env)(P:aY)(w:aO)(H:Hp)(s:ai)(Q:VK)(u:Value)(s':ai):Prop :=
 ∃v H',s'.os=s.os/\nD s'.gens/\Un (cW outer) [] H H' s.heap s'.heap/\dq P w H' s'.heap/\RelV v u/\Q v H'
def CR(CX:kf)(outer:List Env)(P:aY)(w:aO)(H:Hp)(s:ai)(Q:VK)(E:XK)(r:Ah)(s':ai):Prop :=
 match r with
 | .ok (.ret u)=>CE outer P w H s Q u s'
 | .ok _=>False
 | .error e=>CX outer H s E e s'
structure jo (P:aY) (w:aO) (K:aD) (mg:Str->Option Value) (base:Heap) (CX:kf) (k:Nat) (f:Addr) (fd:cP) (ps:List Str) (sp:Sp):Prop where
 len:∀vs H Q E,sp vs H Q E->vs.length=ps.length
 run:∀(A:Around) (outer:List Env) (s:ai) (H:Hp) (args:Args) (us:List Value) (vs:List V) (Q:VK) (E:XK),dE k A->qT P w K mg base A outer s H->BindsTo s fd args (ps.zip us)->Vals vs us->sp vs H Q E ->
  nG (aF P w) A (.call (.ref f) args) (CR CX outer P w H s Q E) s
theorem jo.mono{P:aY}{w:aO}{K:aD}{mg:Str->Option Value}{base:Heap}{CX:kf}{j k:Nat}{f:Addr}{fd:cP}{ps:List Str}{sp:Sp}(F:jo P w K mg base CX j f fd ps sp)(h:j<=k) :
 jo P w K mg base CX k f fd ps sp:=⟨F.len,λA outer s H args us vs Q E hr=>F.run A outer s H args us vs Q E (hr.mono h)⟩
theorem jo.imp{P:aY}{w:aO}{K:aD}{mg:Str->Option Value}{base:Heap}{CX:kf}{k:Nat}{f:Addr}{fd:cP}{ps:List Str}{sp La:Sp}(F:jo P w K mg base CX k f fd ps sp)
 (h:∀vs H Q E,La vs H Q E->sp vs H Q E):jo P w K mg base CX k f fd ps La :=
 ⟨λvs H Q E q=>F.len vs H Q E (h _ _ _ _ q),λA outer s H args us vs Q E hr he hb hv hs=>F.run A outer s H args us vs Q E hr he hb hv (h _ _ _ _ hs)⟩
theorem qT.in1{P:aY}{w:aO}{K:aD}{mg:Str->Option Value}{base:Heap}{A:Around}{outer:List Env}{s:ai}{H:Hp}(e:qT P w K mg base A outer s H) :
 qT P w K mg base A.in1 outer s H:=⟨e.frames,e.mod,e.bs,e.kI,e.kJ,e.pb,e.aS,e.bare⟩
section
variable {X:Cx}{pins:List (Addr×Obj)}{σ:St}{H:Hp}{s s':ai}
theorem Inv.D6(I:Inv X pins σ H s):qT X.prog X.w X.K X.mg X.base X.A X.stack s H :=
 ⟨I.ok.frames,I.ok.mod,I.bs,fB I.ok.kI I.sz,I.stack,I.AQ,I.aS,I.bare⟩
theorem Inv.after{Q:VK}{u:Value}(I:Inv X pins σ H s)(h:CE X.stack X.prog X.w H s Q u s'):EP X pins σ Q u s':=by
 obtain⟨v,H',os,bare,un,aS,r,q⟩:=h
 obtain⟨hh,g,d,t,kL⟩:=s'
 obtain rfl:kL=s.os:=os
 exact⟨v,H',I.call (h':=hh) (g':=g) (d':=d) (t':=t) (ch:=[]) un aS bare (λb z=>absurd z (by simp)),r,q⟩
end
def n6(K:aD)(fd:cP)(ps:List Str)(ds:List Value):Prop :=
 ∀(s:ai) (us:List Value),K.In s.heap->(us++ds).length=ps.length->BindsTo s fd ⟨us,[]⟩ (ps.zip (us++ds))
theorem n6.all{K:aD}{fd:cP}{ps:List Str}(h:∀us:List Value,us.length=ps.length->RG fd ⟨us,[]⟩=pure (ps.zip us)):n6 K fd ps []:=λs us _ hl=>by
 rw[lu] at hl ⊢
 exact .of_eq (h us hl)
section
variable {X:Cx}{CX:kf}{k:Nat}{f C:Addr}{fd:cP}{ps:List Str}{sp:Sp}{dvs:List V}{ds:List Value}{E:XK}{x m:Str}{p pos apos:Pos}{e o:Expr}{es:List Expr}{ta:TE}{t:TA}
structure Mk (K:aD) (C f:Addr):Prop where
 makes:PySem.W.makesIn K C=true
 init:uB K (.ref C) "__init__"=some (some (.ref f))
 fn:PySem.W.isFn K (.ref f)=true
 kp:C0 K (.ref C)=true
end
section
variable {X:Cx}{CX:kf}{k:Nat}{f C:Addr}{fd:cP}{ps ks:List Str}{sp:Sp}{E:XK}{x m:Str}{p pos apos a8t:Pos}{e o:Expr}{es:List Expr}{sR:List qz}{te ta:TE}{t tk:TA}{nm:Option Str}
structure a8u (K:aD) (fd:cP) (ps ks:List Str) (g:List Value->List Value->List Value) (gV:List V->List V->List V):Prop where
 to:∀(s:ai) (us ws:List Value),K.In s.heap->(g us ws).length=ps.length->BindsTo s fd ⟨us,ks.zip ws⟩ (ps.zip (g us ws))
 rel:∀{vs:List V} {us:List Value} {zs:List V} {ws:List Value},Vals vs us->Vals zs ws->Vals (gV vs zs) (g us ws)
variable {g:List Value->List Value->List Value}{gV:List V->List V->List V}
end
structure bW (N P:List Str) (sc:da):Prop where
 kind:sc.kind = .function
 co:sc.isCoroutine=false
 gen:sc.isGenerator=false
 nd:N.Nodup
 pre:N.take P.length=P
 par:∀x∈P,sc.names.lookup x=some .local∨sc.names.lookup x=some .cell
 Um:∀y∈sc.names,y.2 ≠ .free
theorem Lb{kindOf:Str->Option nJ}{x:Str}:∀{binds:List (Str×Value)} {m:Str->Option Value},(∀v,(x,v) ∉ binds)->uD kindOf binds m x=m x
 | [],_,_=>rfl
 | (n,v)::r,m,h=>by
   unfold uD
   rw[Lb λw hw=>h w (bL _ hw)]
   split
   ·have:x≠n:=by rintro rfl;exact h v bB
    simp[this]
   ·rfl
theorem Lc{kindOf:Str->Option nJ}{x:Str}:∀{binds:List (Str×Value)} {m:Str->Option Value},(∀v,(x,v) ∉ binds)->uE kindOf binds m x=m x
 | [],_,_=>rfl
 | (n,v)::r,m,h=>by
   unfold uE
   rw[Lc λw hw=>h w (bL _ hw)]
   split
   ·rfl
   ·have:x≠n:=by rintro rfl;exact h v bB
    simp[this]
theorem Ld{kindOf:Str->Option nJ}{x:Str}{v:Value}:∀{P:List Str} {vs:List Value} {i:Nat} {m:Str->Option Value},P.Nodup->P[i]? = some x->vs[i]? = some v->kindOf x=some .local ->
 uD kindOf (P.zip vs) m x=some v
 | [],_,_,_,_,h,_,_=>by simp at h
 | _::_,[],_,_,_,_,h,_=>by simp at h
 | p::P,w::vs,0,m,nd,h1,h2,hk=>by
   simp at h1 h2;subst h1;subst h2
   show uD kindOf ((p,w)::P.zip vs) m p=_
   unfold uD
   rw[Lb λv hv=>(List.nodup_cons.mp nd).1 (C2 hv).1,if_pos hk]
   simp
 | p::P,w::vs,i+1,m,nd,h1,h2,hk=>by
   show uD kindOf ((p,w)::P.zip vs) m x=_
   unfold uD
   exact Ld (i:=i) (List.nodup_cons.mp nd).2 (by simpa using h1) (by simpa using h2) hk
theorem Le{kindOf:Str->Option nJ}{x:Str}{v:Value}:∀{P:List Str} {vs:List Value} {i:Nat} {m:Str->Option Value},P.Nodup->P[i]? = some x->vs[i]? = some v->kindOf x≠some .local ->
 uE kindOf (P.zip vs) m x=some v
 | [],_,_,_,_,h,_,_=>by simp at h
 | _::_,[],_,_,_,_,h,_=>by simp at h
 | p::P,w::vs,0,m,nd,h1,h2,hk=>by
   simp at h1 h2;subst h1;subst h2
   show uE kindOf ((p,w)::P.zip vs) m p=_
   unfold uE
   rw[Lc λv hv=>(List.nodup_cons.mp nd).1 (C2 hv).1,if_neg hk]
   simp
 | p::P,w::vs,i+1,m,nd,h1,h2,hk=>by
   show uE kindOf ((p,w)::P.zip vs) m x=_
   unfold uE
   exact Le (i:=i) (List.nodup_cons.mp nd).2 (by simpa using h1) (by simpa using h2) hk
def start(N:List Str)(vs:List V):St:=vs.map some++dD (N.length-vs.length) none
def sS(CX:kf)(P:aY)(w:aO)(K:aD)(mg:Str->Option Value)(base:Heap)(N:List Str)(qual:Str)(scope:da)(f:Addr)(cd:Value)(A:Around)(outer:List Env)(s:ai)(H:Hp)(E:XK):Cx where
 prog:=P
 w:=w
 K:=K
 mg:=mg
 base:=base
 A:=A.deeper (sr qual scope s.heap.objs.size f cd)
 N:=N
 s₀:=s
 H₀:=H
 env:=sr qual scope s.heap.objs.size f cd
 outer:=outer
 stack:=sr qual scope s.heap.objs.size f cd::outer
 ex:=[]
 calm:=true
 fn:=λ_=>true
 pn:=[]
 xe:=λe s'=>ax (aF P w) (A.deeper (sr qual scope s.heap.objs.size f cd)) (RH (sr qual scope s.heap.objs.size f cd) e) (λ_ sT=>CX outer H s E e sT) (λe' sT=>CX outer H s E e' sT) s'
theorem Lf{sc:da}{n:Nat}{x:Str}(h:sc.names.lookup x=some .cell):∃c,(RI n sc.names []).lookup x=some c:=by
 have q:=a4w sc.names n [] (.inl h)
 exact Option.isSome_iff_exists.mp q
theorem Uo{CX:kf}{P:aY}{w:aO}{K:aD}{mg:Str->Option Value}{base:Heap}{N ps:List Str}{qual:Str}{scope:da}{f:Addr}{cd:Value}{A:Around}{outer:List Env}{s s1:ai}{H:Hp}{E:XK}{us:List Value}{vs:List V}
 (S:bW N ps scope) (hd:A.handled=none) (e0:qT P w K mg base A outer s H) (hl:vs.length=ps.length) (r:Vals vs us)
 (x:InCallC s s.heap.objs.size (uD (sr qual scope s.heap.objs.size f cd).kindOf (ps.zip us) λ_=>none) (RI (s.heap.objs.size+1) scope.names []) (uE (sr qual scope s.heap.objs.size f cd).kindOf (ps.zip us) λ_=>none) s1) :
 Inv (sS CX P w K mg base N qual scope f cd A outer s H E) [] (start N vs) H s1:=by
 have fM:ps.length<=N.length:=by have:=congrArg JI S.pre;rw[mj] at this;lia
 obtain⟨h1,tk,rfl,hk⟩:=x.done
 have xH:∀b:Addr,b ∉ (sS CX P w K mg base N qual scope f cd A outer s H E).ex:=λb z=>absurd (show b∈([]:List Addr) from z) (by simp)
 refine⟨⟨e0.mod,S.kind,rfl,rfl,a7 _,λy z c h1 h2=>?_,λy hy=>?_,λy c _ h=>?_,λ_=>hd,Around.frames_deeper e0.frames,.inr ⟨rfl,rfl⟩,λb z=>absurd z (xH b),e0.bs,e0.kI,λb _ _=>xH b,λb z=>absurd z (xH b),e0.kJ,e0.pb⟩,
  rfl,e0.bare,Un.kept hk,⟨_,x.toInCall.ns,λi y v h1 h2 h3=>?_⟩,λy c h=>⟨_,x.cell y c h⟩,e0.aS.fresh (a7 _),λy c h=>?_,λp hp=>absurd (show p∈([]:List (Addr×Obj)) from hp) (by simp),e0.aS.kept hk,?_⟩
 ·exact name_of_addr x.apart (jI h1) (jI h2)
 ·have hy:scope.names.lookup y=some .cell∨scope.names.lookup y=some .free:=hy
  rcases hy with hy | hy
  ·exact Lf hy
  ·exact absurd rfl (S.Um _ (jI hy))
 ·exact sj (x.above y c (jI h))
 ·have hi:i<vs.length:=by
   unfold start at h2
   by_cases hi:i<vs.length
   ·exact hi
   ·rw[su (by simpa using hi)] at h2
    rw[RJ] at h2
    split at h2<;>cases h2
  have ha:vs[i]? = some v:=by
   unfold start at h2
   rw[sy (by simpa using hi),cm] at h2
   cases e:vs[i]? with
   | none=>rw[e] at h2;cases h2
   | some a=>rw[e] at h2;cases h2;rfl
  obtain⟨u,hu,rv⟩:=r.get ha
  have hp:ps[i]? = some y:=by
   rw[<-S.pre,JJ (by lia)];exact h1
  have Lg:ps.Nodup:=by rw[<-S.pre];exact S.nd.sublist (List.take_sublist _ _)
  refine⟨u,rv,?_⟩
  rcases S.par y (fV hp) with k | k
  ·exact .inl ⟨k,Ld Lg hp hu k⟩
  ·obtain⟨c,e⟩:=Lf (n:=s.heap.objs.size+1) k
   refine .inr ⟨.inl k,c,e,?_⟩
   have q:=x.cell y c e
   rw[Le Lg hp hu (by show scope.names.lookup y≠_;rw[k];decide)] at q
   exact q
 ·exact e0.aS.fresh (sj (x.above y c (jI h)))
 ·unfold start
  show _=N.length
  rw[fD,bu,List.length_replicate]
  lia
theorem AY{CX:kf}{P:aY}{w:aO}{K:aD}{mg:Str->Option Value}{base:Heap}{k:Nat}{f:Addr}{name qual:Str}{params:Arguments}{body:List Stmt}{scope:da}{dV kV doc pm bH ct oc:Value}{an od:Option Addr}
 {n9:Array (Option Value)} {N ps:List Str} {sp:Sp} (lk:K.lookup f=some ⟨oc,od,.func (C3 name qual params body scope dV kV doc pm an bH ct),n9⟩) (d8:JK K bH qual=true) (S:bW N ps scope)
 (len:∀vs H Q E,sp vs H Q E->vs.length=ps.length)
 (mG:∀(A:Around) (outer:List Env) (s:ai) (H:Hp) (vs:List V) (Q:VK) (E:XK),dE k (A.deeper (sr qual scope s.heap.objs.size f bH))->sp vs H Q E ->
   ∃t,xD (sS CX P w K mg base N qual scope f bH A outer s H E) body t/\t { nx:=λ_ H'=>Q .b_ H',rt:=Q } (start N vs) H) :
 jo P w K mg base CX (k+1) f (C3 name qual params body scope dV kV doc pm an bH ct) ps sp:=by
 refine⟨len,λA outer s H args us vs Q E hr e0 hb r fm=>?_⟩
 have hl:=len _ _ _ _ fm
 have KX:K.In s.heap:=e0.mod.sJ.keeps λb o e=>(e0.bs b o e).1
 have lim:s.heap.NoLimit:=e0.mod.nolimit.keeps λb o e=>(e0.bs b o e).1
 have Up:∀y∈ps.zip us,scope.names.lookup y.1=some .local∨(scope.names.lookup y.1=some .cell/\((RI (s.heap.objs.size+1) scope.names []).lookup y.1).isSome=true):=λ⟨n,v⟩ hy=>by
  rcases S.par n (C2 hy).1 with q | q
  ·exact .inl q
  ·exact .inr ⟨q,a4w _ _ _ (.inl q)⟩
 refine codeAny_call_function hr.depth (KX _ _ lk) rfl S.co S.gen rfl (PySem.W.codeRec_of KX d8) (hb _ _ _ _ ?_)
 refine wpAny_newFunctionEnv_cells S.kind Up λenv he s1 x=>?_
 subst he
 refine⟨lim.keeps x.toInCall.keep,codeAny_func ?_⟩
 obtain⟨t,ht,hq⟩:=mG A outer s H vs Q E (hr.deeper _) fm
 have I:Inv (sS CX P w K mg base N qual scope f bH A outer s H E) [] (start N vs) H s1:=Uo S hr.hd e0 hl r x
 refine aC (ht [] s1 (start N vs) H _ I hq) (λfl s' hs=>?_) λe s' hs=>hs
 have fin:∀{aQ:St} {H':Hp} {v:V} {u:Value},Inv (sS CX P w K mg base N qual scope f bH A outer s H E) [] aQ H' s'->RelV v u->Q v H'->CE outer P w H s Q u s' :=
  λ{aQ H' v u} J rv q=>⟨v,H',J.os,J.bare,J.base,J.aS,rv,q⟩
 cases fl with
 | ret u =>
   obtain⟨v,aQ,H',J,rv,q⟩:=hs
   exact fin J rv q
 | next =>
   obtain⟨aQ,H',J,q⟩:=hs
   exact fin (v:=V.b_) (u:=kE) J rfl q
 | brk =>
   obtain⟨_,_,_,q⟩:=hs
   exact cT q
 | cont =>
   obtain⟨_,_,_,q⟩:=hs
   exact cT q
end L2
namespace L2
open PySem PySem.Spec PyProof.Rows
section
variable {X:Cx}{x:Str}{p pos:Pos}{e:Expr}{es:List Expr}{t:TA}{id T:String}{r:List V->Hp->VK->Prop}
end
end L2
namespace HT
open PySem PyProof.Rows
section
open PySem.SeqAt
open PySem.AutoSeq1 (wpAny_loadPart')
open PySem.MeetsSeq PySem.MeetsSeq2 PySem.MeetsSeq3
end
section
variable {prog:aY}{w:aO}{A:Around}{E:Value->ai->Prop}{s:ai}
theorem Uq{t b:Addr}{vs ws:List Value}{Q:Value->ai->Prop}(ht:si s.heap t vs.toArray)(hb:si s.heap b ws.toArray)(hv:vs≠[])
 (h1:ws=[]->Q (.ref t) s) (h2:ws≠[]->Q (.ref s.heap.objs.size) { s with heap:=s.heap.push { cls:=.type "tuple",data:=.seq (vs++ws).toArray } })
 (iF:vs.length+ws.length<=ck):ax (aF prog w) A (iS .Add (.ref t) (.ref b)) Q E s:=by
 obtain⟨⟨cls,dd,data,sl⟩,ho,hc,n,hd⟩:=id ht
 obtain⟨⟨Ur,AZ,data2,A0⟩,ph,n_,n2,hd2⟩:=id hb
 simp only at hc hd n_ hd2
 subst hc hd n_ hd2
 have e:vs.toArray++ws.toArray=(vs++ws).toArray:=by simp
 by_cases hw:ws=[]
 ·exact JL ⟨_,ho,rfl⟩ ⟨_,ph,rfl⟩ RK RL RM RN (RO _ _)
   (tuple_addW1 t b vs.toArray ws.toArray n n2 dd AZ sl A0 (by simpa using hv) (by simp[hw])) ⟨ho,ph,h1 hw⟩
 ·refine JL ⟨_,ho,rfl⟩ ⟨_,ph,rfl⟩ RK RL RM RN (RO _ _)
   (tuple_addW2 t b vs.toArray ws.toArray n n2 dd AZ sl A0 (by simpa using hv) (by simpa using hw) (by rw[dc,dc];exact iF)) ⟨ho,ph,?_⟩
  rw[e]
  exact h2 hw
def a9(n d:Nat):Option Int->Nat
 | none=>d
 | some v=>if v<0 then (v+(n:Int)).toNat else min v.toNat n
theorem D7(n d:Nat):a9 n d none=d:=rfl
theorem D8(n d k:Nat):a9 n d (some (k:Int))=min k n:=by
 show(if (k:Int)<0 then ((k:Int)+(n:Int)).toNat else min (k:Int).toNat n)=min k n
 rw[if_neg (by lia),mq]
theorem Us(n d:Nat)(hd:d<=n)(o:Option Int):a9 n d o<=n:=by
 cases o with
 | none=>exact hd
 | some v =>
   show(if v<0 then (v+(n:Int)).toNat else min v.toNat n)<=n
   by_cases hv:v<0
   ·rw[if_pos hv];lia
   ·rw[if_neg hv];exact Nat.min_le_right _ _
theorem Lh(v:Int)(n d:Nat):(if v<0 then max (v+(n:Int)) 0 else min v (n:Int))=((a9 n d (some v):Nat):Int):=by
 show(if v<0 then max (v+(n:Int)) 0 else min v (n:Int))=(((if v<0 then (v+(n:Int)).toNat else min v.toNat n):Nat):Int)
 by_cases hv:v<0
 ·simp only[if_pos hv];lia
 ·simp only[if_neg hv];lia
theorem Ut(lo hi:Option Int)(n:Nat):RP lo hi 1 (n:Int)=(((a9 n 0 lo:Nat):Int),((a9 n n hi:Nat):Int)):=by
 have h1:¬((1:Int)<0):=by lia
 unfold RP
 simp only[h1,if_false]
 refine Prod.ext ?_ ?_
 ·cases lo with
  | none=>rfl
  | some v=>exact Lh v n 0
 ·cases hi with
  | none=>rfl
  | some v=>exact Lh v n n
theorem Uu(i j:Nat):JM (i:Int) (j:Int) 1=j-i:=by
 unfold JM
 have h1:(1:Int)>0:=by lia
 simp only[h1,if_true,Int.ediv_one]
 split<;>lia
theorem Li{v:Value}{o:Option Int}{Q:Option Int->ai->Prop}(p:qA v o)(h:Q o s):ax (aF prog w) A (Builtin.Slice.slicePartIndex v) Q E s:=by
 cases p with
 | none=>exact a4x h
 | int i t=>exact slicePart_int h
theorem Lj{sl:Addr}{vl vu:Value}{lo hi:Option Int}{n:Nat}{Q:Int×Int×Nat->ai->Prop}(hs:s.heap.IsSliceOf sl vl vu .none)(pl:qA vl lo)(pu:qA vu hi)
 (h:Q (((a9 n 0 lo:Nat):Int),1,a9 n n hi-a9 n 0 lo) s):ax (aF prog w) A (a4y (.ref sl) (pure (n:Int))) Q E s:=by
 obtain⟨os,sU,A1,xI⟩:=id hs
 unfold a4y Builtin.Slice.sliceFields
 refine ay (ay (nK sU xI (x:=vl) rfl (ay (nK sU xI (x:=vu) rfl (ay (nK sU xI (x:=.none) rfl (aM ?_)))))))
 refine ay (a4x ?_)
 show ax _ _ (if ((1:Int)==0)=true then _ else _) _ _ s
 rw[if_neg (by decide)]
 refine ay (Li pl (ay (Li pu (ay (aM ?_)))))
 show ax _ _ (match RP lo hi 1 (n:Int) with | (lo,hi)=>pure (lo,(1:Int),JM lo hi 1)) _ _ s
 rw[Ut lo hi n]
 show ax _ _ (pure (((a9 n 0 lo:Nat):Int),(1:Int),JM ((a9 n 0 lo:Nat):Int) ((a9 n n hi:Nat):Int) 1)) _ _ s
 rw[Uu]
 exact aM h
theorem Uv(xs:Array Value)(i k:Nat):((bK k).filterMap λ(m:Nat)=>xs[((i:Int)+(m:Int)*1).toNat]?).toArray=((xs.toList.drop i).take k).toArray:=by
 have e:(λ(m:Nat)=>xs[((i:Int)+(m:Int)*1).toNat]?)=λm=>xs[i+m]?:=by
  funext m
  have:((i:Int)+(m:Int)*1).toNat=i+m:=by lia
  rw[this]
 rw[e]
 have:=pick_run xs i k
 rw[List.filterMap_map] at this
 have e2:((λx=>xs[x]?) ∘ λx=>i+x)=λm=>xs[i+m]?:=rfl
 rw[e2] at this
 rw[this]
theorem Uw{t sl:Addr}{items:Array Value}{vl vu:Value}{lo hi:Option Int}{Q:Value->ai->Prop}(ht:si s.heap t items)(hs:s.heap.IsSliceOf sl vl vu .none)(pl:qA vl lo)(pu:qA vu hi)
 (hw:¬(a9 items.size 0 lo=0/\a9 items.size items.size hi=items.size))
 (h:Q (.ref s.heap.objs.size) { s with heap:=s.heap.push { cls:=.type "tuple",data:=.seq ((items.toList.drop (a9 items.size 0 lo)).take (a9 items.size items.size hi-a9 items.size 0 lo)).toArray } })
 (iF:items.size<=ck):ax (aF prog w) A (wW (.ref t) (.ref sl)) Q E s:=by
 have A2:sizeOk (.seq ((items.toList.drop (a9 items.size 0 lo)).take (a9 items.size items.size hi-a9 items.size 0 lo)).toArray):=by
  show((items.toList.drop (a9 items.size 0 lo)).take (a9 items.size items.size hi-a9 items.size 0 lo)).toArray.size<=ck
  rw[dc,mj,wX,gK]
  lia
 have hj:a9 items.size items.size hi<=items.size:=Us _ _ (a7 _) hi
 obtain⟨os,sU,A1,xI⟩:=id hs
 have D9:s.TypeIs (.ref sl) "slice":=⟨os,sU,A1⟩
 unfold wW
 try with_reducible refine j9 ?_
 first | refine ay (aM ?_) | skip
 refine ay (a4z ht.typeIs (by decide) ?_)
 refine ay (uF (name:=cU "__getitem__") ht.typeIs JN
  (nM JN ht.typeIs a5a ?_ (a5b _ _)))
 show ax _ _ (a5c (.ref t)>>=_) _ _ s
 refine ay (tupleItemsOf_ ht ?_)
 refine ay (Ai D9 ?_)
 rw[if_pos (by decide)]
 refine ay (Lj hs pl pu ?_)
 have D_:¬((((a9 items.size 0 lo:Nat):Int)==0&&(1:Int)==1&&(a9 items.size items.size hi-a9 items.size 0 lo)==items.size)=true):=by
  intro q
  rw[jf,jf] at q
  have q1:((a9 items.size 0 lo:Nat):Int)=0:=eq_of_beq q.1.1
  have q2:a9 items.size items.size hi-a9 items.size 0 lo=items.size:=eq_of_beq q.2
  exact hw ⟨by lia,by lia⟩
 show ax _ _ (if (((a9 items.size 0 lo:Nat):Int)==0&&(1:Int)==1&&(a9 items.size items.size hi-a9 items.size 0 lo)==items.size)=true then _ else _) _ _ s
 rw[if_neg D_,Uv]
 first
  | exact ay (m:=JO _) (oR (aM ⟨_,rfl,aM h⟩) A2)
  | exact ay (m:=JO _) (oR (ay (aM (aM ⟨_,rfl,aM h⟩))) A2)
  | exact ay (ay (m:=JO _) (oR (aM (aM ⟨_,rfl,aM h⟩)) A2))
  | exact ay (ay (m:=JO _) (oR (aM ⟨_,rfl,aM h⟩) A2))
end
end HT
namespace L2
open PySem PySem.Spec PyProof.Rows
abbrev TO:=St->Hp->(Option Int->Hp->Prop)->Prop
theorem intsAre_of{ns:List Int}:∀{us:List Value},Vals (ns.map V.int) us->kF us ns:=by
 induction ns with
 | nil=>intro us r;rw[wY] at r;cases r;exact .nil
 | cons n ns ih =>
   intro us r
   rw[cJ] at r
   cases r with
   | cons r1 r2 =>
     obtain⟨t,e⟩:=r1
     subst e
     exact .cons n t (ih r2)
section
variable {X:Cx}{e:Expr}{te:TE}{lo hi:Option Expr}{tl th:TO}{pos p2:Pos}
def og(X:Cx)(r:V->Option Int->Option Int->Hp->VK->Prop):Prop :=
 ∀(pins:List (Addr×Obj)) (s:ai) (σ:St) (H:Hp) (x:V) (v vl vu:Value) (lo hi:Option Int) (sl:Addr) (Q:VK),Inv X pins σ H s->RelV x v->s.heap.IsSliceOf sl vl vu .none->qA vl lo->qA vu hi->r x lo hi H Q ->
  ∃T id,RQ (.type T) "__getitem__"=pure (some (.builtin id))/\s.TypeIs v T/\ax (aF X.prog X.w) X.A (wW v (.ref sl)) (EP X pins σ Q) X.xe s
theorem og.or{r r':V->Option Int->Option Int->Hp->VK->Prop}(h:og X r)(h':og X r'):og X (λx lo hi H Q=>r x lo hi H Q∨r' x lo hi H Q):=by
 intro pins s σ H x v vl vu lo hi sl Q I rx hs pl pu q
 rcases q with q | q
 ·exact h pins s σ H x v vl vu lo hi sl Q I rx hs pl pu q
 ·exact h' pins s σ H x v vl vu lo hi sl Q I rx hs pl pu q
def mH(xs:List V)(lo hi:Option Int):List V:=(xs.drop (HT.a9 xs.length 0 lo)).take (HT.a9 xs.length xs.length hi-HT.a9 xs.length 0 lo)
theorem Lk(xs:List V)(lo hi:Option Int):(mH xs lo hi).length<=xs.length:=by
 unfold mH
 rw[mj,wX]
 lia
def Ux(K:aD):V->Option Int->Option Int->Hp->VK->Prop:=λx lo hi H Q=>∃a xs,x = .ref a/\b6 K H a xs /\
 ¬(HT.a9 xs.length 0 lo=0/\HT.a9 xs.length xs.length hi=xs.length)/\∀p,H p=none->Q (.ref p) (upd H p (.tup (mH xs lo hi)))
theorem Uy:og X (Ux X.K):=by
 intro pins s σ H x v vl vu lo hi sl Q I rx hs pl pu h
 obtain⟨a,xs,rfl,hx,hw,q⟩:=h
 cases rx
 obtain⟨its,r,ht,hz⟩:=I.tuple hx
 have hlen:its.toArray.size=xs.length:=by rw[dc];exact r.length.symm
 refine⟨"tuple",_,PyProof.Rows.slot_tuple_getitem.lookup,ht.typeIs,?_⟩
 refine HT.Uw ht hs pl pu (by rw[hlen];exact hw) ?_ (by rw[hlen];exact hz)
 rw[hlen]
 refine⟨.ref s.heap.objs.size,_,I.laid (t':=s.toks) (o:=.tup (mH xs lo hi)) (λb ob q=>bP _ q) (a7 _) ?_,rfl,q _ (I.aS.fresh (a7 _))⟩
 exact⟨fB (Lk xs lo hi) hz,_,(r.drop (HT.a9 xs.length 0 lo)).take (HT.a9 xs.length xs.length hi-HT.a9 xs.length 0 lo),RS _ _⟩
def Uz(K:aD):R2:=λx y H Q=>∃a b xs ys,x = .ref a/\y = .ref b/\b6 K H a xs/\b6 K H b ys/\xs≠[]/\xs.length+ys.length<=ck /\
 (ys=[]->Q (.ref a) H)/\(ys≠[]->∀p,H p=none->Q (.ref p) (upd H p (.tup (xs++ys))))
theorem Vals.jq{xs:List V}{us:List Value}(r:Vals xs us):us=[]↔xs=[]:=by
 cases r with
 | nil=>simp
 | cons _ _=>simp
theorem UA:fi X (iS .Add) (Uz X.K):=by
 intro pins s σ H x y v u Q I rx ry h
 obtain⟨a,b,xs,ys,rfl,rfl,ha,hb,hx,hz,q1,q2⟩:=h
 cases rx
 cases ry
 obtain⟨its,r1,p1,_⟩:=I.tuple ha
 obtain⟨oh,r2,p2,_⟩:=I.tuple hb
 refine HT.Uq p1 p2 (λz=>hx (r1.jq.mp z)) (λz=>⟨.ref a,H,I,rfl,q1 (r2.jq.mp z)⟩) (λz=>?_) (by rw[<-r1.length,<-r2.length];exact hz)
 refine⟨.ref s.heap.objs.size,_,I.laid (t':=s.toks) (o:=.tup (xs++ys)) (λb ob q=>bP _ q) (a7 _) ?_,rfl,q2 (λw=>z (r2.jq.mpr w)) _ (I.aS.fresh (a7 _))⟩
 exact⟨by rw[fD];exact hz,_,r1.append r2,RS _ _⟩
end
end L2
namespace L2
open PySem PySem.Spec PyProof.Rows
def hG(n:Nat)(i:Int):Option Nat:=if 0<=i then (if i<n then some i.toNat else none) else if -(n:Int)<=i then some (i+n).toNat else none
def bX{α:Type}(xs:List α)(i:Int):Option α:=(hG xs.length i).bind λj=>xs[j]?
theorem Ll{n:Nat}{i:Int}{j:Nat}(h:hG n i=some j):seqIndex? i n=some j/\j<n /\ -(n:Int)<=i/\i<n:=by
 unfold hG at h
 by_cases h0:0<=i
 ·rw[if_pos h0] at h
  by_cases h1:i<n
  ·rw[if_pos h1] at h
   have e:i.toNat=j:=iQ h
   exact⟨by rw[RT h0 h1,e],by lia,by lia,h1⟩
  ·rw[if_neg h1] at h;cases h
 ·rw[if_neg h0] at h
  by_cases h1:-(n:Int)<=i
  ·rw[if_pos h1] at h
   have e:(i+n).toNat=j:=iQ h
   exact⟨by rw[RU (by lia) h1,e],by lia,h1,by lia⟩
  ·rw[if_neg h1] at h;cases h
theorem Lm{α:Type}{xs:List α}{i:Int}{v:α}(h:bX xs i=some v):∃j,seqIndex? i xs.length=some j/\xs[j]? = some v/\j<xs.length /\ -(xs.length:Int)<=i/\i<xs.length:=by
 unfold bX at h
 cases e:hG xs.length i with
 | none=>rw[e] at h;cases h
 | some j =>
   rw[e] at h
   obtain⟨h1,h2,h3,h4⟩:=Ll e
   exact⟨j,h1,h,h2,h3,h4⟩
def UB(b:Expr):Prop:=∀o i,subscripted b false o i=operate [o,i] (wW o i)
def vf(X:Cx)(r:R2):Prop :=
 ∀(value slice:Expr) (pins:List (Addr×Obj)) (s:ai) (σ:St) (H:Hp) (x y:V) (v u:Value) (Q:VK),Inv X pins σ H s->RelV x v->RelV y u->r x y H Q ->
  subscripted slice false v u=operate [v,u] (wW v u)->ax (aF X.prog X.w) X.A (subscriptTail value slice v u) (EP X pins σ Q) X.xe s
def A3(X:Cx)(id:String)(r:V->List V->Hp->VK->Prop):Prop :=
 ∀(pins:List (Addr×Obj)) (s:ai) (σ:St) (H:Hp) (x:V) (xs:List V) (v:Value) (us:List Value) (Q:VK),Inv X pins σ H s->RelV x v->Vals xs us->r x xs H Q ->
  ax (aF X.prog X.w) X.A (call (.builtin id) (v::us)) (EP X pins σ Q) X.xe s
section
variable {X:Cx}{a b:Expr}{ta tb:TE}{pos:Pos}
theorem vf.or{r r':R2}(h:vf X r)(h':vf X r'):vf X (λx y H Q=>r x y H Q∨r' x y H Q):=by
 intro value slice pins s σ H x y v u Q I rx ry q hs
 rcases q with q | q
 ·exact h value slice pins s σ H x y v u Q I rx ry q hs
 ·exact h' value slice pins s σ H x y v u Q I rx ry q hs
theorem A3.or{id:String}{r r':V->List V->Hp->VK->Prop}(h:A3 X id r)(h':A3 X id r'):A3 X id (λx xs H Q=>r x xs H Q∨r' x xs H Q):=by
 intro pins s σ H x xs v us Q I rx rs q
 rcases q with q | q
 ·exact h pins s σ H x xs v us Q I rx rs q
 ·exact h' pins s σ H x xs v us Q I rx rs q
def UC(K:aD):R2:=λx y H Q=>∃p xs i v,x = .ref p/\y = .int i/\bM K H p xs/\bX xs i=some v/\Q v H
def UD(K:aD):R2:=λx y H Q=>∃p xs i v,x = .ref p/\y = .int i/\b6 K H p xs/\bX xs i=some v/\Q v H
theorem UE:vf X (UC X.K):=by
 intro value slice pins s σ H x y v u Q I rx ry h hs
 obtain⟨p,xs,i,z,rfl,rfl,hq,he,q⟩:=h
 cases rx
 obtain⟨t,rfl⟩:=ry
 obtain⟨its,r,pl,hz⟩:=I.list hq
 obtain⟨j,h1,h2,h3,h4,h5⟩:=Lm he
 obtain⟨w,ew,Ea⟩:=r.get h2
 have hl:=r.length
 have hn:=AX
 have fin:EP X pins σ Q w s:=⟨z,H,I,Ea,q⟩
 by_cases h0:0<=i
 ·have hj:i.toNat=j:=by
   rw[RT h0 h5] at h1
   exact iQ h1
  exact item_listR pl.isList h0 (by lia) (by rw[hj];simpa using ew) fin hs
 ·have hj:(i+(its.toArray.size:Int)).toNat=j:=by
   rw[RU (by lia) h4] at h1
   rw[dc,<-hl]
   exact iQ h1
  exact a5d (x:=w) pl.isList.typeIs slot_list_getitem.lookup
   (wpAny_getItem_list_neg (Q:=λr s'=>r=w/\EP X pins σ Q r s') pl.isList (by lia) (by rw[dc]<;>lia) (by lia) (by rw[hj];simpa using ew) ⟨rfl,fin⟩) hs
theorem UG:vf X (UD X.K):=by
 intro value slice pins s σ H x y v u Q I rx ry h hs
 obtain⟨p,xs,i,z,rfl,rfl,hq,he,q⟩:=h
 cases rx
 obtain⟨t,rfl⟩:=ry
 obtain⟨its,r,pl,hz⟩:=I.tuple hq
 obtain⟨j,h1,h2,h3,h4,h5⟩:=Lm he
 obtain⟨w,ew,Ea⟩:=r.get h2
 have hl:=r.length
 have hn:=AX
 have fin:EP X pins σ Q w s:=⟨z,H,I,Ea,q⟩
 exact a5d (x:=w) pl.typeIs slot_tuple_getitem.lookup
  (getItem_tuple (j:=j) (Q:=λr s'=>r=w/\EP X pins σ Q r s') pl (by lia) (by lia) (by rw[dc,<-hl];exact h1) (by simpa using ew) ⟨rfl,fin⟩) hs
theorem UH(its:List Value)(n j:Nat)(u:Value):qB (·.setIfInBounds j u) { cls:=.type "list",data:=.seq its.toArray n }={ cls:=.type "list",data:=.seq (its.set j u).toArray n }:=by
 simp[qB]
theorem Inv.lst{pins:List (Addr×Obj)}{σ:St}{H:Hp}{s:ai}{p:Addr}{xs:List V}(I:Inv X pins σ H s)(h:H p=some (.lst xs)) :
 ∃(its:List Value) (n:Nat),Vals xs its/\s.heap.get? p=some { cls:=.type "list",data:=.seq its.toArray n }/\xs.length<=ck:=by
 obtain⟨z,its,n,r,e⟩:=I.aS p _ h
 exact⟨its,n,r,e,z⟩
theorem Inv.UI{pins:List (Addr×Obj)}{σ:St}{H:Hp}{s:ai}{p:Addr}{xs ys:List V}{its its':List Value}{n n':Nat}{f:Obj->Obj}(I:Inv X pins σ H s)(h:H p=some (.lst xs))
 (ho:s.heap.get? p=some { cls:=.type "list",data:=.seq its.toArray n }) (hf:f { cls:=.type "list",data:=.seq its.toArray n }={ cls:=.type "list",data:=.seq its'.toArray n' }) (r:Vals ys its') (hz:ys.length<=ck) (t:Nat) :
 Inv X pins σ (upd H p (.lst ys)) { s with heap:=s.heap.update p f,toks:=t }:=by
 have e:(s.heap.update p f).get? p=some { cls:=.type "list",data:=.seq its'.toArray n' }:=by
  rw[sA f ho (by rw[hf]<;>rfl),hf]
 refine I.write (x:=p) (e:=p) (by rw[h];trivial) (.inl rfl) (λb u hb q=>(C4 _ _ (gJ hb)).trans q) ⟨_,e⟩ ?_
 exact⟨hz,its',n',r,e⟩
def UJ:V->V->V->Hp->(Hp->Prop)->Prop:=λo i v H Q=>∃p xs k j,o = .ref p/\i = .int k/\H p=some (.lst xs)/\hG xs.length k=some j/\Q (upd H p (.lst (xs.set j v)))
theorem UK:T4 X UJ:=by
 intro pins s σ H o i v ov iv u Q I ro ri rv h
 obtain⟨p,xs,k,j,rfl,rfl,hp,hj,q⟩:=h
 cases ro
 obtain⟨t,rfl⟩:=ri
 obtain⟨its,n,r,ho,hz⟩:=I.lst hp
 obtain⟨h1,h2,h3,h4⟩:=Ll hj
 have hl:=r.length
 have hn:=AX
 have I':Inv X pins σ (upd H p (.lst (xs.set j v))) { s with heap:=s.heap.update p (qB (·.setIfInBounds j u)) } :=
  I.UI hp ho (UH its n j u) (r.set rv j) (by rw[jJ];exact hz) s.toks
 by_cases h0:0<=k
 ·have hk:k.toNat=j:=by
   rw[RT h0 h4] at h1
   exact iQ h1
  exact PySem.W.ki_setAt ho h0 (by lia) (by rw[dc,<-hl];exact h4) (by rw[hk];exact⟨_,I',q⟩)
 ·have hk:(k+(its.toArray.size:Int)).toNat=j:=by
   rw[RU (by lia) h3] at h1
   rw[dc,<-hl]
   exact iQ h1
  exact PySem.W.ki_setBack ho (by lia) (by rw[dc,<-hl];exact h3) (by lia) (by rw[hk];exact⟨_,I',q⟩)
theorem UM(lo hi:Option Int)(n:Nat):(wZ lo hi none n).1=((HT.a9 n 0 lo:Nat):Int)/\(wZ lo hi none n).2.1=((HT.a9 n n hi:Nat):Int)/\(wZ lo hi none n).2.2=1:=by
 refine⟨?_,?_,rfl⟩
 ·cases lo with
  | none=>simp[wZ,HT.a9]
  | some i =>
    simp only[wZ,HT.a9,RV,show(1:Int)>0 by decide,if_true]
    by_cases h:i<0
    ·simp only[h,if_true]<;>lia
    ·simp only[h,if_false]<;>lia
 ·cases hi with
  | none=>simp[wZ,HT.a9]
  | some i =>
    simp only[wZ,HT.a9,RV,show(1:Int)>0 by decide,if_true]
    by_cases h:i<0
    ·simp only[h,if_true]<;>lia
    ·simp only[h,if_false]<;>lia
theorem UN(its:List Value)(lo hi:Option Int):slicePick its.toArray lo hi none=((its.drop (HT.a9 its.length 0 lo)).take (HT.a9 its.length its.length hi-HT.a9 its.length 0 lo)).toArray:=by
 obtain⟨h1,h2,h3⟩:=UM lo hi its.toArray.size
 unfold slicePick
 rw[h1,h2,h3]
 simp only[sliceRange_one,pick_run,dc]<;>rfl
def UO(K:aD):V->Option Int->Option Int->Hp->VK->Prop:=λx lo hi H Q=>∃a xs,x = .ref a/\bM K H a xs/\∀p,H p=none->Q (.ref p) (upd H p (.lst (mH xs lo hi)))
theorem UP:og X (UO X.K):=by
 intro pins s σ H x v vl vu lo hi sl Q I rx hs pl pu h
 obtain⟨a,xs,rfl,hx,q⟩:=h
 cases rx
 obtain⟨its,r,ht,hz⟩:=I.list hx
 have hlen:=r.length
 refine⟨"list",_,slot_list_getitem.lookup,ht.isList.typeIs,?_⟩
 refine wpAny_getItem_list_slice ht.isList hs pl pu .none (by simp) ?_ (by rw[dc]<;>lia)
 rw[UN,<-hlen]
 refine⟨.ref s.heap.objs.size,_,I.laid (t':=s.toks) (o:=.lst (mH xs lo hi)) (λb ob q=>bP _ q) (a7 _) ?_,rfl,q _ (I.aS.fresh (a7 _))⟩
 exact⟨fB (Lk xs lo hi) hz,_,0,(r.drop (HT.a9 xs.length 0 lo)).take (HT.a9 xs.length xs.length hi-HT.a9 xs.length 0 lo),dQ _ rfl⟩
theorem UQ:lB X (.builtin "len") (λxs H Q=>∃p ys,xs=[.ref p]/\(bM X.K H p ys∨b6 X.K H p ys)/\Q (.int ys.length) H):=by
 intro pins s σ H xs us Q I r h
 obtain⟨p,ys,rfl,hq,q⟩:=h
 obtain⟨u,rfl,rx⟩:=sQ r
 cases rx
 have hn:=AX
 rcases hq with hq | hq
 ·obtain⟨its,r',pl,hz⟩:=I.list hq
  have hlen:=r'.length
  exact Calls.call_len_list pl.isList (by simp only[dc]<;>lia) ⟨.int ys.length,H,I.tok _,⟨s.toks+1,by rw[dc,hlen]⟩,q⟩
 ·obtain⟨its,r',pl,hz⟩:=I.tuple hq
  have hlen:=r'.length
  exact len_tuple pl (by simp only[dc]<;>lia) ⟨.int ys.length,H,I.tok _,⟨s.toks+1,by rw[dc,hlen]⟩,q⟩
theorem lB.or{f:Value}{r r':List V->Hp->VK->Prop}(h:lB X f r)(h':lB X f r'):lB X f (λxs H Q=>r xs H Q∨r' xs H Q):=by
 intro pins s σ H xs us Q I rs q
 rcases q with q | q
 ·exact h pins s σ H xs us Q I rs q
 ·exact h' pins s σ H xs us Q I rs q
theorem UR:lB X (.type "list") (λxs H Q=>∃p ys,xs=[.ref p]/\(bM X.K H p ys∨b6 X.K H p ys)/\∀l,H l=none->Q (.ref l) (upd H l (.lst ys))):=by
 intro pins s σ H xs us Q I r h
 obtain⟨p,ys,rfl,hq,q⟩:=h
 obtain⟨u,rfl,rx⟩:=sQ r
 cases rx
 have fin:∀(its:List Value),Vals ys its->ys.length<=ck->∀(h':Heap) (c':Nat),(∀b o',s.heap.get? b=some o'->h'.get? b=some o') ->
  h'.get? s.heap.objs.size=some { cls:=.type "list",dict:=none,data:=.seq its.toArray c',slots:=#[] }->EP X pins σ Q (.ref s.heap.objs.size) { s with heap:=h' }:=λits r' hz h' c' kp e =>
  ⟨.ref s.heap.objs.size,_,I.laid (t':=s.toks) kp (a7 _) (show iW X.prog X.w _ h' _ (.lst ys) from⟨hz,its,c',r',e⟩),rfl,q _ (I.aS.fresh (a7 _))⟩
 rcases hq with hq | hq
 ·obtain⟨its,r',pl,hz⟩:=I.list hq
  have hlen:=r'.length
  obtain⟨o,ho,hc,n,hd⟩:=pl.isList
  exact call_list_seq p (.inl rfl) ho hc hd (λh' c' kp e=>fin its r' hz h' c' kp e) (by simp only[dc]<;>lia)
 ·obtain⟨its,r',pl,hz⟩:=I.tuple hq
  have hlen:=r'.length
  obtain⟨o,ho,hc,n,hd⟩:=pl
  exact call_list_seq p (.inr rfl) ho hc hd (λh' c' kp e=>fin its r' hz h' c' kp e) (by simp only[dc]<;>lia)
theorem US:lB X (.type "tuple") (λxs H Q=>∃p ys,xs=[.ref p]/\((bM X.K H p ys/\∀l,H l=none->Q (.ref l) (upd H l (.tup ys)))∨(b6 X.K H p ys/\Q (.ref p) H))):=by
 intro pins s σ H xs us Q I r h
 obtain⟨p,ys,rfl,h⟩:=h
 obtain⟨u,rfl,rx⟩:=sQ r
 cases rx
 rcases h with ⟨hq,q⟩ | ⟨hq,q⟩
 ·obtain⟨its,r',pl,hz⟩:=I.list hq
  have hlen:=r'.length
  refine call_tuple_list pl.isList (λh' kp=>?_) (by simp only[dc]<;>lia)
  have I1:Inv X pins σ H { s with heap:=h' }:=I.kept (t':=s.toks) kp
  have I2:Inv X pins σ (upd H h'.objs.size (.tup ys)) { s with heap:=h'.push { cls:=.type "tuple",data:=.seq its.toArray } } :=
   I1.laid (t':=s.toks) (λb o e=>bP _ e) (a7 _) (show iW X.prog X.w _ _ _ (.tup ys) from⟨hz,its,r',RS _ _⟩)
  exact⟨.ref h'.objs.size,_,I2,rfl,q _ (I1.aS.fresh (a7 _))⟩
 ·obtain⟨its,r',pl,hz⟩:=I.tuple hq
  exact call_tuple_same pl ⟨.ref p,H,I,rfl,q⟩
def UT(K:aD)(T:String)(x:V)(H:Hp):Prop:=match x with
 | .str _=>T="str"
 | .int _=>T="int"
 | .ref p=>(T="list"/\∃xs,bM K H p xs)∨(T="tuple"/\∃o,K.lookup p=some o/\o.cls = .type "tuple"/\o.dict=none) ∨
    (T="dict"/\((∃fe,H p=some (.dK fe))∨∃fe,H p=some (.dT fe)))∨(T="set"/\∃S n,H p=some (.set S n))
 | _=>False
theorem Eb{pins:List (Addr×Obj)}{σ:St}{H:Hp}{s:ai}{T:String}{x:V}{v:Value}(I:Inv X pins σ H s)(r:RelV x v)(ty:UT X.K T x H) :
 s.TypeIs v T/\∀a,v = .ref a->∃ob,s.heap.get? a=some ob/\ob.dict=none:=by
 cases x with
 | str z =>
   obtain⟨t,rfl⟩:=r
   cases (show T="str" from ty)
   exact⟨typeIs_str s z t,λ_ e=>nomatch e⟩
 | int i =>
   obtain⟨t,rfl⟩:=r
   cases (show T="int" from ty)
   exact⟨typeIs_int s i t,λ_ e=>nomatch e⟩
 | ref p =>
   cases r
   rcases ty with ⟨rfl,xs,hq⟩ | ⟨rfl,o,hk,hc,hd⟩ | ⟨rfl,hk⟩ | ⟨rfl,S,n,hk⟩
   ·obtain⟨its,_,pl,_⟩:=I.list hq
    refine⟨pl.isList.typeIs,λa e=>?_⟩
    cases e
    obtain⟨o,n,e,c,hd,_⟩:=pl
    exact⟨o,e,hd⟩
   ·refine⟨⟨o,I.iD p o hk,hc⟩,λa e=>?_⟩
    cases e
    exact⟨o,I.iD _ o hk,hd⟩
   ·have z:∃o,s.heap.get? p=some o/\o.ExactDict:=by
     rcases hk with ⟨fe,hk⟩ | ⟨fe,hk⟩
     ·obtain⟨_,_,_,_,o,_,_,e,ex,_⟩:=I.aS p _ hk
      exact⟨o,e,ex⟩
     ·obtain⟨_,_,_,_,o,_,_,e,ex,_⟩:=I.aS p _ hk
      exact⟨o,e,ex⟩
    obtain⟨o,e,ex⟩:=z
    refine⟨⟨o,e,ex.1⟩,λa e2=>?_⟩
    cases e2
    exact⟨o,e,ex.2.1⟩
   ·obtain⟨o,_,_,_,e,ex,_⟩:=I.aS p _ hk
    refine⟨⟨o,e,ex.1⟩,λa e2=>?_⟩
    cases e2
    exact⟨o,e,ex.2.1⟩
 | _=>exact cT ty
variable {o e:Expr}{es:List Expr}{to:TE}{t:TA}{name:Str}{apos d_:Pos}{T id:String}{r:V->List V->Hp->VK->Prop}
end
end L2
namespace L2
open PySem PySem.Spec PyProof.Rows
def Ln(X:Cx)(id:String)(r:V->List V->Hp->VK->Prop):Prop :=
 ∀(pins:List (Addr×Obj)) (s:ai) (σ:St) (H:Hp) (x:V) (xs:List V) (v:Value) (us:List Value) (Q:VK),Inv X pins σ H s->RelV x v->Vals xs us->r x xs H Q ->
  ax (aF X.prog X.w) X.A (call (.builtin id) (v::us)) (EP X pins σ Q) X.xe s
theorem Vals.one:∀{x:V} {us:List Value},Vals [x] us->∃u,us=[u]/\RelV x u
 | _,_,.cons r .nil=>⟨_,rfl,r⟩
theorem Vals.two:∀{x y:V} {us:List Value},Vals [x,y] us->∃u v,us=[u,v]/\RelV x u/\RelV y v
 | _,_,_,.cons r (.cons q .nil)=>⟨_,_,rfl,r,q⟩
theorem Vals.zero:∀{us:List Value},Vals [] us->us=[]
 | _,.nil=>rfl
theorem Vals.dropLast{xs:List V}{us:List Value}(h:Vals xs us):Vals xs.dropLast us.dropLast:=by
 induction h with
 | nil=>exact .nil
 | cons r t ih =>
   cases t with
   | nil=>exact .nil
   | cons q t'=>exact .cons r ih
theorem Vals.eraseIdx:∀{xs:List V} {us:List Value} (i:Nat),Vals xs us->Vals (xs.eraseIdx i) (us.eraseIdx i)
 | _,_,_,.nil=>.nil
 | _,_,0,.cons _ t=>t
 | _,_,i+1,.cons r t=>.cons r (Vals.eraseIdx i t)
theorem Vals.reverse{xs:List V}{us:List Value}(h:Vals xs us):Vals xs.reverse us.reverse:=by
 induction h with
 | nil=>exact .nil
 | cons r t ih=>rw[a5e,a5e];exact Vals.append ih (.cons r .nil)
theorem Vals.rep{xs:List V}{us:List Value}(h:Vals xs us):∀k:Nat,Vals (dD k xs).flatten (dD k us).flatten
 | 0=>.nil
 | k+1=>by
   rw[oU,oU,w0,w0]
   exact Vals.append h (Vals.rep h k)
theorem Lp(its:List Value):∀(k:Nat) (acc:List Value),
 List.foldl (λx1 x2=>x1++x2) acc.toArray (dD k its.toArray)=(acc++(dD k its).flatten).toArray
 | 0,acc=>by simp
 | k+1,acc=>by
   have e:acc.toArray++its.toArray=(acc++its).toArray:=by simp
   have e2:(acc++its)++(dD k its).flatten=acc++(dD (k+1) its).flatten:=by
    rw[oU,w0,uG]
   rw[<-e2,<-Lp its k (acc++its),<-e,oU,a5f]
section
variable {X:Cx}{pins:List (Addr×Obj)}{σ:St}{H:Hp}{s:ai}{l b:Addr}{xs ys zs:List V}
theorem Inv.Lq{its its':List Value}{n:Nat}{f:Array Value->Array Value}{t':Nat}(I:Inv X pins σ H s)(hH:H l=some (.lst xs))
 (e:s.heap.get? l=some { cls:=.type "list",data:=.seq its.toArray n }) (hf:f its.toArray=its'.toArray) (hv:Vals ys its') (hz:ys.length<=ck) :
 Inv X pins σ (upd H l (.lst ys)) { s with heap:=s.heap.update l (qB f),toks:=t' }:=by
 have q:=PySem.IsL.update e f
 rw[hf] at q
 refine I.write (x:=l) (e:=l) (by rw[hH];exact trivial) (.inl rfl) (λb' u hb hu=>(C4 s.heap (qB f) (gJ hb)).trans hu) ⟨_,q⟩ ?_
 exact⟨hz,its',_,hv,q⟩
theorem Inv.Lr{its:List Value}{t':Nat}(I:Inv X pins σ H s)(hv:Vals ys its)(hz:ys.length<=ck) :
 Inv X pins σ (upd H s.heap.objs.size (.lst ys)) { s with heap:=s.heap.push { cls:=.type "list",data:=.seq its.toArray },toks:=t' } :=
 I.laid (λ_ _ q=>bP _ q) (a7 _) ⟨hz,its,0,hv,dQ _ rfl⟩
theorem Inv.fresh(I:Inv X pins σ H s):H s.heap.objs.size=none:=I.aS.fresh (a7 _)
theorem Inv.xJ(I:Inv X pins σ H s)(hH:H l=some (.lst xs)):xs.length<=ck/\∃(its:List Value) (n:Nat),Vals xs its/\xs.length=its.length/\s.heap.get? l=some { cls:=.type "list",data:=.seq its.toArray n }:=by
 obtain⟨z,its,n,r,e⟩:=I.aS l _ hH
 exact⟨z,its,n,r,r.length,e⟩
theorem UU{n:Nat}(h:n<=ck):RW n=false:=by
 unfold RW
 exact decide_eq_false (by lia)
end
section
variable {X:Cx}
def UW:V->List V->Hp->VK->Prop:=λx vs H Q=>∃l xs y,x = .ref l/\vs=[y]/\H l=some (.lst xs)/\xs.length<ck/\Q .b_ (upd H l (.lst (xs++[y])))
theorem UX:Ln X "list.append" UW:=by
 intro pins s σ H x vs v us Q I rx rv h
 obtain⟨l,xs,y,rfl,rfl,hH,hz,q⟩:=h
 cases rx
 obtain⟨u,rfl,ru⟩:=rv.one
 obtain⟨z,its,n,r,hl,e⟩:=I.xJ hH
 refine w_ F.slot_list_append ⟨_,e,rfl⟩ F.entry_list_append (F.args_list_append_2 _ _) (PySem.list_append l its.toArray n u (by rw[dc];lia)) ⟨e,?_⟩
 refine⟨.b_,_,I.Lq (its':=its++[u]) hH e (by simp) (r.append (.cons ru .nil)) ?_,rfl,q⟩
 rw[fD,xc]
 lia
def UY:V->List V->Hp->VK->Prop:=λx vs H Q=>∃l b xs zs,x = .ref l/\vs=[.ref b]/\H l=some (.lst xs)/\H b=some (.lst zs)/\xs.length+zs.length<=ck/\Q .b_ (upd H l (.lst (xs++zs)))
theorem UZ:Ln X "list.extend" UY:=by
 intro pins s σ H x vs v us Q I rx rv h
 obtain⟨l,b,xs,zs,rfl,rfl,hH,hB,hz,q⟩:=h
 cases rx
 obtain⟨u,rfl,ru⟩:=rv.one
 cases ru
 obtain⟨z,its,n,r,hl,e⟩:=I.xJ hH
 obtain⟨z2,oh,n2,r2,Ec,e2⟩:=I.xJ hB
 have iF:its.toArray.size+oh.toArray.size<=ck:=by rw[dc,dc];lia
 have U0:¬(!its.toArray.isEmpty&&RW (its.toArray.size+oh.toArray.size))=true:=by
  rw[UU iF,Bool.and_false]
  exact qw
 refine w_ F.slot_list_extend ⟨_,e,rfl⟩ F.entry_list_extend (F.args_list_extend_2 _ _)
  (AutoSeq1.list_extend_list_list_0 l its.toArray n b oh.toArray n2 U0 (by rw[dc];lia) (by lia)) ⟨e,e2,?_⟩
 refine⟨.b_,_,I.Lq (its':=its++oh) hH e (by simp) (r.append r2) ?_,rfl,q⟩
 rw[fD]
 lia
def U1:R2:=λx y H Q=>∃l b xs zs,x = .ref l/\y = .ref b/\H l=some (.lst xs)/\H b=some (.lst zs)/\xs.length+zs.length<=ck/\∀p,H p=none->Q (.ref p) (upd H p (.lst (xs++zs)))
theorem U2:fi X (iS .Add) U1:=by
 intro pins s σ H x y v u Q I rx ry h
 obtain⟨l,b,xs,zs,rfl,rfl,hH,hB,hz,q⟩:=h
 cases rx
 cases ry
 obtain⟨z,its,n,r,hl,e⟩:=I.xJ hH
 obtain⟨z2,oh,n2,r2,Ec,e2⟩:=I.xJ hB
 refine PySem.P.add_list e e2 ?_ (by rw[dc,dc];lia)
 have ea:its.toArray++oh.toArray=(its++oh).toArray:=by simp
 rw[ea]
 exact⟨.ref _,_,I.Lr (t':=s.toks) (r.append r2) (by rw[fD];lia),rfl,q _ I.fresh⟩
theorem Ls{α:Type}(xs:List α)(k:Nat):(dD k xs).flatten.length=k*xs.length:=by
 induction k with
 | zero=>simp
 | succ k ih=>rw[oU,w0,fD,ih,Nat.succ_mul,C5]
end
section
variable {prog:aY}{w:aO}{A:Around}{E:Value->ai->Prop}{s:ai}
end
section
variable {X:Cx}
end
end L2
namespace Lu
open PySem PySem.W PySem.Calls PyProof.Rows
theorem U3{P:qC}{h:Heap}:∀(ns:List Int) (vs:List Value),WellAll P h vs (ns.map WData.int)->kF vs ns:=by
 intro ns
 induction ns with
 | nil =>
   intro vs w
   rw[wY] at w
   cases w
   exact .nil
 | cons n ns ih =>
   intro vs w
   rw[cJ] at w
   cases w with
   | cons a b =>
     cases a
     exact .cons _ _ (ih _ b)
theorem U4{l:OpenLaw}{n:Nat}(hn:l.most=some n){P:qC}{h:Heap}{args:List WData}{vals:List Value}
 (qU:l.row.toRowW.claim.pre args=true) (Ed:WellAll P h vals args) :
 ∃a vs ns,vals=[c_ a]/\args=[WData.list (ns.map WData.int)]/\h.get? a=some { cls:=.type "list",data:=.seq vs.toArray }/\kF vs ns/\ns.length<=n:=by
 have U5:WShape.hasAll [] args [.list .int]=true:=(pre_splitW qU).1
 have hc:l.pre.holds [] { args:=args }=true:=(pre_splitW qU).2
 obtain⟨d,r,rfl,h1,h2⟩:=hasAllW_cons U5
 obtain rfl:=hasAllW_nil h2
 obtain⟨xs,rfl,h3⟩:=hasW_list h1
 obtain⟨ns,rfl⟩:=items_int h3
 have hlen:ns.length<=n:=by
  unfold OpenLaw.pre at hc
  have h4:(WTm.not (.lt (.lit (.int (n:Int))) (.len (.arg 0)))).holds [] { args:=[.list (ns.map .int)] }=true:=by
   have h4:=(holds_andW hc).1
   rw[hn] at h4
   exact h4
  have h5:=condW_of h4 (w_not (w_lt w_lit (w_len_list (w_arg rfl))))
  rw[bu] at h5
  refine RX λq=>?_
  have q':(n:Int)<((ns.length:Nat):Int):=by lia
  first
   | (rw[decide_eq_true q'] at h5;exact absurd h5 (by decide))
   | (simp at h5;lia)
 cases Ed with
 | cons w1 w2 =>
   cases w2
   cases w1 with
   | list ho jr=>exact⟨_,_,ns,rfl,rfl,ho,U3 ns _ jr,hlen⟩
theorem U6(l:OpenLaw)(args:List WData):l.row.toRowW.claim.post args (.bool true) args=true :=
 postW_of (r:=l.row.toRowW) (X:=(true==true))
  (show WShape.has [] (.bool true) .bool=true by first | rfl | decide | simp[WShape.has,WShape.arms,WShape.armsAll])
  (show(WTm.eq .res (.lit (.bool true))).value [] { args:=args,res:=some (.bool true),after:=args }=some (.bool (true==true)) from w_eq_bool (w_res rfl) w_lit) rfl
theorem U7{l:OpenLaw}{n:Nat}{q:aY}{loose:List Str}{XP:(Str->Option Value)->Heap->Prop}{YP:aO->Heap->Prop}{d:DefRec}
 (hn:l.most=some n) (xK:d.params.defaults=[])
 (call:∀(w:aO) (s₀ cu:ai) (mg mb:Str->Option Value) (fa:Addr) (o:Obj) (pm cd doc:Value) (a:Addr) (vs:List Value) (ns:List Int),
   Ground q loose [] XP w s₀ mg mb cu.heap->YP w cu.heap ->
   cu.heap.get? fa=some o->o.data = .func (docDef d.name d.params d.body d.scope pm cd doc)->cu.heap.CodeRec cd d.name->mg d.name=some (.ref fa) ->
   cu.heap.get? a=some { cls:=.type "list",data:=.seq vs.toArray }->kF vs ns->ns.length<=n->cu.gens=#[] ->
   nG (aF l.prog w) uH (.call (.ref fa) ⟨[.ref a],[]⟩) (λr s'=>r = .ok (.ret (.bool true))/\OldK cu.heap s'.heap/\s'.os=cu.os/\nD s'.gens) cu) :
 WalkO q loose XP YP l.row.toRowW d [] (λf vs=>RY f vs):=by
 intro w s₀ cu mg mb G Y fa o pm cd doc dV kV ho hd d8 hD pj hg args vals as qU a8v hrd Ed hlo
 obtain rfl:dV = .none:=Dflts.none hD xK
 obtain rfl:kV = .none:=Dflts.noKw hD
 obtain⟨a,vs,ns,rfl,rfl,Ee,hints,hlen⟩:=U4 hn qU Ed
 refine enter_call (oV (call w s₀ cu mg mb fa o pm cd doc a vs ns G Y ho (fd_plain hd) d8 pj Ee hints hlen hg) λr s' hq=>?_)
 obtain⟨rfl,h2,h3,h4⟩:=hq
 exact⟨.inl ⟨.bool true,.bool true,[],rfl,λ_=>rfl,.bool true,U6 l _,λ_=>⟨a5g,λ_ hm=>(nomatch hm)⟩⟩,h2,h3,h4⟩
section
variable {prog:aY}{w:aO}{A:Around}{E:Value->ai->Prop}{s:ai}{K:Frag}
end
end Lu
namespace L2
open PySem PySem.Spec PyProof.Rows
theorem xM:∀{vs:List Value} {ns:List Int},kF vs ns->Vals (ns.map V.int) vs
 | _,_,.nil=>.nil
 | _,_,.cons n t h=>.cons ⟨t,rfl⟩ (xM h)
def Ef(H:Hp):Prop:=∀b,H b=none∨∃o xs,H b=some (.fh o (.lst xs))
theorem U8{P:aY}{w:aO}{K:aD}{mg mb:Str->Option Value}{CX:kf}{k:Nat}{fa a:Addr}{fd:cP}{x:Str}{sp:Sp}{cu:ai}{vs:List Value}{ns:List Int}
 (KX:K.In cu.heap) (vg:cu.heap.Ns dP mg) (hb:cu.heap.Ns RB mb) (U9:∀x:Str,x≠"__name__"->mb x=oN x) (U_:cu.heap.NoLimit) (hg:cu.gens=#[])
 (ha:cu.heap.get? a=some { cls:=.type "list",data:=.seq vs.toArray }) (hi:kF vs ns) (hl:ns.length<=ck) (hr:dE k uH)
 (F:∀base:Heap,K.In base->base.Ns dP mg->jo P w K mg base CX k fa fd [x] sp) (Va:∀(s:ai) (u:Value),BindsTo s fd ⟨[u],[]⟩ [(x,u)])
 (fm:∀H:Hp,Ef H->bM K H a (ns.map V.int)->sp [.ref a] H (λv _=>v = .bl true) λ_ _ _=>False)
 (xN:∀H e s',CX [] H cu (λ_ _ _=>False) e s'->False) :
 nG (aF P w) uH (.call (.ref fa) ⟨[.ref a],[]⟩) (λr s'=>r = .ok (.ret (.bool true))/\OldK cu.heap s'.heap/\s'.os=cu.os/\nD s'.gens) cu:=by
 have rv:=xM hi
 have Vb:=hi.length
 have core:∀H:Hp,Ef H->bM K H a (ns.map V.int)->dq P w H cu.heap->(∀b,H b≠none->b=a)->(H a≠none->K.lookup a=none) ->
  nG (aF P w) uH (.call (.ref fa) ⟨[.ref a],[]⟩) (λr s'=>r = .ok (.ret (.bool true))/\OldK cu.heap s'.heap/\s'.os=cu.os/\nD s'.gens) cu:=by
  intro H hO hS aS hA hK
  have Lv:∀{b:Addr} {o:Obj},cu.heap.get? b=some o->H b=none->(jj cu.heap H).get? b=some o:=λe n=>DQ e n
  have xH:∀{b:Addr} {o:Obj} {es:Array RZ} {ep:Nat},cu.heap.get? b=some o->o.data = .dict es ep->H b=none:=λ{b o es ep} e d=>by
   cases q:H b with
   | none=>rfl
   | some u =>
     have e':b=a:=hA b (by rw[q];simp)
     subst e'
     rw[ha] at e;cases e
     have d':Data.seq vs.toArray _=Data.dict es ep:=d
     cases d'
  have A4:∀{b:Addr} {m:Str->Option Value},cu.heap.Ns b m->(jj cu.heap H).Ns b m:=λ{b m} ⟨o,es,ep,e,d,r⟩=>⟨o,es,ep,Lv e (xH e d),d,r⟩
  have Lw:K.In (jj cu.heap H):=λb o e=>Lv (KX b o e) (by
   cases q:H b with
   | none=>rfl
   | some u =>
     have e':b=a:=hA b (by rw[q];simp)
     subst e'
     rw[hK (by rw[q];simp)] at e;cases e)
  have hM:Mod K mg (jj cu.heap H):=⟨Lw,A4 vg,⟨mb,A4 hb,U9⟩,let ⟨mc,h1,h2⟩:=U_;⟨mc,A4 h1,h2⟩⟩
  have e0:qT P w K mg (jj cu.heap H) uH [] cu H:=⟨rfl,hM,λb o e=>DR e,RF (TK _ _),trivial,λb hb=>absurd (show b∈([]:List Addr) from hb) (by simp),aS,.of_eq hg⟩
  refine oV ((F _ Lw (A4 vg)).run uH [] cu H ⟨[.ref a],[]⟩ [.ref a] [.ref a] _ _ hr e0 (Va cu (.ref a)) (.cons rfl .nil) (fm H hO hS)) λr s' h=>?_
  cases r with
  | error e=>exact(xN H e s' h).elim
  | ok fl =>
    cases fl with
    | next=>exact cT h
    | brk=>exact cT h
    | cont=>exact cT h
    | ret u =>
      obtain⟨v,H',os,bare,un,Vc,r',q⟩:=h
      have q':v = .bl true:=q
      subst q'
      obtain rfl:u=JB true:=r'
      refine⟨rfl,OldK.of_keep λb o e=>?_,os,bare⟩
      cases q:H b with
      | none=>exact un.keep b o e q (by intro z;exact absurd (show b∈([]:List Addr) from z) (by simp)) (by simp)
      | some u =>
        rcases hO b with z | ⟨ob,xs,z⟩
        ·rw[q] at z;cases z
        ·have z2:=un.ji b ob _ z
         obtain⟨e1,_⟩:=aS b _ z
         obtain⟨e2,_⟩:=Vc b _ z2
         rw[e] at e1;cases e1
         exact e2
 cases hk:K.lookup a with
 | some o =>
   have e:=KX a o hk
   rw[ha] at e
   cases e
   refine core (λ_=>none) (λ_=>.inl rfl) (.inr ⟨_,vs.toArray,_,hk,rfl,rfl,rfl,by rw[dc,Vb];exact hl,by simpa using rv⟩) (λb u z=>by have z':(none:Option HO)=some u:=z;cases z') (λb z=>absurd rfl z) λz=>absurd rfl z
 | none =>
   refine core (λb=>if b=a then some (.fh { cls:=.type "list",data:=.seq vs.toArray } (.lst (ns.map V.int))) else none) (λb=>?_) (.inl (.inr ⟨{ cls:=.type "list",data:=.seq vs.toArray },if_pos rfl⟩)) (λb u z=>?_) (λb z=>?_) λ_=>hk
   ·by_cases hb:b=a
    ·exact .inr ⟨_,_,if_pos hb⟩
    ·exact .inl (if_neg hb)
   ·by_cases hb:b=a
    ·have z':=(if_pos hb).symm.trans z
     cases z'
     subst hb
     exact⟨ha,by rw[bu];exact hl,vs,_,rv,ha⟩
    ·have z':=(if_neg hb).symm.trans z
     cases z'
   ·by_cases hb:b=a
    ·exact hb
    ·exact absurd (if_neg hb) z
end L2
namespace L2
open PySem PySem.Spec PyProof.Rows
abbrev Lx {K:aD} {h:Heap} (_:K.In h):aD:=K
theorem Ly{l:a5h}{n k:Nat}{q:aY}{loose:List Str}{XP:(Str->Option Value)->Heap->Prop}{YP:aO->Heap->Prop}{d:DefRec}{K:qC->aD}{CX:aO->kf}{sp:aO->Sp}{x:Str}
 (hn:l.most=some n) (sV:n<=ck) (xK:d.params.defaults=[]) (hr:dE k uH)
 (hY:∀(w:aO) (h:Heap),YP w h->(K w.params).In h)
 (F:∀(w:aO) (mg:Str->Option Value) (fa:Addr) (h:Heap),(K w.params).In h->h.Ns dP mg->mg d.name=some (.ref fa) ->
   ∃fd:cP,(∀(s:ai) (u:Value),BindsTo s fd ⟨[u],[]⟩ [(x,u)]) /\
    ∀base:Heap,(K w.params).In base->base.Ns dP mg->jo l.prog w (K w.params) mg base (CX w) k fa fd [x] (sp w))
 (fm:∀(w:aO) (H:Hp) (a:Addr) (ns:List Int),ns.length<=n->Ef H->bM (K w.params) H a (ns.map V.int)->sp w [.ref a] H (λv _=>v = .bl true) λ_ _ _=>False)
 (xN:∀(w:aO) (H:Hp) (s:ai) (e:Value) (s':ai),CX w [] H s (λ_ _ _=>False) e s'->False) :
 PySem.W.WalkO q loose XP YP l.row.toRowW d [] (λf vs=>RY f vs):=by
 refine Lu.U7 hn xK λw s₀ cu mg mb fa o pm cd doc a vs ns G Y ho hd d8 pj Ee hints hlen hg=>?_
 have KX:=hY w _ Y
 obtain⟨fd,hb,hF⟩:=F w mg fa _ KX G.T.g pj
 exact U8 KX G.T.g G.T.b G.T.builtins G.T.nolimit hg Ee hints (fB hlen sV) hr hF hb (λH hO hS=>fm w H a ns hlen hO hS) λH e s'=>xN w H cu e s'
end L2
/- THE a8w a8x (shape;LID,My.* are a8y):
   My.Adr: a structure of the addresses a8z a9a a9b names (classes,a9c);My.Txt K t: a structure (Prop) of the equations over K;
   My.Vd:{K} {implicit addresses ..} (e1:nsIn K dP "law"=some (some (.ref f))) (e2:K.lookup f=some ⟨oc,od,.func (fnOf "law" "law" params body scope dV kV doc pm an bH ct),sl⟩) (e3:codeIn K bH "law"=true) ..:∃t,My.Txt K t
set_option maxRecDepth 100000 in
set_option maxHeartbeats 0 in
theorem PySem.Challenge.cw_LID_holds : PySem.Challenge.rw_LID.Holds := by
 w_on;o_law;k_head;(case hw=>w_witness2)
 k_fill
 refine L2.Ly (l:=PySem.Challenge.rw_LID) (n:=63) (k:=40) (x:="script") (CX:=λw=>..) (sp:=λ_=>My.a9d) rfl (by decide) rfl ⟨rfl,by decide,by decide⟩ (λw h Y=>PySem.W.kIn_of Y) ?F ?S ?C
 case F =>
  intro w mg fa h KX G pj
  have T:∃t,My.Txt (L2.Lx KX) t:=by
   dsimp only[L2.Lx]                          -- K a9e stand as «<heap const> w.params» for k_is
   refine' My.Vd ?e1 ?e2 ?e3 ..
   (case e1=>PySem.W.k_is)                    -- in the order: a name->its address->its object->its parts
   (case e2=>PySem.W.k_is)
   ..
  obtain⟨t,T⟩:=T
  have e0:=pj.symm.trans (C6 KX G T.law)
  cases e0                                       -- fa is the a9f own address
  exact⟨_,λs u=>.of_eq rfl,λbase kb nb=>My.Ve T kb nb⟩     -- if «.of_eq rfl» comes too early: refine' ⟨_,?b,λbase kb nb=>My.Ve T kb nb⟩;exact λs u=>.of_eq rfl
 case S=>exact λw H a ns hl hO hS=>..
 case C=>exact ..
(the tactic k_is has no namespace: write k_is) -/
namespace L2
open PySem PySem.Spec PyProof.Rows
def xO(s:Stmt):Arguments:=match s with
 | .FunctionDef _ a _ _ _ _ _ _ _ _=>a
 | _=>{ posonlyargs:=[],args:=[],vararg:=none,kwonlyargs:=[],kw_defaults:=[],kwarg:=none,defaults:=[] }
def oi(s:Stmt):List Stmt:=match s with
 | .FunctionDef _ _ b _ _ _ _ _ _ _=>b
 | _=>[]
def bN(s:Stmt):da:=match s with
 | .FunctionDef _ _ _ _ _ _ sc _ _ _=>sc
 | _=>{ kind:=.function,names:=[],isGenerator:=false,isCoroutine:=false }
abbrev Lz:kf:=λ_ _ _ _ _ _=>False
structure mI (K:aD) (x qual:Str) (st:Stmt) (f:Addr) (fd:cP):Prop where
 ex:∃(oc:Value) (od:Option Addr) (kV doc pm:Value) (an:Option Addr) (bH ct:Value) (n9:Array (Option Value)),
  fd=C3 x qual (xO st) (oi st) (bN st) .none kV doc pm an bH ct/\K.lookup f=some ⟨oc,od,.func fd,n9⟩/\JK K bH qual=true
 kp:C0 K (.ref f)=true
section
variable {P:aY}{w:aO}{K:aD}{mg:Str->Option Value}{base:Heap}
theorem mI.ok{x qual:Str}{st:Stmt}{f:Addr}{fd:cP}{N ps:List Str}{k:Nat}{sp:Sp}(F:mI K x qual st f fd)(S:bW N ps (bN st))(len:∀vs H Q E,sp vs H Q E->vs.length=ps.length)
 (mG:∀(bH:Value) (A:Around) (outer:List Env) (s:ai) (H:Hp) (vs:List V) (Q:VK) (E:XK),dE k (A.deeper (sr qual (bN st) s.heap.objs.size f bH))->sp vs H Q E ->
   ∃t,xD (sS Lz P w K mg base N qual (bN st) f bH A outer s H E).bG (oi st) t/\t { nx:=λ_ H'=>Q .b_ H',rt:=Q } (start N vs) H):jo P w K mg base Lz (k+1) f fd ps sp:=by
 obtain⟨oc,od,kV,doc,pm,an,bH,ct,n9,rfl,lk,d8⟩:=F.ex
 refine AY lk d8 S len λA outer s H vs Q E hr fm=>?_
 obtain⟨t,h,q⟩:=mG bH A outer s H vs Q E hr fm
 exact⟨t,h.bG,q⟩
theorem mI.binds{x qual:Str}{st:Stmt}{f:Addr}{fd:cP}{ps:List Str}(F:mI K x qual st f fd)
 (h:∀(kV doc pm:Value) (an:Option Addr) (bH ct:Value) (us:List Value),us.length=ps.length->RG (C3 x qual (xO st) (oi st) (bN st) .none kV doc pm an bH ct) ⟨us,[]⟩=pure (ps.zip us)):n6 K fd ps []:=by
 obtain⟨oc,od,kV,doc,pm,an,bH,ct,n9,rfl,lk,d8⟩:=F.ex
 exact .all (h kV doc pm an bH ct)
end
theorem Vf{n:Nat}(h:n<=1000):n<ck:=C7 h (by decide)
section
variable {X:Cx}
end
def aT(H H':Hp):Prop:=∀b o,H b=some o->H' b=some o
theorem aT.refl(H:Hp):aT H H:=λ_ _ h=>h
theorem aT.trans{H H1 H2:Hp}(a:aT H H1)(b:aT H1 H2):aT H H2:=λc o h=>b c o (a c o h)
theorem aT.free{H H':Hp}(e:aT H H'){l:Addr}(h:H' l=Option.none):H l=Option.none:=by
 cases q:H l with
 | none=>rfl
 | some o =>
   rw[e l o q] at h
   cases h
theorem aT.seq{K:aD}{H H':Hp}{a:Addr}{xs:List V}(e:aT H H')(h:bM K H a xs):bM K H' a xs:=by
 rcases h with (h | ⟨o,h⟩) | h
 ·exact .inl (.inl (e _ _ h))
 ·exact .inl (.inr ⟨o,e _ _ h⟩)
 ·exact .inr h
end L2
namespace L3
open PySem
noncomputable section
inductive Er where
 | LA | A5 | LB | tooLong | LC | LD
 deriving DecidableEq
def Er.nm:Er->Str
 | .LA=>"NoPrime" | .A5=>"NoNumber" | .LB=>"NoProgram" | .tooLong=>"TooLong" | .LC=>"Lossy" | .LD=>"NoText"
inductive D where
 | b_ | bl (b:Bool) | int (i:Int) | str (x:Str) | tup (ds:List D) | lst (ds:List D) | jR | exc (c:Er)
mutual
def D.cH:D->Bool
 | .lst _=>false
 | .jR=>false
 | .tup ds=>D.bI ds
 | _=>true
def D.bI:List D->Bool
 | []=>true
 | d::ds=>d.cH&&D.bI ds
end
theorem Vg:D.bI []=true:=by unfold D.bI;rfl
theorem Eg:∀ds:List D,D.bI ds=ds.all D.cH
 | []=>by unfold D.bI;rfl
 | d::ds=>by unfold D.bI;rw[Eg ds];rfl
theorem xP(i:Int):D.cH (.int i)=true:=by simp[D.cH]
theorem LF(i:Bool):D.cH (.bl i)=true:=by simp[D.cH]
theorem Vh(i:Str):D.cH (.str i)=true:=by simp[D.cH]
theorem Vi:D.cH .b_=true:=by simp[D.cH]
theorem LG(ds:List D):D.cH (.tup ds)=D.bI ds:=by simp[D.cH]
theorem Vj{ds:List D}(h:∀d∈ds,d.cH=true):D.bI ds=true:=by rw[Eg,qD];exact h
theorem Vk{ds:List D}(h:D.bI ds=true){d:D}(hd:d∈ds):d.cH=true:=by rw[Eg,qD] at h;exact h d hd
theorem vh{α:Type}{f:α->D}{l:List α}(h:∀x∈l,(f x).cH=true):D.bI (l.map f)=true:=Vj λd hd=>by
 obtain⟨x,hx,rfl⟩:=List.mem_map.mp hd;exact h x hx
theorem lD(ns:List Int):D.bI (ns.map D.int)=true:=vh λ_ _=>xP _
theorem xQ(ns:List Int):D.cH (.tup (ns.map D.int))=true:=by rw[LG];exact lD ns
inductive R (α:Type) where
 | no | ok (a:α) | er (c:Er)
def R.bind{α β:Type}(r:R α)(k:α->R β):R β:=match r with
 | .no=>.no
 | .ok a=>k a
 | .er c=>.er c
instance:Monad R where
 pure:=R.ok
 bind:=R.bind
@[simp] theorem R.Vl {α β:Type} (k:α->R β):(R.no>>=k)=R.no:=rfl
@[simp] theorem R.eQ {α β:Type} (a:α) (k:α->R β):(R.ok a>>=k)=k a:=rfl
@[simp] theorem R.Vm {α β:Type} (c:Er) (k:α->R β):(R.er c>>=k)=R.er c:=rfl
@[simp] theorem R.a9g {α:Type} (a:α):(pure a:R α)=R.ok a:=rfl
theorem R.left{α β:Type}{r:R α}{k:α->R β}(h:(r>>=k) ≠ .no):r ≠ .no:=λe=>h (by rw[e];rfl)
theorem R.next{α β:Type}{r:R α}{k:α->R β}{a:α}(h:(r>>=k) ≠ .no)(e:r = .ok a):k a ≠ .no:=by
 rw[e] at h;exact h
theorem R.step{α β:Type}{r:R α}{a:α}(e:r = .ok a)(k:α->R β):(r>>=k)=k a:=by rw[e];rfl
theorem R.stop{α β:Type}{r:R α}{c:Er}(e:r = .er c)(k:α->R β):(r>>=k) = .er c:=by rw[e];rfl
def R.guard{α:Type}(p:Prop)(r:R α):R α:=@ite _ p (Classical.propDecidable p) r .no
theorem R.guard_pos{α:Type}{p:Prop}{r:R α}(h:p):R.guard p r=r:=if_pos h
theorem R.dF{α:Type}{p:Prop}{r:R α}(h:R.guard p r ≠ .no):p/\R.guard p r=r:=by
 unfold R.guard at h ⊢
 by_cases q:p
 ·exact⟨q,if_pos q⟩
 ·rw[if_neg q] at h;exact absurd rfl h
theorem Vn{α:Type}{r:R α}:R.guard True r=r:=R.guard_pos trivial
theorem eU{α:Type}{p:Prop}{r:R α}(h:p):R.guard p r=r:=R.guard_pos h
inductive En where
 | no | ro (d:D) | own (ds:List D)
abbrev G:=List En
def lk(Γ:G)(i:Nat):R D:=match Γ[i]? with
 | some (.ro d)=>.ok d
 | some (.own ds)=>.ok (.lst ds)
 | _=>.no
def oj(Γ:G)(i:Nat):R D:=match Γ[i]? with
 | some (.ro d)=>.ok d
 | _=>.no
theorem Vo{Γ:G}{i:Nat}(h:lk Γ i ≠ .no):∃d,lk Γ i = .ok d:=by
 cases e:lk Γ i with
 | no=>exact absurd e h
 | ok d=>exact⟨d,rfl⟩
 | er c =>
   unfold lk at e
   cases q:Γ[i]? with
   | none=>rw[q] at e;cases e
   | some en=>rw[q] at e;cases en<;>cases e
theorem Vp{Γ:G}{i:Nat}(h:oj Γ i ≠ .no):∃d,oj Γ i = .ok d:=by
 cases e:oj Γ i with
 | no=>exact absurd e h
 | ok d=>exact⟨d,rfl⟩
 | er c =>
   unfold oj at e
   cases q:Γ[i]? with
   | none=>rw[q] at e;cases e
   | some en=>rw[q] at e;cases en<;>cases e
theorem Vq(d:D)(Γ:G):lk (En.ro d::Γ) 0 = .ok d:=rfl
theorem Vr(ds:List D)(Γ:G):lk (En.own ds::Γ) 0 = .ok (.lst ds):=rfl
theorem Vs(e:En)(Γ:G)(i:Nat):lk (e::Γ) (i+1)=lk Γ i:=rfl
theorem Vt(d:D)(Γ:G):oj (En.ro d::Γ) 0 = .ok d:=rfl
theorem Vu(e:En)(Γ:G)(i:Nat):oj (e::Γ) (i+1)=oj Γ i:=rfl
def gV(i:Nat):G->R D:=λΓ=>lk Γ i
def dt(i:Nat):G->R D:=λΓ=>oj Γ i
def gC(d:D):G->R D:=λ_=>.ok d
def aG(g:G->R D):G->R D:=λΓ=>g Γ>>=λd=>R.guard (d.cH=true) (.ok d)
def gL(g:G->R (List D)):G->R D:=λΓ=>g Γ>>=λds=>.ok (.lst ds)
def ao(g:D->D->R D)(ga gb:G->R D):G->R D:=λΓ=>ga Γ>>=λx=>gb Γ>>=λy=>g x y
def qV(d:D):R Bool:=match d with
 | .bl b=>.ok b
 | _=>.no
theorem Eh{d:D}(h:qV d ≠ .no):∃b,d = .bl b/\qV d = .ok b:=by
 cases d<;>first | exact⟨_,rfl,rfl⟩ | exact absurd rfl h
theorem Vv(b:Bool):qV (.bl b) = .ok b:=rfl
def gT(g:G->R D):G->R Bool:=λΓ=>g Γ>>=qV
def xR(ga gb:G->R Bool):G->R Bool:=λΓ=>ga Γ>>=λk=>if k=true then gb Γ else .ok false
def qW(ga gb:G->R Bool):G->R Bool:=λΓ=>ga Γ>>=λk=>if k=true then .ok true else gb Γ
def pk(ga:G->R Bool):G->R Bool:=λΓ=>ga Γ>>=λk=>.ok (!k)
def Ei(ga gb:G->R D):G->R D:=λΓ=>ga Γ>>=λd=>qV d>>=λk=>if k=true then gb Γ else .ok (.bl false)
def Ej(ga:G->R D):G->R D:=λΓ=>ga Γ>>=λd=>qV d>>=λk=>.ok (.bl (!k))
def LH(d:D):R D:=match d with | .int i=>.ok (.int (-i)) | _=>.no
def xS(ga:G->R D):G->R D:=λΓ=>ga Γ>>=LH
def Ek(gc:G->R Bool)(ga gb:G->R D):G->R D:=λΓ=>gc Γ>>=λk=>if k=true then ga Γ else gb Γ
def az:G->R (List D):=λ_=>.ok []
def ae(g:G->R D)(gs:G->R (List D)):G->R (List D):=λΓ=>g Γ>>=λd=>gs Γ>>=λds=>.ok (d::ds)
def mJ(ns:List Int):G->R (List D):=λ_=>.ok (ns.map D.int)
def cq(gs:G->R (List D)):G->R D:=λΓ=>gs Γ>>=λds=>R.guard (ds.length<=1000) (.ok (.tup ds))
def gO(gs:G->R (List D)):G->R (List D):=λΓ=>gs Γ>>=λds=>R.guard (ds.length<=1000/\D.bI ds=true) (.ok ds)
def lE(i:Int):Prop:=-18446744073709551616<i/\i<18446744073709551616
instance (i:Int):Decidable (lE i):=by unfold lE;exact inferInstance
def sW(i j:Int):Prop:=lE i∨lE j
instance (i j:Int):Decidable (sW i j):=by unfold sW;exact inferInstance
def vi(j:Int):Prop:=-4611686018427387904<=j/\j<4611686018427387904
instance (j:Int):Decidable (vi j):=by unfold vi;exact inferInstance
theorem El{j:Int}(h:-4611686018427387904<=j/\j<4611686018427387904):vi j:=h
theorem qX{j:Int}(h:-18446744073709551616<j/\j<18446744073709551616):lE j:=h
theorem A6{i j:Int}(h:lE i):sW i j:=.inl h
theorem LI{i j:Int}(h:lE j):sW i j:=.inr h
def b7(x y:D):R D:=match x,y with
 | .int i,.int j=>.ok (.int (i+j))
 | .tup xs,.tup ys=>R.guard (xs.length+ys.length<=1000) (.ok (.tup (xs++ys)))
 | _,_=>.no
def kg(x y:D):R D:=match x,y with
 | .int i,.int j=>.ok (.int (i-j))
 | _,_=>.no
def cX(x y:D):R D:=match x,y with
 | .int i,.int j=>R.guard (sW i j) (.ok (.int (i*j)))
 | .tup xs,.int j=>R.guard (0<=j/\j<1000000/\xs.length*j.toNat<=1000) (.ok (.tup (dD j.toNat xs).flatten))
 | _,_=>.no
def hJ(x y:D):R D:=match x,y with
 | .int i,.int j=>R.guard (0<j/\j<1073741824) (.ok (.int (i/j)))
 | _,_=>.no
def df(x y:D):R D:=match x,y with
 | .int i,.int j=>R.guard (0<j) (.ok (.int (i%j)))
 | _,_=>.no
def qY(x y:D):R D:=match x,y with
 | .int i,.int j=>.ok (.bl (decide (i<j)))
 | _,_=>.no
def xT(x y:D):R D:=match x,y with
 | .int i,.int j=>.ok (.bl (decide (i<=j)))
 | _,_=>.no
def A7(x y:D):R D:=match x,y with
 | .int i,.int j=>.ok (.bl (decide (j<i)))
 | _,_=>.no
def LJ(x:Str):Bool:=x.cps.all (·<0x110000)
mutual
def D.lay:Nat->D->Bool
 | n+1,.tup ds=>D.lF n ds
 | n+1,.lst ds=>D.lF n ds
 | 0,.tup _=>false
 | 0,.lst _=>false
 | _,.jR=>false
 | _,.exc _=>false
 | _,.str x=>LJ x
 | _,_=>true
def D.lF:Nat->List D->Bool
 | _,[]=>true
 | n,d::ds=>D.lay n d&&D.lF n ds
end
theorem D.Em(n:Nat):∀ds:List D,D.lF n ds=ds.all (D.lay n)
 | []=>by unfold D.lF;rfl
 | d::ds=>by unfold D.lF;rw[D.Em n ds];rfl
theorem A8(n:Nat)(i:Int):D.lay n (.int i)=true:=by cases n<;>simp[D.lay]
theorem Vw(n:Nat)(i:Bool):D.lay n (.bl i)=true:=by cases n<;>simp[D.lay]
theorem A9(n:Nat)(x:Str):D.lay n (.str x)=LJ x:=by cases n<;>simp[D.lay]
theorem A_(n:Nat)(ds:List D):D.lay (n+1) (.tup ds)=ds.all (D.lay n):=by rw[D.lay,D.Em]
theorem LK(n:Nat)(ds:List D):D.lay (n+1) (.lst ds)=ds.all (D.lay n):=by rw[D.lay,D.Em]
theorem xU(n:Nat)(ns:List Int):D.lay (n+1) (.tup (ns.map D.int))=true:=by
 rw[A_,C8,qD];intro x _;exact A8 n x
mutual
def bF:D->D->Bool
 | .b_,y=>(match y with | .b_=>true | _=>false)
 | .bl a,y=>(match y with | .bl b=>a==b | .int j=>(if a then 1 else 0)==j | _=>false)
 | .int i,y=>(match y with | .bl b=>i==(if b then 1 else 0) | .int j=>i==j | _=>false)
 | .str x,y=>(match y with | .str z=>x==z | _=>false)
 | .tup xs,y=>(match y with | .tup ys=>kM xs ys | _=>false)
 | .lst xs,y=>(match y with | .lst ys=>kM xs ys | _=>false)
 | .jR,_=>false
 | .exc _,_=>false
def kM:List D->List D->Bool
 | [],[]=>true
 | x::xs,y::ys=>bF x y&&kM xs ys
 | [],_::_=>false
 | _::_,[]=>false
end
theorem Vx(i j:Int):bF (.int i) (.int j)=(i==j):=by rw[bF]
theorem Vy(i j:Bool):bF (.bl i) (.bl j)=(i==j):=by rw[bF]
theorem y9w(i j:Str):bF (.str i) (.str j)=(i==j):=by rw[bF]
mutual
def D.pl:D->Bool
 | .bl _=>false
 | .jR=>false
 | .exc _=>false
 | .tup ds=>D.kN ds
 | .lst ds=>D.kN ds
 | _=>true
def D.kN:List D->Bool
 | []=>true
 | d::ds=>d.pl&&D.kN ds
end
theorem Eo:∀ds:List D,D.kN ds=ds.all D.pl
 | []=>by unfold D.kN;rfl
 | d::ds=>by unfold D.kN;rw[Eo ds];rfl
theorem Vz(i:Int):D.pl (.int i)=true:=by simp[D.pl]
theorem Ba(ds:List D):D.pl (.tup ds)=ds.all D.pl:=by rw[D.pl,Eo]
theorem VA(ds:List D):D.pl (.lst ds)=ds.all D.pl:=by rw[D.pl,Eo]
theorem LL(ns:List Int):D.pl (.tup (ns.map D.int))=true:=by
 rw[Ba,C8,qD];intro x _;exact Vz x
mutual
theorem Bb:∀(x y:D),x.pl=true->y.pl=true->(bF x y=true↔x=y)
 | .b_,y,_,hy=>by cases y<;>simp_all [bF,D.pl]
 | .bl _,y,hx,hy=>by simp[D.pl] at hx
 | .int i,y,_,hy=>by cases y<;>simp_all [bF,D.pl]
 | .str i,y,_,hy=>by cases y<;>simp_all [bF,D.pl]
 | .jR,y,hx,hy=>by simp[D.pl] at hx
 | .exc _,y,hx,hy=>by simp[D.pl] at hx
 | .tup xs,y,hx,hy=>by
   cases y with
   | tup ys=>rw[bF,Ep xs ys (by simpa [D.pl] using hx) (by simpa [D.pl] using hy)];simp
   | _=>simp_all [bF,D.pl]
 | .lst xs,y,hx,hy=>by
   cases y with
   | lst ys=>rw[bF,Ep xs ys (by simpa [D.pl] using hx) (by simpa [D.pl] using hy)];simp
   | _=>simp_all [bF,D.pl]
theorem Ep:∀(xs ys:List D),D.kN xs=true->D.kN ys=true->(kM xs ys=true↔xs=ys)
 | [],[],_,_=>by simp[kM]
 | [],y::ys,_,_=>by simp[kM]
 | x::xs,[],_,_=>by simp[kM]
 | x::xs,y::ys,hx,hy=>by
   have qZ:x.pl=true/\D.kN xs=true:=by simpa [D.kN] using hx
   have LM:y.pl=true/\D.kN ys=true:=by simpa [D.kN] using hy
   rw[kM,jf,Bb x y qZ.1 LM.1,Ep xs ys qZ.2 LM.2];simp
end
theorem LN{x:D}(h:x.pl=true):bF x x=true:=(Bb x x h h).mpr rfl
theorem LO{x y:D}(hx:x.pl=true)(hy:y.pl=true){p:Prop}[Decidable p](h:x=y↔p):bF x y=decide p:=by
 by_cases q:p
 ·rw[decide_eq_true q];exact(Bb x y hx hy).mpr (h.mpr q)
 ·rw[decide_eq_false q]
  cases e:bF x y with
  | false=>rfl
  | true=>exact absurd (h.mp ((Bb x y hx hy).mp e)) q
def eV(x y:D):R D:=R.guard (D.lay 40 x=true/\D.lay 40 y=true) (.ok (.bl (bF x y)))
def iG(x y:D):R D:=R.guard (D.lay 40 x=true/\D.lay 40 y=true) (.ok (.bl (!bF x y)))
def hG(n:Nat)(i:Int):Option Nat:=if 0<=i then (if i<n then some i.toNat else none) else if -(n:Int)<=i then some (i+n).toNat else none
def bX{α:Type}(xs:List α)(i:Int):Option α:=(hG xs.length i).bind λj=>xs[j]?
theorem mK{α:Type}{ds:List α}(i:Nat):bX ds (i:Int)=ds[i]?:=by
 unfold bX hG
 rw[if_pos (by lia)]
 by_cases h:(i:Int)<ds.length
 ·rw[if_pos h];simp
 ·rw[if_neg h]
  have:ds.length<=i:=by lia
  rw[fK this];rfl
theorem fN{α:Type}{ds:List α}{i:Int}(h:0<=i):bX ds i=ds[i.toNat]?:=by
 obtain⟨n,rfl⟩:∃n:Nat,i=(n:Int):=⟨i.toNat,by lia⟩
 rw[mK];rfl
theorem VB{α:Type}{ds:List α}{i:Int}(h:i<0)(h2:-(ds.length:Int)<=i):bX ds i=ds[(i+ds.length).toNat]?:=by
 unfold bX hG
 rw[if_neg (by lia),if_pos h2];rfl
theorem VC{α:Type}(a:α)(ds:List α):bX (a::ds) 0=some a:=mK 0
theorem VD{α:Type}(a b:α)(ds:List α):bX (a::b::ds) 1=some b:=mK 1
theorem VE{α:Type}(a b c:α)(ds:List α):bX (a::b::c::ds) 2=some c:=mK 2
theorem VF{α:Type}(a b c d:α)(ds:List α):bX (a::b::c::d::ds) 3=some d:=mK 3
def aL(x y:D):R D:=match x,y with
 | .tup ds,.int i=>(match bX ds i with | some d=>.ok d | none=>.no)
 | .lst ds,.int i=>(match bX ds i with | some d=>.ok d | none=>.no)
 | _,_=>.no
theorem Es{ds:List D}{i:Int}{d:D}(h:bX ds i=some d):aL (.lst ds) (.int i) = .ok d:=by simp only[aL,h]
def a9(n d:Nat):Option Int->Nat
 | none=>d
 | some v=>if v<0 then (v+(n:Int)).toNat else min v.toNat n
theorem D7(n d:Nat):a9 n d none=d:=rfl
theorem D8(n d k:Nat):a9 n d (some (k:Int))=min k n:=by
 show(if (k:Int)<0 then ((k:Int)+(n:Int)).toNat else min (k:Int).toNat n)=min k n
 rw[if_neg (by lia),mq]
def q_{α:Type}(xs:List α)(lo hi:Option Int):List α:=(xs.drop (a9 xs.length 0 lo)).take (a9 xs.length xs.length hi-a9 xs.length 0 lo)
def lG:G->R (Option Int):=λ_=>.ok none
def LP(d:D):R (Option Int):=match d with | .int i=>.ok (some i) | _=>.no
def lH(g:G->R D):G->R (Option Int):=λΓ=>g Γ>>=LP
def xV(d:D)(lo hi:Option Int):R D:=match d with
 | .tup xs=>.ok (.tup (q_ xs lo hi))
 | .lst xs=>.ok (.lst (q_ xs lo hi))
 | _=>.no
def lI(ga:G->R D)(lo hi:G->R (Option Int)):G->R D:=λΓ=>ga Γ>>=λd=>lo Γ>>=λl=>hi Γ>>=λh=>xV d l h
theorem Et{α:Type}(xs:List α)(k:Nat):q_ xs (some (k:Int)) none=xs.drop k:=by
 unfold q_
 rw[D7,D8]
 by_cases h:k<=xs.length
 ·rw[R1 h,C9 (by rw[wX];lia)]
 ·rw[a5i (by lia),Aj,List.drop_of_length_le (by lia)];simp
theorem Eu{α:Type}(xs:List α)(k:Nat):q_ xs none (some (k:Int))=xs.take k:=by
 unfold q_
 rw[D7,D8,C_,xg]
 by_cases h:k<=xs.length
 ·rw[R1 h]
 ·rw[a5i (by lia),uI,C9 (by lia)]
inductive Cl where
 | LA | A5 | LB | tooLong | LC | LD | a9h | a9i
def aH(g:List D->R D)(gs:G->R (List D)):G->R D:=λΓ=>gs Γ>>=g
def jS(ds:List D):R D:=match ds with
 | [.tup xs]=>.ok (.int xs.length)
 | [.lst xs]=>.ok (.int xs.length)
 | _=>.no
def h_(ds:List D):R D:=match ds with
 | [.tup xs]=>.ok (.tup xs)
 | [.lst xs]=>.ok (.tup xs)
 | _=>.no
def Bc(ds:List D):R D:=match ds with
 | [.int i,.int j]=>.ok (.int (if j<i then j else i))
 | _=>.no
def ib:List D->Option (List Int)
 | []=>some []
 | .int i::ds=>(ib ds).map (i::·)
 | _::_=>none
theorem Ew:∀{ds:List D} {ns:List Int},ib ds=some ns->ds=ns.map D.int
 | [],ns,h=>by unfold ib at h;cases h;rfl
 | d::ds,ns,h=>by
   cases d with
   | int i =>
     unfold ib at h
     cases q:ib ds with
     | none=>rw[q] at h;cases h
     | some ms=>rw[q] at h;cases h;rw[Ew q];rfl
   | _=>unfold ib at h;cases h
theorem sX:∀ns:List Int,ib (ns.map D.int)=some ns
 | []=>rfl
 | n::ns=>by show(ib (ns.map D.int)).map (n::·)=_;rw[sX ns];rfl
def om:List D->Option (List Bool)
 | []=>some []
 | .bl i::ds=>(om ds).map (i::·)
 | _::_=>none
theorem LQ:∀{ds:List D} {ns:List Bool},om ds=some ns->ds=ns.map D.bl
 | [],ns,h=>by unfold om at h;cases h;rfl
 | d::ds,ns,h=>by
   cases d with
   | bl i =>
     unfold om at h
     cases q:om ds with
     | none=>rw[q] at h;cases h
     | some ms=>rw[q] at h;cases h;rw[LQ q];rfl
   | _=>unfold om at h;cases h
theorem Ey:∀ns:List Bool,om (ns.map D.bl)=some ns
 | []=>rfl
 | n::ns=>by show(om (ns.map D.bl)).map (n::·)=_;rw[Ey ns];rfl
def jT(ds:List D):R D:=match ds with
 | [.lst xs]=>(match ib xs with | some ns=>.ok (.int ns.sum) | none=>.no)
 | _=>.no
theorem LR(ns:List Int):jT [.lst (ns.map D.int)] = .ok (.int ns.sum):=by simp only[jT,sX]
def sY(ds:List D):R D:=match ds with
 | [.lst xs]=>(match om xs with | some bs=>.ok (.bl (bs.all (λb=>b))) | none=>.no)
 | _=>.no
theorem VG(ns:List Bool):sY [.lst (ns.map D.bl)] = .ok (.bl (ns.all λb=>b)):=by simp only[sY,Ey]
def gq(φ:List D->R D):List D->R D:=λds=>match φ ds with
 | .ok d=>.ok d
 | _=>.no
theorem LS{φ:List D->R D}{ds:List D}(h:gq φ ds ≠ .no):∃d,φ ds = .ok d/\gq φ ds = .ok d:=by
 unfold gq at h ⊢
 cases q:φ ds with
 | ok d=>exact⟨d,rfl,rfl⟩
 | no=>rw[q] at h;exact absurd rfl h
 | er c=>rw[q] at h;exact absurd rfl h
def jt(φ:List D->R (List D))(gs:G->R (List D)):G->R (List D):=λΓ=>gs Γ>>=λds=>φ ds>>=λes=>R.guard (D.bI es=true) (.ok es)
def LU(d:D):R (List D):=match d with
 | .tup ds=>R.guard (D.bI ds=true) (.ok ds)
 | .lst ds=>R.guard (D.bI ds=true) (.ok ds)
 | _=>.no
def pv(g:G->R D):G->R (List D):=λΓ=>g Γ>>=LU
def Bd(ga gb:G->R (List D)):G->R (List D):=λΓ=>ga Γ>>=λx=>gb Γ>>=λy=>R.guard (x.length+y.length<=1000) (.ok (x++y))
def Ez(x y:D):R (List D):=match x,y with
 | .lst xs,.lst ys=>R.guard (xs.length+ys.length<=1000/\D.bI (xs++ys)=true) (.ok (xs++ys))
 | _,_=>.no
def xW(ga gb:G->R D):G->R (List D):=λΓ=>ga Γ>>=λx=>gb Γ>>=λy=>Ez x y
def D.ty:D->String
 | .b_=>"NoneType"
 | .bl _=>"bool"
 | .int _=>"int"
 | .str _=>"str"
 | .tup _=>"tuple"
 | .lst _=>"list"
 | .jR=>"dict"
 | .exc _=>""
def D.kh:D->Bool
 | .exc _=>false
 | _=>true
def Be(f:String->Bool)(d:D):R D:=match d with
 | .exc _=>.no
 | d=>.ok (.bl (f d.ty))
def sZ(f:String->Bool)(g:G->R D):G->R D:=λΓ=>g Γ>>=Be f
theorem VH{f:String->Bool}{d:D}(h:Be f d ≠ .no):d.kh=true/\Be f d = .ok (.bl (f d.ty)):=by
 cases d<;>first | exact⟨rfl,rfl⟩ | exact absurd rfl h
def Bf(t:String):Bool:=t=="int"||t=="bool"
def Bg(t:String):Bool:=t=="bool"
def vj(t:String):Bool:=t=="tuple"
def Bh(t:String):Bool:=t=="list"
def xX(d:D):R (List D):=match d with
 | .tup ds=>.ok ds
 | .lst ds=>.ok ds
 | _=>.no
def lJ(g:G->R D):G->R (List D):=λΓ=>g Γ>>=xX
def ki(g:G->R D):G->R (List D):=λΓ=>g Γ>>=λd=>xX d>>=λds=>R.guard (D.bI ds=true) (.ok ds)
def fq(lo:Int)(n:Nat):List D:=(bK n).map λ(i:Nat)=>D.int (lo+(i:Int))
theorem oo(lo:Int)(n:Nat):(fq lo n).length=n:=by unfold fq;simp
theorem EA(lo:Int)(n i:Nat)(h:i<n):(fq lo n)[i]? = some (.int (lo+(i:Int))):=by unfold fq;simp[h]
theorem VI(lo:Int):fq lo 0=[]:=rfl
def kO(lo:Int)(step:Int)(n:Nat):List D:=(bK n).map λ(i:Nat)=>D.int (lo+step*(i:Int))
def jU(lo hi step:Int):Nat:=((hi-lo+step-1)/step).toNat
def fW(g:G->R D):G->R (List D):=λΓ=>g Γ>>=λd=>match d with
 | .int j=>R.guard (vi j) (.ok (fq 0 j.toNat))
 | _=>.no
def Bj(ga gb:G->R D):G->R (List D):=λΓ=>ga Γ>>=λd=>gb Γ>>=λd'=>match d,d' with
 | .int i,.int j=>R.guard (vi i/\vi j) (.ok (fq i (j-i).toNat))
 | _,_=>.no
def EB(ga gb gc:G->R D):G->R (List D):=λΓ=>ga Γ>>=λd=>gb Γ>>=λd'=>gc Γ>>=λVJ=>match d,d',VJ with
 | .int i,.int j,.int k=>R.guard ((-1073741824<=i/\i<1073741824)/\(-1073741824<=j/\j<1073741824)/\0<k/\k<1073741824) (.ok (kO i k (jU i j k)))
 | _,_,_=>.no
def cD(f:D->R (Option D)):List D->List D->R (List D)
 | [],acc=>.ok acc
 | d::r,acc=>match f d with
   | .ok (some e)=>cD f r (acc++[e])
   | .ok none=>cD f r acc
   | _=>.no
theorem Bk(f:D->R (Option D))(acc:List D):cD f [] acc = .ok acc:=rfl
theorem vm(f:D->R (Option D))(d:D)(r acc:List D):cD f (d::r) acc=match f d with
 | .ok (some e)=>cD f r (acc++[e])
 | .ok none=>cD f r acc
 | _=>.no:=rfl
theorem xY{f:D->R (Option D)}:∀{ds acc:List D},cD f ds acc ≠ .no->∃es,cD f ds acc = .ok es
 | [],acc,_=>⟨acc,rfl⟩
 | d::r,acc,h=>by
   unfold cD at h ⊢
   cases q:f d with
   | no=>rw[q] at h;exact absurd rfl h
   | er c=>rw[q] at h;exact absurd rfl h
   | ok o =>
     rw[q] at h
     cases o with
     | none=>exact xY h
     | some e=>exact xY h
theorem mL{α:Type}{f:D->R (Option D)}{k h:α->D}{l:List α}(q:∀x∈l,f (k x) = .ok (some (h x))):cD f (l.map k) [] = .ok (l.map h):=by
 suffices H:∀(l:List α) (acc:List D),(∀x∈l,f (k x) = .ok (some (h x)))->cD f (l.map k) acc = .ok (acc++l.map h) by
  have:=H l [] q;simpa using this
 intro l
 induction l with
 | nil=>intro acc _;simp[cD]
 | cons x l ih =>
   intro acc q
   rw[cJ,vm,q x bB]
   simp only
   rw[ih _ λy hy=>q y (bL _ hy)]
   simp
theorem VL{α:Type}{f:D->R (Option D)}{k:α->D}{h:α->Option D}{l:List α}(q:∀x∈l,f (k x) = .ok (h x)):cD f (l.map k) [] = .ok (l.filterMap h):=by
 suffices H:∀(l:List α) (acc:List D),(∀x∈l,f (k x) = .ok (h x))->cD f (l.map k) acc = .ok (acc++l.filterMap h) by
  have:=H l [] q;simpa using this
 intro l
 induction l with
 | nil=>intro acc _;simp[cD]
 | cons x l ih =>
   intro acc q
   rw[cJ,vm,q x bB]
   cases e:h x with
   | none=>simp only;rw[ih _ λy hy=>q y (bL _ hy)];simp[e]
   | some z=>simp only;rw[ih _ λy hy=>q y (bL _ hy)];simp[e]
theorem xZ{f:D->R (Option D)}{lo:Int}{n:Nat}{h:Nat->D}(q:∀i,i<n->f (.int (lo+(i:Int))) = .ok (some (h i))):cD f (fq lo n) [] = .ok ((bK n).map h) :=
 mL (k:=λ(i:Nat)=>D.int (lo+(i:Int))) λi hi=>q i (List.mem_range.mp hi)
def eh(ge:G->R D):D->G->R (Option D):=λd Γ=>ge (.ro d::Γ)>>=λe=>.ok (some e)
def pA(gc:G->R Bool)(ge:G->R D):D->G->R (Option D):=λd Γ=>gc (.ro d::Γ)>>=λk=>if k=true then ge (.ro d::Γ)>>=λe=>.ok (some e) else .ok none
def dg(gi:G->R (List D))(f:D->G->R (Option D)):G->R (List D):=λΓ=>gi Γ>>=λitems=>R.guard (items.length<=100000) (cD (λd=>f d Γ) items [])
inductive Fl where
 | nx (Γ:G) | rt (d:D) | dJ (ds:List D) | bk (Γ:G) | ct (Γ:G) | ex (c:Er) (Γ:G)
def lift{α:Type}(r:R α)(Γ:G)(k:α->R Fl):R Fl:=match r with
 | .no=>.no
 | .er c=>.ok (.ex c Γ)
 | .ok a=>k a
theorem kj{α:Type}{r:R α}{Γ:G}{k:α->R Fl}(h:lift r Γ k ≠ .no):r ≠ .no:=λe=>h (by rw[e];rfl)
theorem km{α:Type}{r:R α}{Γ:G}{k:α->R Fl}{a:α}(e:r = .ok a):lift r Γ k=k a:=by rw[e];rfl
theorem Bl{α:Type}{r:R α}{Γ:G}{k:α->R Fl}{a:α}(h:lift r Γ k ≠ .no)(e:r = .ok a):k a ≠ .no:=by rw[e] at h;exact h
theorem vn{α:Type}(a:α)(Γ:G)(k:α->R Fl):lift (.ok a) Γ k=k a:=rfl
theorem VM{α:Type}(c:Er)(Γ:G)(k:α->R Fl):lift (.er c:R α) Γ k = .ok (.ex c Γ):=rfl
def fh(i:Nat)(Γ:G):G:=match Γ[i]? with
 | some (.own ds)=>Γ.set i (.ro (.lst ds))
 | _=>Γ
def cQ:G->R Fl:=λΓ=>.ok (.nx Γ)
def aE(t u:G->R Fl):G->R Fl:=λΓ=>t Γ>>=λr=>match r with
 | .nx Γ'=>u Γ'
 | r=>.ok r
def rf(g:G->R (List D)):G->R Fl:=λΓ=>lift (g Γ) Γ λds=>.ok (.dJ ds)
def mM(i:Nat):G->R Fl:=λΓ=>match Γ[i]? with
 | some (.own ds)=>.ok (.dJ ds)
 | _=>.no
def Bm(c:Er):G->R Fl:=λΓ=>.ok (.ex c Γ)
def br(g:G->R D):G->R Fl:=λΓ=>lift (g Γ) Γ λd=>.ok (.rt d)
def cy(gc:G->R Bool)(t u:G->R Fl):G->R Fl:=λΓ=>lift (gc Γ) Γ λk=>if k=true then t Γ else u Γ
def aX(i:Nat)(g:G->R D):G->R Fl:=λΓ=>lift (g Γ) Γ λd=>.ok (.nx (Γ.set i (.ro d)))
def c5(i:Nat)(g:G->R (List D)):G->R Fl:=λΓ=>lift (g Γ) Γ λds=>.ok (.nx (Γ.set i (.own ds)))
def gP(i:Nat)(g:G->R D):G->R Fl:=λΓ=>match Γ[i]? with
 | some (.own ds)=>lift (g Γ) Γ λd=>R.guard (ds.length<=100000) (.ok (.nx (Γ.set i (.own (ds++[d])))))
 | _=>.no
def lK(i:Nat)(gi g:G->R D):G->R Fl:=λΓ=>match Γ[i]? with
 | some (.own ds)=>lift (g Γ) Γ λd=>lift (gi Γ) Γ λk=>(match k with
   | .int j=>(match hG ds.length j with | some j'=>.ok (.nx (Γ.set i (.own (ds.set j' d)))) | none=>.no)
   | _=>.no)
 | _=>.no
def dG(gb:G->R Fl)(i:Nat):List D->G->R Fl
 | [],Γ=>.ok (.nx Γ)
 | d::r,Γ=>match gb (Γ.set i (.ro d)) with
   | .ok (.nx Γ')=>dG gb i r Γ'
   | .ok (.ct Γ')=>dG gb i r Γ'
   | .ok (.bk Γ')=>.ok (.nx Γ')
   | .ok (.rt d)=>.ok (.rt d)
   | .ok (.dJ d)=>.ok (.dJ d)
   | .ok (.ex c Γ')=>.ok (.ex c Γ')
   | _=>.no
def fP(i:Nat)(gi:G->R (List D))(gb:G->R Fl):G->R Fl:=λΓ=>lift (gi Γ) Γ λds=>dG gb i ds Γ
def dh(gc:G->R Bool)(gb:G->R Fl):Nat->G->R Fl
 | 0,_=>.no
 | n+1,Γ=>lift (gc Γ) Γ λk=>if k=true then (match gb Γ with
    | .ok (.nx Γ')=>dh gc gb n Γ'
    | .ok (.ct Γ')=>dh gc gb n Γ'
    | .ok (.bk Γ')=>.ok (.nx Γ')
    | .ok (.rt d)=>.ok (.rt d)
    | .ok (.dJ d)=>.ok (.dJ d)
    | .ok (.ex c Γ')=>.ok (.ex c Γ')
    | _=>.no) else .ok (.nx Γ)
theorem VN(gb:G->R Fl)(i:Nat)(Γ:G):dG gb i [] Γ = .ok (.nx Γ):=rfl
theorem EC(gb:G->R Fl)(i:Nat)(d:D)(ds:List D)(Γ:G):dG gb i (d::ds) Γ=match gb (Γ.set i (.ro d)) with
 | .ok (.nx Γ')=>dG gb i ds Γ'
 | .ok (.ct Γ')=>dG gb i ds Γ'
 | .ok (.bk Γ')=>.ok (.nx Γ')
 | .ok (.rt d)=>.ok (.rt d)
 | .ok (.dJ d)=>.ok (.dJ d)
 | .ok (.ex c Γ')=>.ok (.ex c Γ')
 | _=>.no:=rfl
theorem vo{gb:G->R Fl}{i:Nat}(I:Nat->G->Prop):∀(ds:List D) (k:Nat) (Γ:G),I k Γ ->
 (∀(j:Nat) (d:D) (Γ:G),ds[j]? = some d->I (k+j) Γ->∃Γ',(gb (Γ.set i (.ro d)) = .ok (.nx Γ')∨gb (Γ.set i (.ro d)) = .ok (.ct Γ'))/\I (k+j+1) Γ') ->
 ∃Γ',dG gb i ds Γ = .ok (.nx Γ')/\I (k+ds.length) Γ'
 | [],k,Γ,h,_=>⟨Γ,rfl,h⟩
 | d::ds,k,Γ,h,q=>by
   obtain⟨lN,e1,h1⟩:=q 0 d Γ rfl h
   obtain⟨VO,e2,h2⟩:=vo I ds (k+1) lN h1 λj d' Γ' hd hI=>by
    have:=q (j+1) d' Γ' (by simpa using hd) (by rw[show k+(j+1)=k+1+j by lia];exact hI)
    rw[show k+(j+1)=k+1+j by lia] at this
    exact this
   refine⟨VO,?_,by rw[de,show k+(ds.length+1)=k+1+ds.length by lia];exact h2⟩
   rw[EC]
   rcases e1 with e1 | e1<;>rw[e1]<;>exact e2
theorem VP{gb:G->R Fl}{i:Nat}(S:Nat->G)(ds:List D)(q:∀(j:Nat) (d:D),ds[j]? = some d->gb ((S j).set i (.ro d)) = .ok (.nx (S (j+1)))):dG gb i ds (S 0) = .ok (.nx (S ds.length)):=by
 obtain⟨Γ',e,h⟩:=vo (gb:=gb) (i:=i) (λk Γ=>Γ=S k) ds 0 (S 0) rfl λj d Γ hd hI=>by
  rw[fE] at hI ⊢
  subst hI
  exact⟨_,.inl (q j d hd),rfl⟩
 rw[fE] at h
 rw[e,h]
theorem VQ{gb:G->R Fl}{i:Nat}{Γ:G}(S:Nat->G){ds:List D}(h0:Γ=S 0)(q:∀(j:Nat) (d:D),ds[j]? = some d->gb ((S j).set i (.ro d)) = .ok (.nx (S (j+1)))):dG gb i ds Γ = .ok (.nx (S ds.length)):=by
 rw[h0];exact VP S ds q
theorem VR{gb:G->R Fl}{i:Nat}{Γ:G}(S:Nat->G){lo:Int}{n:Nat}(h0:Γ=S 0)(q:∀(j:Nat),j<n->gb ((S j).set i (.ro (.int (lo+(j:Int))))) = .ok (.nx (S (j+1)))):dG gb i (fq lo n) Γ = .ok (.nx (S n)):=by
 rw[VQ S h0,oo]
 intro j d hd
 have hj:j<n:=by
  have:=(List.getElem?_eq_some_iff.mp hd).1
  rw[oo] at this;exact this
 rw[EA lo _ _ hj] at hd
 cases hd
 exact q j hj
theorem VS(gc:G->R Bool)(gb:G->R Fl)(n:Nat)(Γ:G):dh gc gb (n+1) Γ=lift (gc Γ) Γ λk=>if k=true then (match gb Γ with
 | .ok (.nx Γ')=>dh gc gb n Γ'
 | .ok (.ct Γ')=>dh gc gb n Γ'
 | .ok (.bk Γ')=>.ok (.nx Γ')
 | .ok (.rt d)=>.ok (.rt d)
 | .ok (.dJ d)=>.ok (.dJ d)
 | .ok (.ex c Γ')=>.ok (.ex c Γ')
 | _=>.no) else .ok (.nx Γ):=rfl
theorem pB{gc:G->R Bool}{gb:G->R Fl}(I:Nat->G->Prop)(Q:R Fl->Prop)(q:∀m Γ,I m Γ->(gc Γ = .ok false/\Q (.ok (.nx Γ)))∨(gc Γ = .ok true /\
 ((∃Γ' m',m'<m/\(gb Γ = .ok (.nx Γ')∨gb Γ = .ok (.ct Γ'))/\I m' Γ')∨(∃Γ',gb Γ = .ok (.bk Γ')/\Q (.ok (.nx Γ')))∨(∃d,gb Γ = .ok (.rt d)/\Q (.ok (.rt d)))∨(∃d,gb Γ = .ok (.dJ d)/\Q (.ok (.dJ d)))∨(∃c Γ',gb Γ = .ok (.ex c Γ')/\Q (.ok (.ex c Γ')))))) :
 ∀(n m:Nat) (Γ:G),m<n->I m Γ->Q (dh gc gb n Γ)
 | 0,m,Γ,h,_=>absurd h (jK _)
 | n+1,m,Γ,h,hI=>by
   rw[VS]
   rcases q m Γ hI with ⟨e,hq⟩ | ⟨e,h2⟩
   ·rw[e,vn,if_neg qw];exact hq
   ·rw[e,vn,if_pos rfl]
    rcases h2 with ⟨Γ',m',hm,e',h'⟩ | ⟨Γ',e',h'⟩ | ⟨d,e',h'⟩ | ⟨d,e',h'⟩ | ⟨c,Γ',e',h'⟩
    ·rcases e' with e' | e'<;>rw[e']<;>exact pB I Q q n m' Γ' (by lia) h'
    ·rw[e'];exact h'
    ·rw[e'];exact h'
    ·rw[e'];exact h'
    ·rw[e'];exact h'
def gr(n:Nat)(ds:List D):G:=ds.map En.ro++dD (n-ds.length) En.no
def fin(r:R Fl):R D:=match r with
 | .ok (.rt d)=>.ok d
 | .ok (.nx _)=>.ok .b_
 | .ok (.ex c _)=>.er c
 | _=>.no
def Bn(r:R Fl):R (List D):=match r with
 | .ok (.dJ d)=>.ok d
 | .ok (.ex c _)=>.er c
 | _=>.no
def cn(p n:Nat)(g:G->R Fl):List D->R D:=λds=>if ds.length=p then fin (g (gr n ds)) else .no
theorem rg{p n:Nat}{g:G->R Fl}{ds:List D}(h:cn p n g ds ≠ .no):ds.length=p:=by
 unfold cn at h
 by_cases q:ds.length=p
 ·exact q
 ·rw[if_neg q] at h;exact absurd rfl h
theorem vp{p n:Nat}{g:G->R Fl}{ds:List D}(h:ds.length=p):cn p n g ds=fin (g (gr n ds)):=if_pos h
def ju(p n:Nat)(g:G->R Fl):List D->R (List D):=λds=>if ds.length=p then Bn (g (gr n ds)) else .no
theorem LV{p n:Nat}{g:G->R Fl}{ds:List D}(h:ju p n g ds ≠ .no):ds.length=p:=by
 unfold ju at h
 by_cases q:ds.length=p
 ·exact q
 ·rw[if_neg q] at h;exact absurd rfl h
theorem LW{p n:Nat}{g:G->R Fl}{ds:List D}(h:ds.length=p):ju p n g ds=Bn (g (gr n ds)):=if_pos h
theorem VT:((0:Nat):Int)=0:=rfl
theorem VU:((1:Nat):Int)=1:=rfl
theorem VV:((2:Nat):Int)=2:=rfl
theorem VW:((3:Nat):Int)=3:=rfl
theorem VX:((4:Nat):Int)=4:=rfl
end
def dInt(ds:List D):R D:=match ds with
 | [.int i]=>.ok (.int i)
 | [.bl b]=>.ok (.int (if b then 1 else 0))
 | _=>.no
def x8:Nat:=10^1200
def x_(i j:Int):Prop:=i.natAbs<x8/\j.natAbs<x8
instance (i j:Int):Decidable (x_ i j):=by unfold x_;exact inferInstance
theorem LX{n:Nat}(h:n<=10^300):n<x8:=C7 h (Nat.pow_lt_pow_right (by decide) (by decide))
noncomputable def y9x(x y:D):R D:=match x,y with
 | .int i,.int j=>R.guard (x_ i j) (.ok (.int (i*j)))
 | _,_=>.no
def D.isNon:D->Bool
 | .b_=>true
 | _=>false
def w0d(x y:D):R D:=match y with
 | .b_=>.ok (.bl (!x.isNon))
 | _=>.no
def ya(n:Int):Nat:=if n==0 then 0 else n.natAbs.log2+1
def x3d(d:D):R D:=match d with
 | .int n=>.ok (.int (ya n))
 | _=>.no
noncomputable def y9t(ga:G->R D):G->R D:=λΓ=>ga Γ>>=x3d
noncomputable def ED(x y:D):R D:=match x,y with
 | .int i,.int j=>R.guard (0<=i/\0<=j) (.ok (.int (i/2^j.toNat)))
 | _,_=>.no
noncomputable def x6x(ge:G->R D):D->D->G->R (Option D):=λd d2 Γ=>ge (.ro d :: .ro d2::Γ)>>=λe=>.ok (some e)
noncomputable def vq(gc:G->R Bool)(ge:G->R D):D->D->G->R (Option D):=λd d2 Γ=>gc (.ro d :: .ro d2::Γ)>>=λk=>if k=true then ge (.ro d :: .ro d2::Γ)>>=λe=>.ok (some e) else .ok none
def y0y(f:D->D->G->R (Option D))(Γ:G)(d:D):R (Option D):=match d with
 | .tup [a,b]=>f a b Γ
 | _=>.no
noncomputable def y3n(gi:G->R (List D))(f:D->D->G->R (Option D)):G->R (List D):=λΓ=>gi Γ>>=λitems=>R.guard (items.length<=100000) (cD (y0y f Γ) items [])
def s9:List D->List D->List D
 | x::xs,y::ys=>.tup [x,y]::s9 xs ys
 | _,_=>[]
noncomputable def gZip(ga gb:G->R D):G->R (List D):=λΓ=>ga Γ>>=λa=>gb Γ>>=λb=>xX a>>=λxs=>xX b>>=λys=>R.guard (D.bI xs=true/\D.bI ys=true) (.ok (s9 xs ys))
def gu(gb:G->R Fl)(i j:Nat):List D->G->R Fl
 | [],Γ=>.ok (.nx Γ)
 | .tup [a,b]::ds,Γ=>match gb ((Γ.set i (.ro a)).set j (.ro b)) with
   | .ok (.nx Γ')=>gu gb i j ds Γ'
   | .ok (.ct Γ')=>gu gb i j ds Γ'
   | .ok (.bk Γ')=>.ok (.nx Γ')
   | .ok (.rt d)=>.ok (.rt d)
   | .ok (.dJ d)=>.ok (.dJ d)
   | .ok (.ex c Γ')=>.ok (.ex c Γ')
   | _=>.no
 | _::_,_=>.no
def vt(i j:Nat)(gs:G->R (List D))(gb:G->R Fl):G->R Fl:=λΓ=>lift (gs Γ) Γ λds=>gu gb i j ds Γ
def dS:Nat->List D->List D
 | _,[]=>[]
 | k,x::xs=>.tup [.int k,x]::dS (k+1) xs
noncomputable def y7z(ga:G->R D):G->R (List D):=λΓ=>ga Γ>>=λa=>match a with
 | .lst xs=>R.guard (D.bI xs=true) (.ok (dS 0 xs))
 | _=>.no
def EF(ds:List D):R D:=match ds with
 | [.tup xs]=>(match ib xs with | some ns=>.ok (.bl (ns.any (λn=>n != 0))) | none=>.no)
 | _=>.no
theorem y3u(ns:List Int):EF [.tup (ns.map D.int)] = .ok (.bl (ns.any (λn=>n != 0))):=by simp only[EF,sX]
def vv(i:Nat)(Γ:G):G:=match Γ[i]? with
 | some (.own ds)=>Γ.set i (.ro (.lst ds))
 | _=>Γ
def yb(i:Nat)(g:G->R Fl):G->R Fl:=λΓ=>g (vv i Γ)
noncomputable def z8m(φ:List D->R D)(gs:G->R (List D)):G->R D:=λΓ=>gs Γ>>=λds=>match φ ds with | .ok d=>.ok d | _=>.no
noncomputable def s_(i:Nat)(gs:G->R (List D)):G->R Fl:=λΓ=>match Γ[i]? with
 | some (.own ds)=>lift (gs Γ) Γ λes=>R.guard (ds.length+es.length<=100000) (.ok (.nx (Γ.set i (.own (ds++es)))))
 | _=>.no
theorem VY{i:Nat}{gs:G->R (List D)}{Γ:G}{ds es:List D}(hi:Γ[i]? = some (.own ds))(h:gs Γ = .ok es)(hl:ds.length+es.length<=100000):s_ i gs Γ = .ok (.nx (Γ.set i (.own (ds++es)))):=by
 unfold s_;rw[hi]
 show lift (gs Γ) Γ _=_
 rw[h,vn,eU hl]
def mO(x:Int):List Int->List Int
 | []=>[x]
 | y::l=>if x<y then x::y::l else if x=y then y::l else y::mO x l
def fu:List Int->List Int
 | []=>[]
 | x::l=>mO x (fu l)
theorem EG{x z:Int}:∀{l:List Int},z∈mO x l↔z=x∨z∈l
 | []=>by simp[mO]
 | y::l=>by
   unfold mO
   by_cases h:x<y
   ·rw[if_pos h];simp
   ·rw[if_neg h]
    by_cases e:x=y
    ·rw[if_pos e];subst e;simp
    ·rw[if_neg e]
     simp only[fF,EG (l:=l)]
     constructor
     ·rintro(q | q | q)
      ·exact .inr (.inl q)
      ·exact .inl q
      ·exact .inr (.inr q)
     ·rintro(q | q | q)
      ·exact .inr (.inl q)
      ·exact .inl q
      ·exact .inr (.inr q)
theorem vw{z:Int}:∀{l:List Int},z∈fu l↔z∈l
 | []=>by simp[fu]
 | x::l=>by rw[fu,EG,vw (l:=l),fF]
theorem LY{x:Int}:∀{l:List Int},l.Pairwise (·<·)->(mO x l).Pairwise (·<·)
 | [],_=>by simp[mO]
 | y::l,h=>by
   obtain⟨h1,h2⟩:=List.pairwise_cons.mp h
   unfold mO
   by_cases q:x<y
   ·rw[if_pos q]
    refine List.pairwise_cons.mpr ⟨λz hz=>?_,h⟩
    rcases List.mem_cons.mp hz with e | e
    ·rw[e];exact q
    ·exact Int.lt_trans q (h1 z e)
   ·rw[if_neg q]
    by_cases e:x=y
    ·rw[if_pos e];exact h
    ·rw[if_neg e]
     refine List.pairwise_cons.mpr ⟨λz hz=>?_,LY h2⟩
     rcases EG.mp hz with w | w
     ·rw[w];lia
     ·exact h1 z w
theorem EH:∀l:List Int,(fu l).Pairwise (·<·)
 | []=>.nil
 | x::l=>LY (EH l)
noncomputable def Bo(ga:G->R D):G->R (List D):=λΓ=>ga Γ>>=λd=>match d with
 | .lst xs=>(match ib xs with | some ns=>R.guard (ns.length<64) (.ok ((fu ns).map D.int)) | none=>.no)
 | _=>.no
theorem VZ{ga:G->R D}{Γ:G}{ns:List Int}(h:ga Γ = .ok (.lst (ns.map D.int)))(hl:ns.length<64):Bo ga Γ = .ok ((fu ns).map D.int):=by
 unfold Bo
 rw[h]
 show(match ib (ns.map D.int) with | some ns=>R.guard (ns.length<64) (.ok ((fu ns).map D.int)) | none=>.no)=_
 rw[sX]
 show R.guard _ _=_
 rw[eU hl]
noncomputable def mP(x c:D):R D:=match c with
 | .lst ys=>R.guard (D.lay 40 x=true/\D.lay 40 (.lst ys)=true) (.ok (.bl (ys.any λy=>bF y x)))
 | .tup ys=>R.guard (D.lay 40 x=true/\D.lay 40 (.tup ys)=true) (.ok (.bl (ys.any λy=>bF y x)))
 | _=>.no
noncomputable def td(ys:List D)(x:D):R D:=match ys.findIdx? λy=>bF y x with
 | some j=>R.guard (D.lay 40 x=true/\D.lay 40 (.lst ys)=true/\ys.length<=100000) (.ok (.int (j:Int)))
 | none=>.no
noncomputable def z9j(ga gb:G->R D):G->R D:=λΓ=>ga Γ>>=λa=>match a with
 | .lst ys=>gb Γ>>=λx=>td ys x
 | _=>.no
def x1m(g:G->R D):G->R (List D):=λΓ=>g Γ>>=λd=>match d with
 | .lst ds=>.ok (dS 1 ds)
 | _=>.no
def D.tf:D->Bool
 | .tup ds=>ds.all λd=>match d with | .int _=>true | _=>false
 | _=>false
def fG(ks:List (List Int)):List (List Int):=ks.foldl (λl k=>if k∈l then l else k::l) []
noncomputable def ti:D->List Int
 | .tup xs=>(ib xs).getD []
 | _=>[]
noncomputable def yc(ga:G->R D):G->R D:=λΓ=>ga Γ>>=λd=>match d with
 | .lst xs=>R.guard (xs.all D.tf=true/\xs.length<=18) (.ok (.int (fG (xs.map ti)).length))
 | _=>.no
theorem Bp(ks:List (List Int))(k:List Int):fG (ks++[k])=if k∈fG ks then fG ks else k::fG ks:=by
 unfold fG
 rw[List.foldl_append];rfl
def fX(gb:G->R Fl)(i j k:Nat):List D->G->R Fl
 | [],Γ=>.ok (.nx Γ)
 | .tup [a,b,c]::ds,Γ=>match gb (((Γ.set i (.ro a)).set j (.ro b)).set k (.ro c)) with
   | .ok (.nx Γ')=>fX gb i j k ds Γ'
   | .ok (.ct Γ')=>fX gb i j k ds Γ'
   | .ok (.bk Γ')=>.ok (.nx Γ')
   | .ok (.rt d)=>.ok (.rt d)
   | .ok (.dJ d)=>.ok (.dJ d)
   | .ok (.ex c Γ')=>.ok (.ex c Γ')
   | _=>.no
 | _::_,_=>.no
def EI(i j k:Nat)(gs:G->R (List D))(gb:G->R Fl):G->R Fl:=λΓ=>lift (gs Γ) Γ λds=>fX gb i j k ds Γ
end L3
namespace L3
section
variable {Γ Γ':G}{i:Nat}{g gk:G->R D}{gs:G->R (List D)}{gc:G->R Bool}{t u e gb:G->R Fl}{r:R Fl}{d k:D}{ds:List D}{c:Er}
theorem dU(h:t Γ = .ok (.nx Γ'))(h2:u Γ'=r):aE t u Γ=r:=by unfold aE;rw[h];exact h2
theorem tj(h:t Γ = .ok (.rt d)):aE t u Γ = .ok (.rt d):=by unfold aE;rw[h];rfl
theorem V0(h:t Γ = .ok (.ex c Γ')):aE t u Γ = .ok (.ex c Γ'):=by unfold aE;rw[h];rfl
theorem gQ(h:g Γ = .ok d):aX i g Γ = .ok (.nx (Γ.set i (.ro d))):=by unfold aX;rw[h];rfl
theorem LZ(h:gs Γ = .ok ds):c5 i gs Γ = .ok (.nx (Γ.set i (.own ds))):=by unfold c5;rw[h];rfl
theorem rh(ho:Γ[i]? = some (.own ds))(h:g Γ = .ok d)(hl:ds.length<=100000):gP i g Γ = .ok (.nx (Γ.set i (.own (ds++[d])))):=by
 unfold gP;rw[ho];simp only[h,vn,eU hl]
theorem yd{j:Int}{n:Nat}(ho:Γ[i]? = some (.own ds))(h:g Γ = .ok d)(hk:gk Γ = .ok (.int j))(hn:hG ds.length j=some n):lK i gk g Γ = .ok (.nx (Γ.set i (.own (ds.set n d)))):=by
 unfold lK;rw[ho];simp only[h,hk,vn,hn]
theorem oq(hc:gc Γ = .ok true)(h:t Γ=r):cy gc t u Γ=r:=by unfold cy;rw[hc];exact h
theorem V1(hc:gc Γ = .ok false)(h:u Γ=r):cy gc t u Γ=r:=by unfold cy;rw[hc];exact h
theorem tp(hc:gc Γ = .ok false):cy gc t cQ Γ = .ok (.nx Γ):=V1 hc rfl
theorem L4(hi:gs Γ = .ok ds)(h:dG gb i ds Γ=r):fP i gs gb Γ=r:=by unfold fP;rw[hi];exact h
theorem cR(h:g Γ = .ok d):br g Γ = .ok (.rt d):=by unfold br;rw[h];rfl
theorem Bq(h:gs Γ = .ok ds):rf gs Γ = .ok (.dJ ds):=by unfold rf;rw[h];rfl
theorem EJ(h:Γ[i]? = some (.own ds)):mM i Γ = .ok (.dJ ds):=by unfold mM;rw[h]
theorem cE(hg:g Γ = .ok d)(h:u (Γ.set i (.ro d))=r):aE (aX i g) u Γ=r:=dU (gQ hg) h
theorem fw(hg:gs Γ = .ok ds)(h:u (Γ.set i (.own ds))=r):aE (c5 i gs) u Γ=r:=dU (LZ hg) h
theorem mQ(hc:gc Γ = .ok false)(h:u Γ=r):aE (cy gc t cQ) u Γ=r:=dU (tp hc) h
theorem L5(hc:gc Γ = .ok true)(ht:t Γ = .ok (.nx Γ'))(h:u Γ'=r):aE (cy gc t e) u Γ=r:=dU (oq hc ht) h
theorem ye(hi:gs Γ = .ok ds)(hf:dG gb i ds Γ = .ok (.nx Γ'))(h:u Γ'=r):aE (fP i gs gb) u Γ=r:=dU (L4 hi hf) h
theorem c8{p n:Nat}(hl:ds.length=p)(h:t (gr n ds) = .ok (.rt d)):cn p n t ds = .ok d:=by rw[vp hl,h];rfl
theorem V2{p n:Nat}(hl:ds.length=p)(h:t (gr n ds) = .ok (.ex c Γ)):cn p n t ds = .er c:=by rw[vp hl,h];rfl
theorem ot{p n:Nat}{es:List D}(hl:ds.length=p)(h:t (gr n ds) = .ok (.dJ es)):ju p n t ds = .ok es:=by rw[LW hl,h];rfl
def Ends(r:R Fl)(I:G->Prop):Prop:=∃Γ',(r = .ok (.nx Γ')∨r = .ok (.ct Γ'))/\I Γ'
theorem Ends.nx{I:G->Prop}{r:R Fl}(h:r = .ok (.nx Γ))(hI:I Γ):Ends r I:=⟨Γ,.inl h,hI⟩
theorem pC(I:Nat->G->Prop)(hi:gs Γ = .ok ds)(h0:I 0 Γ)(hq:∀(j:Nat) (d:D) (Γ:G),ds[j]? = some d->I j Γ->Ends (gb (Γ.set i (.ro d))) (I (j+1)))(h:∀Γ',I ds.length Γ'->u Γ'=r):aE (fP i gs gb) u Γ=r:=by
 obtain⟨Γ',e,h'⟩:=vo I ds 0 Γ h0 λj d Γ hd hI=>by rw[fE] at hI ⊢;exact hq j d Γ hd hI
 rw[fE] at h'
 exact ye hi e (h Γ' h')
end
def aJ(f:Nat->Int):Nat->Int
 | 0=>0
 | n+1=>aJ f n+f n
theorem L6(f:Nat->Int):aJ f 0=0:=rfl
theorem eA(f:Nat->Int)(n:Nat):aJ f (n+1)=aJ f n+f n:=rfl
theorem eW{f g:Nat->Int}:∀{n:Nat},(∀i,i<n->f i=g i)->aJ f n=aJ g n
 | 0,_=>rfl
 | n+1,h=>by rw[eA,eA,eW λi hi=>h i (by lia),h n (by lia)]
theorem vz(f g:Nat->Int):∀n:Nat,aJ (λi=>f i+g i) n=aJ f n+aJ g n
 | 0=>rfl
 | n+1=>by rw[eA,eA,eA,vz f g n];lia
theorem tq(c:Int)(f:Nat->Int):∀n:Nat,aJ (λi=>c*f i) n=c*aJ f n
 | 0=>by simp[aJ]
 | n+1=>by rw[eA,eA,tq c f n,uJ]
theorem V3(c:Int)(f:Nat->Int)(n:Nat):aJ (λi=>f i*c) n=aJ f n*c:=by
 rw[eW (g:=λi=>c*f i) λi _=>j_ _ _,tq,j_]
theorem yf:∀n:Nat,aJ (λ_=>0) n=0
 | 0=>rfl
 | n+1=>by rw[eA,yf n];rfl
theorem L7(f:Nat->Nat->Int)(m:Nat):∀n:Nat,aJ (λi=>aJ (λj=>f i j) m) n=aJ (λj=>aJ (λi=>f i j) n) m
 | 0=>by simp only[L6,yf]
 | n+1=>by
   rw[eA,L7 f m n,<-vz]
   rfl
theorem tu{f:Nat->Int}{k:Nat}:∀{n:Nat},k<n->(∀i,i<n->i≠k->f i=0)->aJ f n=f k
 | 0,h,_=>absurd h (jK _)
 | n+1,h,q=>by
   rw[eA]
   by_cases e:k=n
   ·subst e
    rw[eW (g:=λ_=>0) λi hi=>q i (by lia) (by lia),yf];lia
   ·rw[tu (by lia) λi hi hk=>q i (by lia) hk,q n (by lia) (gJ e)];lia
theorem tw{f:Nat->Int}{n:Nat}(q:∀i,i<n->f i=0):aJ f n=0:=by
 rw[eW (g:=λ_=>0) q,yf]
theorem EK(f:Nat->Int):∀n:Nat,((bK n).map f).sum=aJ f n
 | 0=>rfl
 | n+1=>by rw[uK,lx,List.sum_append,EK f n,eA];simp
def cg(P a b:Int):Prop:=a%P=b%P
theorem cg.refl{P a:Int}:cg P a a:=rfl
theorem cg.symm{P a b:Int}(h:cg P a b):cg P b a:=Eq.symm h
theorem cg.trans{P a b c:Int}(h:cg P a b)(g:cg P b c):cg P a c:=Eq.trans h g
theorem cg.of_eq{P a b:Int}(h:a=b):cg P a b:=by rw[h];exact cg.refl
theorem kP{P a:Int}:cg P (a%P) a:=by unfold cg;exact Int.emod_emod_of_dvd a (Int.dvd_refl P)
theorem cg.add{P a b c d:Int}(h:cg P a b)(g:cg P c d):cg P (a+c) (b+d):=by unfold cg at *;rw[JP,h,g,<-JP]
theorem cg.sub{P a b c d:Int}(h:cg P a b)(g:cg P c d):cg P (a-c) (b-d):=by unfold cg at *;rw[R3,h,g,<-R3]
theorem cg.mul{P a b c d:Int}(h:cg P a b)(g:cg P c d):cg P (a*c) (b*d):=by unfold cg at *;rw[JQ,h,g,<-JQ]
theorem cg.neg{P a b:Int}(h:cg P a b):cg P (-a) (-b):=by
 have:=(cg.refl (P:=P) (a:=0)).sub h
 simpa using this
theorem cg.aJ{P:Int}{f g:Nat->Int}:∀{n:Nat},(∀i,i<n->cg P (f i) (g i))->cg P (L3.aJ f n) (L3.aJ g n)
 | 0,_=>cg.refl
 | n+1,h=>(cg.aJ λi hi=>h i (by lia)).add (h n (by lia))
theorem cg.EL{P a b:Int}(h:cg P a b)(ha:0<=a)(Br:a<P)(hb:0<=b)(fY:b<P):a=b:=by
 unfold cg at h;rw[jg ha Br,jg hb fY] at h;exact h
theorem L8{P a b:Int}:cg P a b↔(a-b)%P=0:=by
 unfold cg
 constructor
 ·intro h;rw[R3,h,Int.sub_self,qE]
 ·intro h
  have:cg P (a-b+b) (0+b):=cg.add (by unfold cg;rw[h,qE]) cg.refl
  unfold cg at this
  rw[show a-b+b=a by lia,mr] at this
  exact this
theorem kn{w P:Int}(h:0<P):0<=w%P:=JR _ (by lia)
theorem ko{w P:Int}(h:0<P):w%P<P:=JS _ h
end L3
namespace L3
open PySem
noncomputable section
def L9:G->R Fl :=
 (aE (cy (gT (ao qY (gV 1) (aH jS (ae (gV 0) az)))) (br (ao aL (gV 0) (gV 1))) cQ)
 (br (gC (.int 0))))
def lO:List D->R D:=cn 2 2 L9
def L_:G->R Fl :=
 (aE (c5 3 (gO az))
 (aE (fP 4 (fW (gV 2))
 (aE (gP 3 (aG (ao df (gV 0) (gV 1))))
 (aX 0 (aG (ao hJ (gV 0) (gV 1))))))
 (br (aH h_ (ae (gV 3) az)))))
def vA:List D->R D:=cn 3 5 L_
def Ma:G->R Fl :=
 (br (Ei (sZ Bf (gV 0)) (Ej (sZ Bg (gV 0)))))
def vB:List D->R D:=cn 1 1 Ma
def Mb:G->R Fl :=
 (br (ao df (gV 1) (gV 0)))
def ou:List D->R D:=cn 2 2 Mb
def Mc:G->R Fl :=
 (aE (aX 3 (aG (aH jS (ae (gV 2) az))))
 (br (aH ou (ae (gV 0) (ae (ao b7 (aH jT (ae (gL (dg (fW (gV 3)) (eh (aG (ao cX (ao aL (gV 2) (gV 0)) (ao aL (gV 3) (gV 0))))))) az)) (ao aL (gV 1) (gV 3))) az)))))
def yg:List D->R D:=cn 3 4 Mc
def Md:G->R Fl :=
 (br (aH h_ (ae (gL (dg (ki (gV 1)) (eh (aG (aH (gq yg) (ae (gV 1) (ae (gV 0) (ae (gV 3) az)))))))) az)))
def ox:List D->R D:=cn 3 3 Md
def Me:G->R Fl :=
 (br (aH jT (ae (gL (dg (fW (aH jS (ae (gV 1) az))) (eh (aG (ao cX (ao aL (gV 1) (gV 0)) (ao aL (ao aL (gV 2) (gV 0)) (gV 3))))))) az)))
def EM:List D->R D:=cn 3 3 Me
def Mf:G->R Fl :=
 (aE (aX 3 (aG (aH jS (ae (gV 1) az))))
 (aE (c5 4 (dg (fW (ao b7 (gV 3) (gC (.int 1)))) (eh (aG (aH (gq EM) (ae (gV 3) (ae (gV 2) (ae (gV 0) az))))))))
 (aE (lK 4 (gV 3) (aG (ao b7 (ao aL (gV 4) (gV 3)) (ao aL (gV 2) (gV 3)))))
 (br (aH h_ (ae (gL (dg (ki (gV 4)) (eh (aG (aH (gq ou) (ae (gV 1) (ae (gV 0) az))))))) az))))))
def EN:List D->R D:=cn 3 5 Mf
def Mg:G->R Fl :=
 (br (aH h_ (ae (gL (dg (ki (gV 2)) (eh (aG (aH (gq EN) (ae (gV 1) (ae (gV 2) (ae (gV 0) az)))))))) az)))
def yh:List D->R D:=cn 3 3 Mg
def Mh:G->R Fl :=
 (br (aH h_ (ae (gL (dg (fW (gV 0)) (eh (aG (Ek (gT (ao eV (gV 0) (gV 2))) (gC (.int 1)) (gC (.int 0))))))) az)))
def Bs:List D->R D:=cn 2 2 Mh
def Mi:G->R Fl :=
 (br (aH h_ (ae (gL (dg (fW (gV 0)) (eh (aG (aH (gq Bs) (ae (ao b7 (gV 1) (gC (.int 1))) (ae (gV 0) az))))))) az)))
def yi:List D->R D:=cn 1 1 Mi
def Mj:G->R Fl :=
 (aE (c5 3 (pv (aH yi (ae (gV 0) az))))
 (aE (lK 3 (gV 1) (aG (aH h_ (ae (gV 2) az))))
 (br (aH h_ (ae (gV 3) az)))))
def EO:List D->R D:=cn 3 4 Mj
def ER:G->R Fl :=
 (aE (aX 2 (aG (aH ou (ae (gV 0) (ae (gV 1) az)))))
 (aE (cy (gT (ao eV (gV 2) (gC (.int 0)))) (Bm .A5) cQ)
 (aE (aX 3 (aG (gC (.int 1))))
 (aE (dh (gT (ao iG (gV 2) (gC (.int 1)))) (aE (aX 3 (aG (aH ou (ae (gV 0) (ae (ao cX (xS (gV 3)) (ao hJ (gV 0) (gV 2))) az)))))
 (aX 2 (aG (ao df (gV 0) (gV 2))))) 100000)
 (br (gV 3))))))
def tx:List D->R D:=cn 2 4 ER
end
def wkL (e : String) : Lean.MacroM (Lean.TSyntax `tactic) := do let l <- (("L3.fin L3.Bn L3.cn L3.ju L3.gV L3.dt L3.gC L3.az L3.mJ L3.cQ L3.aE L3.aX L3.c5 L3.aG L3.aH L3.jt L3.ae L3.br L3.rf L3.mM L3.ao L3.gL L3.dg L3.fW L3.Bj L3.EB L3.eh L3.pA L3.gT L3.xR L3.qW L3.pk L3.Ei L3.Ej L3.xS L3.LH L3.Ek L3.cy L3.cq L3.gO L3.lJ L3.ki L3.xX L3.fP L3.gP L3.lK L3.sZ L3.Be L3.Bm L3.lI L3.lG L3.lH L3.LP L3.xV L3.Bd L3.xW L3.Ez L3.pv L3.LU L3.D.ty L3.Bf L3.Bg L3.vj L3.Bh L3.vn L3.VM L3.Vq L3.Vr L3.Vs L3.Vt L3.Vu L3.gr L3.jS L3.h_ L3.b7 L3.kg L3.cX L3.hJ L3.df L3.qY L3.xT L3.A7 L3.eV L3.iG L3.aL L3.Bc L3.gq L3.Vv R.eQ R.Vm R.Vl L3.eU L3.Vn L3.VN Bool.not_true Bool.not_false if_true if_false Bool.false_eq_true beq_self_eq_true ite_true ite_false Int.reduceToNat L3.oo L3.VT L3.VU L3.VV L3.VW L3.VX L3.xP L3.LF L3.Vh L3.Vi L3.Vg L3.A8 L3.Vw and_true true_and and_self List.map_cons List.map_nil List.length_cons List.length_nil List.length_map List.length_range List.length_set List.length_append List.length_replicate List.cons_append List.nil_append List.append_assoc List.replicate List.set_cons_zero List.set_cons_succ List.getElem?_cons_zero List.getElem?_cons_succ L3.sX L3.Ey L3.LR L3.VG L3.Vx L3.Vy Nat.reduceAdd Nat.reduceSub Nat.reduceMul Int.reduceAdd Int.reduceSub Int.reduceMul Int.reduceNeg Int.toNat_natCast L3.VI L3.Bk L3.VC L3.VD L3.VE L3.VF Option.map_some Int.add_zero Nat.reduceEqDiff Nat.reduceLeDiff Nat.zero_add Nat.add_zero Nat.sub_zero Nat.sub_self" ++ e).splitOn " ").toArray.mapM λn => `(Lean.Parser.Tactic.simpLemma| $(Lean.mkIdent n.toName):term); `(tactic| try simp (disch := first | decide | omega | exact xP _ | exact LF _ | exact xQ _ | exact lD _ | exact xU _ _ | exact El (by omega) | exact ⟨El (by omega), El (by omega)⟩ | exact A6 (by first | assumption | exact qX (by omega)) | exact LI (by first | assumption | exact qX (by omega)) | assumption) only [$l,*])
local macro_rules | `(tactic| walk_at "ev") => wkL ""
def di(ns:List Int)(k:Int):Int:=(ns[k.toNat]?).getD 0
theorem ES{ns:List Int}{k:Int}(h0:0<=k)(h:k<(ns.length:Int)):bX (ns.map D.int) k=some (.int (di ns k)):=by
 rw[fN h0,cm]
 unfold di
 rw[cf (by lia)];rfl
theorem V4{ns:List Int}{k:Int}(h0:0<=k)(h:¬k<(ns.length:Int)):di ns k=0:=by
 unfold di
 rw[fK (by lia)];rfl
theorem z9d{ns:List Int}{k:Int}(h0:0<=k):lO [.lst (ns.map D.int),.int k] = .ok (.int (di ns k)):=by
 unfold lO L9
 by_cases h:k<(ns.length:Int)
 ·have e1:=ES h0 h
  have e2:decide (k<(ns.length:Int))=true:=decide_eq_true h
  walk_at "ev"
  simp only[e1,e2]
  walk_at "ev"
 ·have e2:decide (k<(ns.length:Int))=false:=decide_eq_false h
  have e3:=V4 h0 h
  walk_at "ev"
  simp only[e2,e3]
  walk_at "ev"
def z4p:D->Bool
 | .int _=>true
 | _=>false
theorem V5{d:D}(h:d.kh=true):vB [d] = .ok (.bl (z4p d)):=by
 unfold vB Ma
 cases d<;>first | rfl | (simp[D.kh] at h)
theorem z5g(i:Int):vB [.int i] = .ok (.bl true):=V5 rfl
def kq(P:Int):Nat->Int->List Int
 | 0,_=>[]
 | n+1,c=>c%P::kq P n (c/P)
theorem ET(P:Int):∀(n:Nat) (c:Int),(kq P n c).length=n
 | 0,_=>rfl
 | n+1,c=>by rw[kq,de,ET P n]
def bJ(P:Int)(ns:List Int):Prop:=∀n∈ns,0<=n/\n<P
theorem EU{P:Int}(hp:0<P):∀(n:Nat) (c:Int),bJ P (kq P n c)
 | 0,_=>λx hx=>by simp[kq] at hx
 | n+1,c=>λx hx=>by
   rw[kq] at hx
   rcases List.mem_cons.mp hx with e | e
   ·subst e;exact⟨kn hp,ko hp⟩
   ·exact EU hp n _ x e
def pD(P:Int):Nat->Int->Int
 | 0,c=>c
 | n+1,c=>pD P n c/P
def rj(P:Int)(n:Nat)(c:Int):List Int:=(bK n).map λi=>pD P i c%P
theorem V6(P:Int)(n:Nat)(c:Int):rj P (n+1) c=rj P n c++[pD P n c%P]:=by
 unfold rj;rw[uK,lx];rfl
theorem Ml(P:Int):∀(n:Nat) (c:Int),pD P (n+1) c=pD P n (c/P)
 | 0,c=>rfl
 | n+1,c=>by rw[pD,Ml P n c];rfl
theorem Mm(P:Int):∀(n:Nat) (c:Int),rj P n c=kq P n c
 | 0,c=>rfl
 | n+1,c=>by
   rw[kq,<-Mm P n (c/P)]
   unfold rj
   rw[JT,cJ,ka]
   congr 1
   apply uL
   intro i _
   show pD P (i+1) c%P=_
   rw[Ml]
theorem z5h{c P n:Int}(h1:0<P)(h2:P<1000000)(h3:0<=n)(h4:n<=20):vA [.int c,.int P,.int n] = .ok (.tup ((kq P n.toNat c).map D.int)):=by
 unfold vA L_
 walk_at "ev"
 rw[VR (λj=>[.ro (.int (pD P j c)),.ro (.int P),.ro (.int n),.own ((rj P j c).map D.int),(match j with | 0=>.no | k+1=>.ro (.int (0+(k:Int))))])]
 ·walk_at "ev"
  rw[Mm]
 ·rfl
 ·intro j hj
  have hl:(rj P j c).length<=100000:=by unfold rj;simp;lia
  walk_at "ev"
  rw[V6]
  simp[pD]
def fx(n:Int):Bool:=((bK 98).filterMap λ(i:Nat)=>if 2+(i:Int)<n then some (n%(2+(i:Int))==0) else none).any λb=>b
theorem EV(n:Int):fx n=true↔∃b:Int,2<=b/\b<100/\b<n/\n%b=0:=by
 unfold fx
 simp only[a5j,a5k,JU]
 constructor
 ·rintro⟨x,⟨i,hi,e⟩,hx⟩
  by_cases q:2+(i:Int)<n
  ·rw[if_pos q] at e;cases e
   exact⟨2+i,by lia,by lia,q,by simpa using hx⟩
  ·rw[if_neg q] at e;cases e
 ·rintro⟨b,h1,h2,h3,h4⟩
  refine⟨true,⟨(b-2).toNat,by lia,?_⟩,rfl⟩
  have e:(2+(((b-2).toNat:Nat):Int))=b:=by lia
  rw[e,if_pos h3,h4];rfl
def cB(f s:List Int):Int:=aJ (λi=>(f[i]?).getD 0*(s[i]?).getD 0) s.length+(f[s.length]?).getD 0
theorem s_on{P n:Int}(h:0<P):ou [.int P,.int n] = .ok (.int (n%P)):=by
 unfold ou Mb
 walk_at "ev"
theorem rk{l:List Int}{i:Nat}(h:i<l.length):bX (l.map D.int) (i:Int)=some (.int ((l[i]?).getD 0)):=by
 rw[mK,cm,cf h];rfl
def fits(l:List Int):Prop:=∀n∈l,lE n
theorem EW{l:List Int}(h:fits l)(i:Nat):lE ((l[i]?).getD 0):=by
 by_cases q:i<l.length
 ·rw[cf q];exact h _ (mw q)
 ·rw[fK (by lia)];exact⟨by decide,by decide⟩
theorem bJ.fits{P:Int}{l:List Int}(h:bJ P l)(hp:P<18446744073709551616):fits l:=λn hn=>by
 have:=h n hn
 exact⟨by lia,by lia⟩
theorem yj{P:Int}{fs ss:List Int}(hp:0<P)(hf:fits fs)(hl:fs.length=ss.length+1)(hn:ss.length<=1000):yg [.int P,.tup (fs.map D.int),.tup (ss.map D.int)] = .ok (.int (cB fs ss%P)):=by
 unfold yg Mc
 walk_at "ev"
 rw[xZ (h:=λi=>D.int ((fs[i]?).getD 0*(ss[i]?).getD 0))]
 ·have e1:((bK ss.length).map λi=>D.int ((fs[i]?).getD 0*(ss[i]?).getD 0))=((bK ss.length).map λi=>(fs[i]?).getD 0*(ss[i]?).getD 0).map D.int:=by rw[ka];rfl
  rw[e1]
  have e2:=rk (l:=fs) (i:=ss.length) (by lia)
  walk_at "ev"
  simp only[e2]
  walk_at "ev"
  rw[s_on hp,EK]
  rfl
 ·intro i hi
  have e1:=rk (l:=fs) (i:=i) (by lia)
  have e2:=rk (l:=ss) (i:=i) (by lia)
  have e3:=EW hf i
  walk_at "ev"
  simp only[mr,e1,e2]
  walk_at "ev"
def aq(r:List Int):D:=.tup (r.map D.int)
theorem jv(r:List Int):aq r = .tup (r.map D.int):=rfl
theorem z0n(r:List Int):(aq r).cH=true:=xQ r
theorem yk(t:List (List Int)):D.bI (t.map aq)=true:=vh λr _=>xQ r
theorem mR(t:List (List Int)):D.cH (.tup (t.map aq))=true:=by rw[LG];exact yk t
theorem z5s(n:Nat)(r:List Int):D.lay (n+1) (aq r)=true:=xU n r
theorem V7(n:Nat)(t:List (List Int)):D.lay (n+2) (.tup (t.map aq))=true:=by
 rw[A_,C8,qD];intro x _;exact xU n x
theorem Mn(r:List Int):D.pl (aq r)=true:=LL r
theorem Mo(t:List (List Int)):D.pl (.tup (t.map aq))=true:=by
 rw[Ba,C8,qD];intro x _;exact LL x
theorem Mp:∀{a b:List Int},a.map D.int=b.map D.int->a=b
 | [],[],_=>rfl
 | [],_::_,h=>by simp at h
 | _::_,[],h=>by simp at h
 | x::a,y::b,h=>by simp at h;rw[h.1,Mp h.2]
theorem ym{a b:List Int}(h:aq a=aq b):a=b:=Mp (by unfold aq at h;simpa using h)
theorem Mq:∀{a b:List (List Int)},a.map aq=b.map aq->a=b
 | [],[],_=>rfl
 | [],_::_,h=>by simp at h
 | _::_,[],h=>by simp at h
 | x::a,y::b,h=>by simp only[cJ,List.cons.injEq] at h;rw[ym h.1,Mq h.2]
theorem z4s(a b:List Int):bF (aq a) (aq b)=decide (a=b):=LO (Mn a) (Mn b) ⟨ym,λh=>by rw[h]⟩
theorem z6b(a b:List Int):bF (.tup (a.map D.int)) (.tup (b.map D.int))=decide (a=b):=z4s a b
theorem V8(a b:List (List Int)):bF (.tup (a.map aq)) (.tup (b.map aq))=decide (a=b):=LO (Mo a) (Mo b) ⟨λh=>Mq (by simpa using h),λh=>by rw[h]⟩
theorem atT{t:List (List Int)}{i:Nat}(h:i<t.length):bX (t.map aq) (i:Int)=some (aq ((t[i]?).getD [])):=by
 rw[mK,cm,cf h];rfl
def vC(P:Int)(n:Nat)(r:List Int):Prop:=bJ P r/\r.length=n+1
def b8(P:Int)(n:Nat)(t:List (List Int)):Prop:=t.length=n/\∀r∈t,vC P n r
def bT(P:Int)(t:List (List Int))(s:List Int):List Int:=t.map λr=>cB r s%P
theorem rm(P:Int)(t:List (List Int))(s:List Int):(bT P t s).length=t.length:=by unfold bT;simp
theorem EX{P:Int}(hp:0<P)(t:List (List Int))(s:List Int):bJ P (bT P t s):=λn hn=>by
 unfold bT at hn
 obtain⟨r,_,rfl⟩:=List.mem_map.mp hn
 exact⟨kn hp,ko hp⟩
theorem pE{P:Int}{ts:List (List Int)}{ss:List Int}(hp:0<P)(jw:P<18446744073709551616)(ht:b8 P ss.length ts)(hn:ss.length<=1000):ox [.int P,.tup (ts.map aq),.tup (ss.map D.int)] = .ok (.tup ((bT P ts ss).map D.int)):=by
 unfold ox Md
 have a_:ts.length<=100000:=by rw[ht.1];lia
 have V9:=yk ts
 walk_at "ev"
 rw[mL (h:=λr=>D.int (cB r ss%P))]
 ·walk_at "ev"
  unfold bT
  rw[ka];rfl
 ·intro r hr
  have q:=ht.2 r hr
  have e1:yg [D.int P,aq r,D.tup (ss.map D.int)]=R.ok (D.int (cB r ss%P)):=yj hp (q.1.fits jw) q.2 hn
  rw[e1]
  walk_at "ev"
def V_(c:List D->R D):Prop:=∀ns:List Int,ns.length<=63->c [.lst (ns.map D.int)] = .ok (.bl true)
theorem yn{α:Type}{l:List α}{i:Nat}{d:α}(h:i<l.length):(l[i]?).getD d=l[i]:=by rw[cf h];rfl
def jV(P:Int)(t:List (List Int))(f:List Int):List Int:=(bK (t.length+1)).map λplace =>
 (aJ (λx=>(f[x]?).getD 0*(((t[x]?).getD [])[place]?).getD 0) t.length+(if place=t.length then (f[t.length]?).getD 0 else 0))%P
def dM(P:Int)(a b:List (List Int)):List (List Int):=b.map (jV P a)
theorem Wa(P:Int)(t:List (List Int))(f:List Int):(jV P t f).length=t.length+1:=by unfold jV;simp
theorem Wc{P:Int}(hp:0<P)(t:List (List Int))(f:List Int):bJ P (jV P t f):=λn hn=>by
 unfold jV at hn
 obtain⟨r,_,rfl⟩:=List.mem_map.mp hn
 exact⟨kn hp,ko hp⟩
theorem rn{P:Int}(hp:0<P){n:Nat}{a b:List (List Int)}(ha:a.length=n)(hb:b.length=n):b8 P n (dM P a b):=by
 unfold dM
 refine⟨by rw[bu,hb],λr hr=>?_⟩
 obtain⟨f,_,rfl⟩:=List.mem_map.mp hr
 exact⟨Wc hp _ _,by rw[Wa,ha]⟩
theorem Ms{P:Int}{t:List (List Int)}{f:List Int}{k:Nat}(h:k<=t.length):((jV P t f)[k]?).getD 0=(aJ (λx=>(f[x]?).getD 0*(((t[x]?).getD [])[k]?).getD 0) t.length+(if k=t.length then (f[t.length]?).getD 0 else 0))%P:=by
 unfold jV
 rw[cm,oW (by lia)];rfl
theorem Wd{P:Int}{t:List (List Int)}{f s:List Int}(hs:s.length=t.length):cg P (cB (jV P t f) s) (cB f (bT P t s)):=by
 unfold cB
 rw[rm,hs]
 have h1:cg P (aJ (λi=>((jV P t f)[i]?).getD 0*(s[i]?).getD 0) t.length+((jV P t f)[t.length]?).getD 0)
  (aJ (λi=>aJ (λx=>(f[x]?).getD 0*(((t[x]?).getD [])[i]?).getD 0) t.length*(s[i]?).getD 0) t.length+(aJ (λx=>(f[x]?).getD 0*(((t[x]?).getD [])[t.length]?).getD 0) t.length+(f[t.length]?).getD 0)):=by
  refine cg.add (cg.aJ λi hi=>cg.mul ?_ cg.refl) ?_
  ·rw[Ms (by lia),if_neg (by lia),R4];exact kP
  ·rw[Ms (a7 _),if_pos rfl];exact kP
 have h2:cg P (aJ (λi=>(f[i]?).getD 0*((bT P t s)[i]?).getD 0) t.length+(f[t.length]?).getD 0)
  (aJ (λx=>(f[x]?).getD 0*(aJ (λi=>(((t[x]?).getD [])[i]?).getD 0*(s[i]?).getD 0) t.length+(((t[x]?).getD [])[t.length]?).getD 0)) t.length+(f[t.length]?).getD 0):=by
  refine cg.add (cg.aJ λx hx=>cg.mul cg.refl ?_) cg.refl
  unfold bT
  rw[cm,cf hx]
  show cg P (cB t[x] s%P) _
  refine kP.trans (cg.of_eq ?_)
  unfold cB
  rw[hs];rfl
 refine h1.trans (cg.trans (cg.of_eq ?_) h2.symm)
 have e1:aJ (λi=>aJ (λx=>(f[x]?).getD 0*(((t[x]?).getD [])[i]?).getD 0) t.length*(s[i]?).getD 0) t.length=aJ (λx=>(f[x]?).getD 0*aJ (λi=>(((t[x]?).getD [])[i]?).getD 0*(s[i]?).getD 0) t.length) t.length:=by
  rw[eW (g:=λi=>aJ (λx=>(f[x]?).getD 0*((((t[x]?).getD [])[i]?).getD 0*(s[i]?).getD 0)) t.length) λi _=>by
   rw[<-V3];exact eW λx _=>e_ _ _ _]
  rw[L7]
  exact eW λx _=>tq _ _ _
 rw[e1,eW (f:=λx=>(f[x]?).getD 0*(aJ (λi=>(((t[x]?).getD [])[i]?).getD 0*(s[i]?).getD 0) t.length+(((t[x]?).getD [])[t.length]?).getD 0)) (g:=λx=>(f[x]?).getD 0*aJ (λi=>(((t[x]?).getD [])[i]?).getD 0*(s[i]?).getD 0) t.length+(f[x]?).getD 0*(((t[x]?).getD [])[t.length]?).getD 0) λx _=>uJ _ _ _,vz]
 lia
def tB(n:Nat):List Int:=dD n 0
def eX(n k:Nat):List Int:=(bK n).map λi=>if i=k then 1 else 0
theorem Mt(n:Nat):(tB n).length=n:=by unfold tB;simp
theorem vD(n k:Nat):(eX n k).length=n:=by unfold eX;simp
theorem We(n i:Nat):((tB n)[i]?).getD 0=0:=by
 unfold tB
 rw[RJ];split<;>rfl
theorem vE{n k i:Nat}(h:i<n):((eX n k)[i]?).getD 0=if i=k then 1 else 0:=by
 unfold eX
 rw[cm,oW h];rfl
theorem Mu(f:List Int)(n:Nat):cB f (tB n)=(f[n]?).getD 0:=by
 unfold cB
 rw[Mt,tw λi _=>by rw[We,kd]];lia
theorem Mv(f:List Int){n k:Nat}(h:k<n):cB f (eX n k)=(f[k]?).getD 0+(f[n]?).getD 0:=by
 unfold cB
 rw[vD,tu h λi hi hk=>by rw[vE hi,if_neg hk,kd]]
 rw[vE h,if_pos rfl,lq]
theorem lP{P:Int}{f:List Int}(hp:0<P)(h:bJ P f)(k:Nat):0<=(f[k]?).getD 0/\(f[k]?).getD 0<P:=by
 by_cases q:k<f.length
 ·rw[yn q];exact h _ (mw q)
 ·rw[fK (by lia)];exact⟨by simp,by simpa using hp⟩
theorem EY{a b:List Int}(hl:a.length=b.length)(h:∀k,k<a.length->(a[k]?).getD 0=(b[k]?).getD 0):a=b:=by
 apply Dc hl
 intro k h1 h2
 have:=h k h1
 rw[yn h1,yn h2] at this
 exact this
theorem Wf{P:Int}{n:Nat}{f g:List Int}(hp:0<P)(hf:vC P n f)(hg:vC P n g)(h0:cg P (cB f (tB n)) (cB g (tB n)))(h1:∀k,k<n->cg P (cB f (eX n k)) (cB g (eX n k))):f=g:=by
 have e0:(f[n]?).getD 0=(g[n]?).getD 0:=by
  rw[Mu,Mu] at h0
  exact h0.EL (lP hp hf.1 n).1 (lP hp hf.1 n).2 (lP hp hg.1 n).1 (lP hp hg.1 n).2
 refine EY (by rw[hf.2,hg.2]) λk hk=>?_
 rw[hf.2] at hk
 by_cases q:k=n
 ·rw[q];exact e0
 ·have b9:k<n:=by lia
  have h2:=h1 k b9
  rw[Mv f b9,Mv g b9,e0] at h2
  have h3:=h2.sub (cg.refl (P:=P) (a:=(g[n]?).getD 0))
  rw[show(f[k]?).getD 0+(g[n]?).getD 0-(g[n]?).getD 0=(f[k]?).getD 0 by lia,show(g[k]?).getD 0+(g[n]?).getD 0-(g[n]?).getD 0=(g[k]?).getD 0 by lia] at h3
  exact h3.EL (lP hp hf.1 k).1 (lP hp hf.1 k).2 (lP hp hg.1 k).1 (lP hp hg.1 k).2
theorem oy{P:Int}{n:Nat}{a b:List (List Int)}{s:List Int}(ha:a.length=n)(hs:s.length=n):bT P (dM P a b) s=bT P b (bT P a s):=by
 unfold dM
 show(b.map (jV P a)).map (λr=>cB r s%P)=b.map λr=>cB r (bT P a s)%P
 rw[ka]
 apply uL
 intro f _
 exact Wd (by rw[hs,ha])
theorem EZ{P:Int}{n:Nat}{a b:List (List Int)}(hp:0<P)(ha:b8 P n a)(hb:b8 P n b)(h:∀s,s.length=n->bT P a s=bT P b s):a=b:=by
 apply Dc (by rw[ha.1,hb.1])
 intro k h1 h2
 have hw:∀s,s.length=n->cg P (cB a[k] s) (cB b[k] s):=λs hs=>by
  have e:=congrArg (λl=>(l[k]?).getD 0) (h s hs)
  unfold bT at e
  simp only[cm,cf h1,cf h2,xh,xj] at e
  exact e
 exact Wf hp (ha.2 _ (mw h1)) (hb.2 _ (mw h2)) (hw _ (Mt n)) λj _=>hw _ (vD n j)
theorem Mw{P:Int}{n:Nat}{a b c:List (List Int)}(hp:0<P)(ha:a.length=n)(hb:b.length=n)(hc:c.length=n):dM P (dM P a b) c=dM P a (dM P b c):=by
 have h1:=(rn hp ha hb).1
 have h2:=(rn hp hb hc).1
 refine EZ hp (rn hp h1 hc) (rn hp ha h2) λs hs=>?_
 rw[oy h1 hs,oy ha hs,oy ha hs,oy hb (by rw[rm,ha])]
def fZ(n:Nat):List (List Int):=(bK n).map λx=>eX (n+1) x
theorem tD(n:Nat):(fZ n).length=n:=by unfold fZ;simp
theorem E0{P:Int}(hp:1<P)(n:Nat):b8 P n (fZ n):=by
 refine⟨tD n,λr hr=>?_⟩
 unfold fZ at hr
 obtain⟨x,_,rfl⟩:=List.mem_map.mp hr
 refine⟨λz hz=>?_,by rw[vD]⟩
 unfold eX at hz
 obtain⟨i,_,rfl⟩:=List.mem_map.mp hz
 split<;>lia
theorem Wg{n x:Nat}{s:List Int}(h:x<n)(hs:s.length=n):cB (eX (n+1) x) s=(s[x]?).getD 0:=by
 unfold cB
 rw[hs,tu h λi hi hk=>by rw[vE (by lia),if_neg hk,mx],vE (by lia),if_pos rfl,vE (by lia),if_neg (by lia)]
 lia
theorem vF{P:Int}{n:Nat}{s:List Int}(hs:s.length=n)(ho:bJ P s):bT P (fZ n) s=s:=by
 refine EY (by rw[rm,tD,hs]) λk hk=>?_
 rw[rm,tD] at hk
 have e:((bT P (fZ n) s)[k]?).getD 0=cB (eX (n+1) k) s%P:=by
  unfold bT fZ
  rw[ka,cm,oW hk];rfl
 rw[e,Wg hk hs]
 have h2:k<s.length:=by lia
 rw[yn h2]
 have:=ho _ (mw h2)
 exact jg this.1 this.2
theorem Wh{P:Int}{f s:List Int}:cg P (cB f (s.map (·%P))) (cB f s):=by
 unfold cB
 rw[bu]
 refine cg.add (cg.aJ λi hi=>cg.mul cg.refl ?_) cg.refl
 rw[cm,cf hi]
 exact kP
theorem Mx{P:Int}{t:List (List Int)}{s:List Int}:bT P t (s.map (·%P))=bT P t s:=by
 unfold bT
 exact uL λr _=>Wh
theorem Wi{P:Int}{n:Nat}{s:List Int}(hp:0<P)(hs:s.length=n):bT P (fZ n) s=s.map (·%P):=by
 rw[<-Mx,vF (by rw[bu,hs])]
 intro z hz
 obtain⟨y,_,rfl⟩:=List.mem_map.mp hz
 exact⟨kn hp,ko hp⟩
theorem Mz{P:Int}{n:Nat}{t:List (List Int)}(hp:1<P)(ht:b8 P n t):dM P (fZ n) t=t:=by
 refine EZ (by lia) (rn (by lia) (tD n) ht.1) ht λs hs=>?_
 rw[oy (tD n) hs,Wi (by lia) hs,Mx]
theorem MA{P:Int}{n:Nat}{t:List (List Int)}(hp:1<P)(ht:b8 P n t):dM P t (fZ n)=t:=by
 refine EZ (by lia) (rn (by lia) ht.1 (tD n)) ht λs hs=>?_
 rw[oy ht.1 hs,vF (by rw[rm,ht.1]) (EX (by lia) _ _)]
local macro_rules | `(tactic| walk_at "evs") => wkL " L3.z9d L3.z5h L3.z5g L3.s_on L3.z4p"
theorem yo{α:Type}(l:List α)(f:α->Int):l.map (λx=>D.int (f x))=(l.map f).map D.int:=by rw[ka];rfl
theorem vG{α:Type}(l:List α)(f:α->List Int):l.map (λx=>aq (f x))=(l.map f).map aq:=by rw[ka];rfl
theorem Wj{P:Int}{n k:Nat}{t:List (List Int)}(ht:b8 P n t)(hk:k<n):vC P n ((t[k]?).getD []):=by
 rw[yn (by rw[ht.1];exact hk)]
 exact ht.2 _ (mw _)
theorem yp{P:Int}{n k:Nat}{f:List Int}{t:List (List Int)}(hf:fits f)(hl:n<=f.length)(ht:b8 P n t)(hn:n<=1000)(hk:k<=n):EM [.tup (f.map D.int),.tup (t.map aq),.int k] = .ok (.int (aJ (λx=>(f[x]?).getD 0*(((t[x]?).getD [])[k]?).getD 0) n)):=by
 refine c8 rfl ?_
 delta Me
 refine cR ?_
 have Bt:=ht.1
 walk_at "evs"
 rw[xZ (h:=λx=>D.int ((f[x]?).getD 0*(((t[x]?).getD [])[k]?).getD 0)),yo]
 ·walk_at "evs"
  rw[EK,Bt]
 ·intro x hx
  have hr:=Wj ht (k:=x) (by lia)
  have e1:=rk (l:=f) (i:=x) (by lia)
  have e2:=atT (t:=t) (i:=x) (by lia)
  have e3:=rk (l:=(t[x]?).getD []) (i:=k) (by rw[hr.2];lia)
  have e4:=EW hf x
  walk_at "evs"
  simp only[mr,e1,e2]
  walk_at "evs"
  simp only[jv,e3]
  walk_at "evs"
theorem yq{P:Int}{n:Nat}{f:List Int}{t:List (List Int)}(hp:0<P)(jw:P<1000000)(hf:vC P n f)(ht:b8 P n t)(hn:n<=100):EN [.int P,.tup (t.map aq),.tup (f.map D.int)] = .ok (aq (jV P t f)):=by
 have Bt:=ht.1
 refine c8 rfl ?_
 delta Mf
 refine cE (d:=.int n) (by walk_at "evs";rw[Bt]) ?_
 refine fw (ds:=((bK (n+1)).map λk=>aJ (λx=>(f[x]?).getD 0*(((t[x]?).getD [])[k]?).getD 0) n).map D.int) ?_ ?_
 ·walk_at "evs"
  rw[show((n:Int)+1).toNat=n+1 by lia,xZ (h:=λk=>D.int (aJ (λx=>(f[x]?).getD 0*(((t[x]?).getD [])[k]?).getD 0) n)),yo]
  intro k hk
  have e:=yp (f:=f) (k:=k) (hf.1.fits (by lia)) (by rw[hf.2];lia) ht (by lia) (by lia)
  walk_at "evs"
  simp only[mr,e]
  walk_at "evs"
 have e1:=rk (l:=f) (i:=n) (by rw[hf.2];lia)
 have e2:=rk (l:=(bK (n+1)).map λk=>aJ (λx=>(f[x]?).getD 0*(((t[x]?).getD [])[k]?).getD 0) n) (i:=n) (by simp)
 have e3:((((bK (n+1)).map λk=>aJ (λx=>(f[x]?).getD 0*(((t[x]?).getD [])[k]?).getD 0) n)[n]?).getD 0)=aJ (λx=>(f[x]?).getD 0*(((t[x]?).getD [])[n]?).getD 0) n:=by
  rw[cm,oW (by lia)];rfl
 rw[e3] at e2
 generalize hL:((bK (n+1)).map λk=>aJ (λx=>(f[x]?).getD 0*(((t[x]?).getD [])[k]?).getD 0) n)=L at *
 have Wk:L.length=n+1:=by rw[<-hL];simp
 refine dU (yd (ds:=L.map D.int) (j:=n) (n:=n) (d:=.int (aJ (λx=>(f[x]?).getD 0*(((t[x]?).getD [])[n]?).getD 0) n+(f[n]?).getD 0)) ?_ ?_ ?_ ?_) ?_
 ·rfl
 ·walk_at "evs"
  simp only[e1,e2]
  walk_at "evs"
 ·walk_at "evs"
 ·rw[bu,Wk]
  unfold hG
  rw[if_pos (by lia),if_pos (by lia)];simp
 refine cR ?_
 have e4:(L.map D.int).set n (.int (aJ (λx=>(f[x]?).getD 0*(((t[x]?).getD [])[n]?).getD 0) n+(f[n]?).getD 0))=((bK (n+1)).map λk=>D.int (aJ (λx=>(f[x]?).getD 0*(((t[x]?).getD [])[k]?).getD 0) n+(if k=n then (f[n]?).getD 0 else 0))):=by
  rw[<-hL]
  apply Dc (by simp)
  intro k h1 h2
  rw[List.getElem_set]
  by_cases q:n=k
  ·subst q;simp
  ·rw[if_neg q];simp[gJ q]
 walk_at "evs"
 rw[e4]
 have e5:D.bI ((bK (n+1)).map λk=>D.int (aJ (λx=>(f[x]?).getD 0*(((t[x]?).getD [])[k]?).getD 0) n+(if k=n then (f[n]?).getD 0 else 0)))=true:=vh λ_ _=>xP _
 rw[eU e5]
 walk_at "evs"
 rw[mL (h:=λk=>D.int ((aJ (λx=>(f[x]?).getD 0*(((t[x]?).getD [])[k]?).getD 0) n+(if k=n then (f[n]?).getD 0 else 0))%P))]
 ·walk_at "evs"
  unfold jV
  rw[Bt]
  unfold aq
  rw[ka];rfl
 ·intro k hk
  walk_at "evs"
theorem tE{P:Int}{n:Nat}{a b:List (List Int)}(hp:0<P)(jw:P<1000000)(ha:b8 P n a)(hb:b8 P n b)(hn:n<=100):yh [.int P,.tup (a.map aq),.tup (b.map aq)] = .ok (.tup ((dM P a b).map aq)):=by
 refine c8 rfl ?_
 delta Mg
 refine cR ?_
 have h1:=yk b
 have h2:b.length<=100000:=by rw[hb.1];lia
 walk_at "evs"
 rw[mL (h:=λf=>aq (jV P a f))]
 ·walk_at "evs"
  unfold dM
  rw[ka];rfl
 ·intro f hf
  have e:=yq hp jw (hb.2 f hf) ha hn
  have e2:=z0n (jV P a f)
  walk_at "evs"
  simp only[jv f,e]
  walk_at "evs"
theorem vH{n x:Nat}(hn:n<=1000):Bs [.int n,.int x] = .ok (aq (eX n x)):=by
 refine c8 rfl ?_
 delta Mh
 refine cR ?_
 walk_at "evs"
 rw[xZ (h:=λi=>D.int (if i=x then 1 else 0)),yo]
 ·walk_at "evs";rfl
 ·intro i hi
  walk_at "evs"
  by_cases q:i=x
  ·subst q
   have e:((0:Int)+(i:Int)==(i:Int))=true:=by simp
   simp only[e]
   walk_at "evs"
  ·have e:((0:Int)+(i:Int)==(x:Int))=false:=by simp;lia
   simp only[e,if_neg q]
   walk_at "evs"
theorem tF{n:Nat}(hn:n<=100):yi [.int n] = .ok (.tup ((fZ n).map aq)):=by
 refine c8 rfl ?_
 delta Mi
 refine cR ?_
 walk_at "evs"
 rw[xZ (h:=λx=>aq (eX (n+1) x)),vG]
 ·walk_at "evs";rfl
 ·intro x hx
  have e:=vH (n:=n+1) (x:=x) (by lia)
  rw[show(((n+1:Nat):Int))=(n:Int)+1 by lia] at e
  have e2:=z0n (eX (n+1) x)
  walk_at "evs"
  simp only[mr,e]
  walk_at "evs"
def aU(t:List (List Int)):D:=.tup (t.map aq)
theorem z5j(t:List (List Int)):(aU t).cH=true:=mR t
theorem vI(l:List (List (List Int))):D.bI (l.map aU)=true:=vh λt _=>mR t
theorem z5x(n:Nat)(t:List (List Int)):D.lay (n+2) (aU t)=true:=V7 n t
theorem z6a(a b:List (List Int)):bF (aU a) (aU b)=decide (a=b):=V8 a b
theorem Wl(lo st:Int)(n:Nat):(kO lo st n).length=n:=by unfold kO;simp
theorem Wm{lo st:Int}{n j:Nat}{d:D}(h:(kO lo st n)[j]? = some d):j<n/\d = .int (lo+st*(j:Int)):=by
 have hj:j<n:=by
  have:=(List.getElem?_eq_some_iff.mp h).1
  rw[Wl] at this;exact this
 refine⟨hj,?_⟩
 unfold kO at h
 rw[cm,oW hj] at h
 cases h;rfl
theorem yr{lo:Int}{n j:Nat}{d:D}(h:(fq lo n)[j]? = some d):j<n/\d = .int (lo+(j:Int)):=by
 have hj:j<n:=by
  have:=(List.getElem?_eq_some_iff.mp h).1
  rw[oo] at this;exact this
 rw[EA lo _ _ hj] at h
 cases h;exact⟨hj,rfl⟩
end L3
namespace L3
open PySem
local macro_rules | `(tactic| walk_at "evs") => wkL " L3.z9d L3.z5h L3.z5g L3.s_on L3.z4p L3.z5j L3.z5x L3.z6a L3.z5s L3.z4s L3.z6b L3.z0n"
theorem yt{n x:Nat}{f:List Int}(hn:n<=100)(hx:x<n):EO [.int n,.int x,aq f] = .ok (aU ((fZ n).set x f)):=by
 refine c8 rfl ?_
 delta Mj
 have e:=tF hn
 have V9:=yk (fZ n)
 refine fw (ds:=(fZ n).map aq) (by walk_at "evs";simp only[e];walk_at "evs") ?_
 refine dU (yd (ds:=(fZ n).map aq) (j:=x) (n:=x) (d:=aq f) rfl (by simp only[jv];walk_at "evs") (by walk_at "evs") ?_) ?_
 ·rw[bu,tD]
  unfold hG
  rw[if_pos (by lia),if_pos (by lia)];simp
 refine cR ?_
 walk_at "evs"
 unfold aU
 rw[De]
noncomputable section
end
noncomputable section
def MB:G->R Fl :=
 (aE (c5 3 (gO az))
 (aE (aX 4 (aG (gV 1)))
 (aE (fP 5 (fW (y9t (gV 2)))
 (aE (gP 3 (aG (gV 4)))
 (aX 4 (aG (aH yh (ae (gV 0) (ae (gV 4) (ae (gV 4) az))))))))
 (mM 3))))
def Bu:List D->R (List D):=ju 3 6 MB
def Wn:G->R Fl :=
 (rf (y3n (y7z (gV 0)) (vq (gT (ao eV (ao df (ao ED (gV 3) (gV 0)) (gC (.int 2))) (gC (.int 1)))) (aG (gV 1)))))
def Bv:List D->R (List D):=ju 2 2 Wn
def MC:G->R Fl :=
 (aE (aX 3 (aG (aH yi (ae (aH jS (ae (gV 1) az)) az))))
 (aE (fP 4 (lJ (gL (jt Bv (ae (gL (jt Bu (ae (gV 0) (ae (gV 1) (ae (gV 2) az))))) (ae (gV 2) az)))))
 (aX 3 (aG (aH yh (ae (gV 0) (ae (gV 3) (ae (gV 4) az)))))))
 (br (gV 3))))
def vJ:List D->R D:=cn 3 5 MC
def Bw(MD:List D->R D)(ME:List D->R D):G->R Fl :=
 (aE (aX 3 (aG (aH yi (ae (gV 1) az))))
 (aE (fP 4 (lJ (dt 2))
 (aX 3 (aG (aH yh (ae (gV 0) (ae (gV 3) (ae (aH ME (ae (gV 0) (ae (gV 1) (ae (gV 4) az)))) az)))))))
 (br (gV 3))))
def Bx(MD:List D->R D)(ME:List D->R D):G->R Fl :=
 (aE (cy (gT (ao eV (ao aL (gV 2) (gC (.int 0))) (gC (.str "set")))) (br (aH EO (ae (gV 1) (ae (ao aL (gV 2) (gC (.int 1))) (ae (ao aL (gV 2) (gC (.int 2))) az))))) cQ)
 (br (aH vJ (ae (gV 0) (ae (aH MD (ae (gV 0) (ae (gV 1) (ae (ao aL (gV 2) (gC (.int 2))) az)))) (ae (ao aL (gV 2) (gC (.int 1))) az))))))
mutual
def lQ:Nat->List D->R D
 | 0=>λ_=>.no
 | n+1=>cn 3 5 (Bw (lQ n) (pF n))
def pF:Nat->List D->R D
 | 0=>λ_=>.no
 | n+1=>cn 3 3 (Bx (lQ n) (pF n))
end
end
inductive Item where
 | set (x:Int) (f:List Int)
 | again (n:Int) (its:List Item)
mutual
def Item.d:Item->D
 | .set x f=>.tup [.str "set",.int x,aq f]
 | .again n its=>.tup [.str "again",.int n,.tup (Item.ds its)]
def Item.ds:List Item->List D
 | []=>[]
 | a::r=>a.d::Item.ds r
end
theorem Item.ds_map:∀its:List Item,Item.ds its=its.map Item.d
 | []=>rfl
 | a::r=>by rw[Item.ds,Item.ds_map r];rfl
mutual
def Item.deep:Item->Nat
 | .set _ _=>0
 | .again _ its=>1+Item.kQ its
def Item.kQ:List Item->Nat
 | []=>0
 | a::r=>max a.deep (Item.kQ r)
end
mutual
def Item.many:Item->Nat
 | .set _ _=>1
 | .again _ its=>1+Item.MF its
def Item.MF:List Item->Nat
 | []=>0
 | a::r=>a.many+Item.MF r
end
mutual
def Item.ok(P many:Int):Item->Prop
 | .set x f=>0<=x/\x<many/\(f.length:Int)=many+1/\bJ P f
 | .again n its=>0<=n/\n<=10^30/\Item.eB P many its
def Item.eB(P many:Int):List Item->Prop
 | []=>True
 | a::r=>a.ok P many/\Item.eB P many r
end
theorem Item.yu{P many:Int}:∀{its:List Item},Item.eB P many its↔∀a∈its,a.ok P many
 | []=>by simp[Item.eB]
 | a::r=>by simp[Item.eB,Item.yu (its:=r)]
theorem Item.E2{k:Nat}:∀{its:List Item},Item.kQ its<=k↔∀a∈its,a.deep<=k
 | []=>by simp[Item.kQ]
 | a::r=>by
   have:=Item.E2 (k:=k) (its:=r)
   simp only[Item.kQ,fF,forall_eq_or_imp,<-this]
   lia
mutual
theorem Item.cH:∀a:Item,a.d.cH=true
 | .set x f=>by
   have:=z0n f
   simp[Item.d,D.cH,D.bI,this]
 | .again n its=>by
   have:=Item.bI its
   simp[Item.d,D.cH,D.bI,this]
theorem Item.bI:∀its:List Item,D.bI (Item.ds its)=true
 | []=>rfl
 | a::r=>by
   have h1:=Item.cH a
   have h2:=Item.bI r
   simp[Item.ds,D.bI,h1,h2]
end
theorem Item.vK(its:List Item):D.bI (its.map Item.d)=true:=by rw[<-Item.ds_map];exact Item.bI its
theorem Wo{f:List Int}{x:Nat}{v P:Int}(hx:x<f.length)(hf:bJ P f)(h0:0<=v)(hv:v<P):∃g:List Int,f.take x++[v]++f.drop (x+1)=g/\g.length=f.length/\bJ P g/\g[x]? = some v:=by
 refine⟨_,rfl,?_,λn hn=>?_,?_⟩
 ·simp only[fD,mj,wX,de,uM];lia
 ·simp only[JV,nN] at hn
  rcases hn with (h | h) | h
  ·exact hf n (Df h)
  ·rw[h];exact⟨h0,hv⟩
  ·exact hf n (a5l h)
 ·rw[uG,su (by rw[mj];lia),mj,R1 (by lia),Dg];rfl
theorem Wq{gb:G->R Fl}{i:Nat}{ds:List D}{Γ:G}(I:Nat->G->Prop)(h0:I 0 Γ)(hq:∀(j:Nat) (d:D) (Γ:G),ds[j]? = some d->I j Γ->Ends (gb (Γ.set i (.ro d))) (I (j+1))):∃Γ',dG gb i ds Γ = .ok (.nx Γ')/\I ds.length Γ':=by
 obtain⟨Γ',e,h'⟩:=vo I ds 0 Γ h0 λj d Γ hd hI=>by rw[fE] at hI ⊢;exact hq j d Γ hd hI
 rw[fE] at h'
 exact⟨Γ',e,h'⟩
theorem MG{gs:G->R (List D)}{gb u:G->R Fl}{i:Nat}{ds:List D}{Γ:G}(T:R Fl->Prop)(I:Nat->G->Prop)(hi:gs Γ = .ok ds)(h0:I 0 Γ)(hq:∀(j:Nat) (d:D) (Γ:G),ds[j]? = some d->I j Γ->Ends (gb (Γ.set i (.ro d))) (I (j+1)))(h:∀Γ',I ds.length Γ'->T (u Γ')):T (aE (fP i gs gb) u Γ):=by
 obtain⟨Γ',e,h'⟩:=Wq I h0 hq
 rw[ye hi e rfl];exact h Γ' h'
theorem x4b:((cU "set")==(cU "again"))=false:=by decide +kernel
theorem x4c:((cU "again")==(cU "set"))=false:=by decide +kernel
theorem y9r(n:Nat):D.lay n (.str (cU "set"))=true:=by rw[A9];decide +kernel
theorem y3i(n:Nat):D.lay n (.str (cU "again"))=true:=by rw[A9];decide +kernel
def bw(P:Int)(n:Nat)(t:List (List Int)):Nat->List (List Int)
 | 0=>fZ n
 | k+1=>dM P (bw P n t k) t
section
variable {P:Int}{n:Nat}{t:List (List Int)}
theorem iH(hp:1<P)(ht:b8 P n t):∀k,b8 P n (bw P n t k)
 | 0=>E0 hp n
 | k+1=>rn (by lia) (iH hp ht k).1 ht.1
theorem Wr(hp:1<P)(ht:b8 P n t):bw P n t 1=t:=Mz hp ht
theorem yv(hp:1<P)(ht:b8 P n t)(a:Nat):∀b,bw P n t (a+b)=dM P (bw P n t a) (bw P n t b)
 | 0=>(MA hp (iH hp ht a)).symm
 | b+1=>by
   show dM P (bw P n t (a+b)) t=dM P (bw P n t a) (dM P (bw P n t b) t)
   rw[yv hp ht a b,Mw (by lia) (iH hp ht a).1 (iH hp ht b).1 ht.1]
theorem MH(hp:1<P)(ht:b8 P n t)(a:Nat):∀b,bw P n (bw P n t a) b=bw P n t (a*b)
 | 0=>rfl
 | b+1=>by
   show dM P (bw P n (bw P n t a) b) (bw P n t a)=bw P n t (a*b+a)
   rw[MH hp ht a b,yv hp ht]
theorem Ws(hp:1<P)(ht:b8 P n t)(k:Nat):dM P (bw P n t k) (bw P n t k)=bw P n t (2*k):=by
 rw[<-yv hp ht,Nat.two_mul]
theorem Wt{s:List Int}(hp:1<P)(ht:b8 P n t)(hs:s.length=n)(a b:Nat):bT P (bw P n t (a+b)) s=bT P (bw P n t b) (bT P (bw P n t a) s):=by
 rw[yv hp ht,oy (iH hp ht a).1 hs]
end
end L3
namespace L3
open PySem
local macro_rules | `(tactic| walk_at "evs") => wkL " L3.z9d L3.z5h L3.z5g L3.s_on L3.z4p L3.z5j L3.z5x L3.z6a L3.z5s L3.z4s L3.z6b L3.z0n L3.dInt L3.y9x L3.y9t L3.x3d"
def dW(n:Nat):Nat:=if n=0 then 0 else n.log2+1
theorem MI{n j:Nat}:j<dW n↔2^j<=n:=by
 unfold dW
 by_cases h:n=0
 ·rw[if_pos h,h]
  have:0<2^j:=R5 j
  lia
 ·rw[if_neg h,Nat.lt_succ_iff,Nat.le_log2 h]
theorem E4{n k:Nat}(h:n<2^k):dW n<=k:=by
 rcases cG k (dW n) with z | z
 ·have:=MI.mp z
  lia
 ·exact z
def cC(P:Int)(m:Nat)(t:List (List Int))(n:Nat):List (List (List Int)):=(bK n).map λj=>bw P m t (2^j)
theorem Wu(P:Int)(m:Nat)(t:List (List Int))(n:Nat):cC P m t (n+1)=cC P m t n++[bw P m t (2^n)]:=by
 unfold cC;rw[uK,lx];rfl
theorem Wv(n:Nat):ya (n:Int)=dW n:=by
 unfold ya dW
 by_cases h:n=0
 ·subst h;rfl
 ·rw[if_neg h,a5m,if_neg]
  intro z
  have:(n:Int)=0:=by simpa using z
  lia
theorem vL{P:Int}{m n:Nat}{t:List (List Int)}(p1:3<=P)(p2:P<=9973)(hm:m<=3)(ht:b8 P m t)(hn:n<2^150):Bu [.int P,aU t,.int n] = .ok ((cC P m t (dW n)).map aU):=by
 refine ot rfl ?_
 delta MB
 have hp:1<P:=by lia
 have hF:=E4 hn
 refine fw (ds:=[]) (by walk_at "evs") ?_
 refine cE (d:=aU (bw P m t (2^0))) (by rw[Ak,Wr hp ht];walk_at "evs") ?_
 refine pC (ds:=fq 0 (dW n)) (λj Γ=>∃x5,Γ=[.ro (.int P),.ro (aU t),.ro (.int n),.own ((cC P m t j).map aU),.ro (aU (bw P m t (2^j))),x5]) ?_ ⟨_,rfl⟩ ?_ ?_
 ·walk_at "evs"
  rw[Wv]
  walk_at "evs"
 ·rintro j d Γ hd ⟨x5,rfl⟩
  obtain⟨hj,rfl⟩:=yr hd
  have hl:((cC P m t j).map aU).length<=200:=by unfold cC;rw[bu,bu,Dh];lia
  have tG:=tE (P:=P) (n:=m) (by lia) (by lia) (iH hp ht (2^j)) (iH hp ht (2^j)) (by lia)
  rw[Ws hp ht] at tG
  refine .nx (dU (rh (d:=aU (bw P m t (2^j))) rfl (by walk_at "evs") (by lia)) ((gQ (d:=aU (bw P m t (2^(j+1)))) ?_).trans ?_)) ⟨.ro (.int (0+(j:Int))),rfl⟩
  ·walk_at "evs"
   simp only[aU,tG,Al,sC _ 2]
   have:=mR (bw P m t (2*2^j))
   walk_at "evs"
  ·rw[Wu,lx]
   rfl
 ·rintro Γ ⟨x5,rfl⟩
  rw[oo]
  walk_at "evs"
theorem Ww(n j:Nat):n%2^(j+1)=n%2^j+(n/2^j%2)*2^j:=by
 rw[Al,Nat.mod_mul,sC (2^j)]
theorem MJ(n:Nat):n%2^dW n=n:=a5n (by
 rcases cG n (2^dW n) with z | z
 ·exact z
 ·exact absurd (MI.mpr z) (jb _))
def mS(n j:Nat):Bool:=n/2^j%2==1
def eY(n k:Nat):List Nat:=(bK k).filter (mS n)
def gR:List Nat->Nat
 | []=>0
 | j::js=>2^j+gR js
theorem E6:∀(a b:List Nat),gR (a++b)=gR a+gR b
 | [],b=>(fE _).symm
 | j::a,b=>by rw[R6,gR,gR,E6 a b,R7]
theorem E8(n:Nat):∀k,gR (eY n k)=n%2^k
 | 0=>by rw[Ak,Nat.mod_one];rfl
 | k+1=>by
   have h:eY n (k+1)=eY n k++(if mS n k then [k] else []):=by
    unfold eY
    rw[uK,List.filter_append]
    cases q:mS n k<;>simp[q]
   rw[h,E6,E8 n k,Ww]
   have w:n/2^k%2=0∨n/2^k%2=1:=by lia
   rcases w with w | w
   ·have:mS n k=false:=by unfold mS;rw[w];rfl
    rw[this,w,R8];rfl
   ·have:mS n k=true:=by unfold mS;rw[w];rfl
    rw[this,w,Nat.one_mul];rfl
def tH(p:Nat->Bool):Nat->List D->List D
 | _,[]=>[]
 | k,x::xs=>if p k=true then x::tH p (k+1) xs else tH p (k+1) xs
theorem MK{f:D->D->G->R (Option D)}{Γ:G}(p:Nat->Bool):∀(xs:List D) (k:Nat) (acc:List D),(∀j x,xs[j]? = some x->f (.int ((k+j:Nat):Int)) x Γ = .ok (if p (k+j)=true then some x else none)) ->
 cD (y0y f Γ) (dS k xs) acc = .ok (acc++tH p k xs)
 | [],k,acc,_=>by rw[dS,tH,lu];rfl
 | x::xs,k,acc,h=>by
   have h0:=h 0 x rfl
   have ih:=λacc=>MK p xs (k+1) acc (λj y hy=>by
    have:=h (j+1) y hy
    rw[show k+1+j=k+(j+1) by lia];exact this)
   rw[dS,vm,show y0y f Γ (.tup [.int (k:Int),x])=f (.int (k:Int)) x Γ from rfl,show f (.int (k:Int)) x Γ=_ from h0]
   rw[nO,tH]
   by_cases q:p k=true
   ·rw[if_pos q,if_pos q]
    show cD (y0y f Γ) (dS (k+1) xs) (acc++[x])=_
    rw[ih,uG];rfl
   ·rw[if_neg q,if_neg q]
    exact ih acc
theorem ML(p:Nat->Bool)(F:Nat->D):∀(l s:Nat),tH p s ((List.range' s l).map F)=((List.range' s l).filter p).map F
 | 0,s=>rfl
 | l+1,s=>by
   rw[List.range'_succ,cJ,tH,ML p F l (s+1),a5o]
   by_cases q:p s=true
   ·rw[if_pos q,if_pos q,cJ]
   ·rw[if_neg q,if_neg q]
theorem Wx(P:Int)(m:Nat)(t:List (List Int))(k:Nat):(cC P m t k).map aU=(bK k).map λj=>aU (bw P m t (2^j)):=by
 unfold cC;rw[ka];rfl
theorem MM:∀(k:Nat) (xs:List D),(dS k xs).length=xs.length
 | _,[]=>rfl
 | k,a::xs=>by rw[dS,de,MM (k+1) xs,de]
theorem vM{P:Int}{m n k:Nat}{t:List (List Int)}(hk:k<=1000):Bv [.lst ((cC P m t k).map aU),.int n] = .ok ((eY n k).map λj=>aU (bw P m t (2^j))):=by
 refine ot rfl (Bq ?_)
 have nt:=vI (cC P m t k)
 have hl:((cC P m t k).map aU).length=k:=by unfold cC;simp
 show(y7z (gV 0) _>>=λitems=>R.guard _ _)=_
 have e1:y7z (gV 0) (gr 2 [.lst ((cC P m t k).map aU),.int n]) = .ok (dS 0 ((cC P m t k).map aU)):=by
  show(R.guard _ _:R (List D))=_
  rw[eU nt]
 rw[e1]
 show R.guard _ _=_
 rw[eU (by rw[MM,hl];lia),MK (mS n),JW,Wx,a5p,ML]
 ·unfold eY;rw[a5p]
 ·intro j x hx
  have nx:D.cH x=true:=Vk nt (fV hx)
  rw[fE]
  have e2:(n:Int)/2^j%2=((n/2^j%2:Nat):Int):=by
   rw[a5q,Int.natCast_ediv,Di];rfl
  have e3:((n:Int)/2^j%2==1)=mS n j:=by
   rw[e2];unfold mS
   cases q:(n/2^j%2==1) with
   | true=>rw[beq_iff_eq] at q;rw[q];rfl
   | false =>
     have:n/2^j%2=0:=by
      have h1:n/2^j%2≠1:=by simpa using q
      lia
     rw[this];rfl
  have e4:ED (.int (n:Int)) (.int ((j:Nat):Int)) = .ok (.int ((n:Int)/2^j)):=by
   show R.guard _ (R.ok (D.int ((n:Int)/2^((j:Nat):Int).toNat)))=_
   rw[eU ⟨R9 n,R9 j⟩,mq]
  unfold vq
  walk_at "evs"
  rw[e4]
  walk_at "evs"
  rw[e3]
  cases q:mS n j with
  | true=>walk_at "evs"
  | false=>rfl
theorem MN{n k i:Nat}{d:D}{F:Nat->D}(h:((eY n k).map F)[i]? = some d):∃j,(eY n k)[i]? = some j/\d=F j:=by
 rw[cm] at h
 cases q:(eY n k)[i]? with
 | none=>rw[q] at h;cases h
 | some j=>rw[q] at h;injection h with h;exact⟨j,rfl,h.symm⟩
theorem MO{l:List Nat}{i j:Nat}(h:l[i]? = some j):gR (l.take (i+1))=gR (l.take i)+2^j:=by
 rw[Am,h,E6]
 show _+(2^j+0)=_
 rw[nO]
theorem tI{P:Int}{m n:Nat}{t:List (List Int)}(p1:3<=P)(p2:P<=9973)(hm:m<=3)(ht:b8 P m t)(hn:n<2^150):vJ [.int P,aU t,.int n] = .ok (aU (bw P m t n)):=by
 refine c8 rfl ?_
 delta MC
 have hp:1<P:=by lia
 have el:=vL p1 p2 hm ht hn
 have ei:=tF (n:=m) (by lia)
 have hF:=E4 hn
 have er:=vM (P:=P) (m:=m) (n:=n) (k:=dW n) (t:=t) (by lia)
 refine cE (d:=aU (bw P m t 0)) ?_ ?_
 ·have:=mR (fZ m)
  simp only[aU,bw]
  walk_at "evs"
  rw[show(t.length:Int)=(m:Int) by rw[ht.1]]
  simp only[ei]
  walk_at "evs"
 refine pC (ds:=(eY n (dW n)).map λj=>aU (bw P m t (2^j))) (λi Γ=>∃x4,Γ=[.ro (.int P),.ro (aU t),.ro (.int n),.ro (aU (bw P m t (gR ((eY n (dW n)).take i)))),x4]) ?_ ⟨_,rfl⟩ ?_ ?_
 ·have nt:=vI (cC P m t (dW n))
  walk_at "evs"
  simp only[el]
  walk_at "evs"
  simp only[er]
  have Wy:D.bI ((eY n (dW n)).map λj=>aU (bw P m t (2^j)))=true:=vh λj _=>mR _
  walk_at "evs"
 ·rintro i d Γ hd ⟨x4,rfl⟩
  obtain⟨j,hj,rfl⟩:=MN hd
  have tG:=tE (P:=P) (n:=m) (by lia) (by lia) (iH hp ht (gR ((eY n (dW n)).take i))) (iH hp ht (2^j)) (by lia)
  rw[<-yv hp ht,<-MO hj] at tG
  refine .nx (gQ (d:=aU (bw P m t (gR ((eY n (dW n)).take (i+1))))) ?_) ⟨_,rfl⟩
  walk_at "evs"
  simp only[aU,tG]
  have:=mR (bw P m t (gR ((eY n (dW n)).take (i+1))))
  walk_at "evs"
 ·rintro Γ ⟨x4,rfl⟩
  refine cR ?_
  walk_at "evs"
  rw[show((eY n (dW n)).take (eY n (dW n)).length)=eY n (dW n) from uI,E8,MJ]
end L3
namespace L3
open PySem
local macro_rules | `(tactic| walk_at "evs") => wkL " L3.z9d L3.z5h L3.z5g L3.s_on L3.z4p L3.z5j L3.z5x L3.z6a L3.z5s L3.z4s L3.z6b L3.z0n L3.dInt L3.y9x L3.y9t L3.x3d L3.Item.d L3.Item.ds_map L3.y9w L3.x4b L3.x4c L3.y9r L3.y3i"
mutual
def Item.tab(P:Int)(m:Nat):Item->List (List Int)
 | .set x f=>(fZ m).set x.toNat f
 | .again n its=>bw P m (Item.tabs P m its) n.toNat
def Item.tabs(P:Int)(m:Nat):List Item->List (List Int)
 | []=>fZ m
 | a::r=>dM P (a.tab P m) (Item.tabs P m r)
end
theorem Wz{P:Int}{m x:Nat}{f:List Int}(hp:1<P)(h:vC P m f):b8 P m ((fZ m).set x f):=by
 obtain⟨h1,h2⟩:=E0 hp m
 refine⟨by rw[jJ];exact h1,λr hr=>?_⟩
 rcases Dj hr with z | z
 ·exact h2 r z
 ·rw[z];exact h
mutual
theorem Item.yw{P:Int}{m:Nat}(hp:1<P):∀a:Item,a.ok P m->b8 P m (a.tab P m)
 | .set x f,h=>by
   simp only[Item.ok] at h
   exact Wz hp ⟨h.2.2.2,by lia⟩
 | .again n its,h=>by
   simp only[Item.ok] at h
   exact iH hp (Item.tabs_ok hp its h.2.2) _
theorem Item.tabs_ok{P:Int}{m:Nat}(hp:1<P):∀its:List Item,Item.eB P m its->b8 P m (Item.tabs P m its)
 | [],_=>E0 hp m
 | a::r,h=>by
   simp only[Item.eB] at h
   exact rn (by lia) (Item.yw hp a h.1).1 (Item.tabs_ok hp r h.2).1
end
theorem Item.MP{P:Int}{m:Nat}(hp:1<P):∀{a b:List Item},Item.eB P m a->Item.eB P m b->Item.tabs P m (a++b)=dM P (Item.tabs P m a) (Item.tabs P m b)
 | [],b,_,hb=>(Mz hp (Item.tabs_ok hp b hb)).symm
 | x::a,b,ha,hb=>by
   simp only[Item.eB] at ha
   show dM P (x.tab P m) (Item.tabs P m (a++b))=dM P (dM P (x.tab P m) (Item.tabs P m a)) (Item.tabs P m b)
   rw[Item.MP hp ha.2 hb,Mw (by lia) (Item.yw hp x ha.1).1 (Item.tabs_ok hp a ha.2).1 (Item.tabs_ok hp b hb).1]
theorem Item.WA{P:Int}{m:Nat}(hp:1<P){a:Item}(h:a.ok P m):Item.tabs P m [a]=a.tab P m:=MA hp (Item.yw hp a h)
theorem WB{its:List Item}{j:Nat}{d:D}(h:(its.map Item.d)[j]? = some d):∃a:Item,its[j]? = some a/\d=a.d/\a∈its:=by
 rw[cm] at h
 cases q:its[j]? with
 | none=>rw[q] at h;cases h
 | some a=>rw[q] at h;cases h;exact⟨a,rfl,rfl,fV q⟩
theorem WC{α:Type}{l:List α}{j:Nat}{a:α}(h:l[j]? = some a):l.take (j+1)=l.take j++[a]:=by
 rw[Am,h];rfl
theorem Item.WD{P many:Int}{its:List Item}(h:Item.eB P many its)(j:Nat):Item.eB P many (its.take j):=Item.yu.mpr λa ha=>Item.yu.mp h a (Df ha)
theorem WE:(10:Int)^30<2^150:=by decide
theorem WG{n:Int}(h0:0<=n)(h:n<=10^30):∃k:Nat,n=(k:Int)/\n.toNat=k/\k<2^150:=by
 have:=WE
 exact⟨n.toNat,by lia,rfl,by lia⟩
theorem tJ{P:Int}{m:Nat}(p1:3<=P)(p2:P<=9973)(hm:m<=3):∀(k:Nat) (its:List Item),2*Item.kQ its+2<=k->Item.eB P m its->lQ k [.int P,.int m,.tup (its.map Item.d)] = .ok (aU (Item.tabs P m its))
 | 0,_,h,_=>by lia
 | 1,_,h,_=>by lia
 | k+2,its,h,ho=>by
   have hp:1<P:=by lia
   show cn 3 5 (Bw (lQ (k+1)) (pF (k+1))) _=_
   refine c8 rfl ?_
   delta Bw
   have hn:=Item.vK its
   have ei:=tF (n:=m) (by lia)
   refine cE (d:=aU (Item.tabs P m (its.take 0))) ?_ ?_
   ·have:=mR (fZ m)
    walk_at "evs"
    simp only[ei]
    walk_at "evs"
    rfl
   refine pC (ds:=its.map Item.d) (λj Γ=>∃x4,Γ=[.ro (.int P),.ro (.int m),.ro (.tup (its.map Item.d)),.ro (aU (Item.tabs P m (its.take j))),x4]) (by walk_at "evs") ⟨_,rfl⟩ ?_ ?_
   ·rintro j d Γ hd ⟨x4,rfl⟩
    obtain⟨a,ea,rfl,ha⟩:=WB hd
    have pG:=Item.yu.mp ho a ha
    have MQ:=Item.WD ho j
    have e:pF (k+1) [.int P,.int m,a.d] = .ok (aU (a.tab P m)):=by
     show cn 3 3 (Bx (lQ k) (pF k)) _=_
     refine c8 rfl ?_
     delta Bx
     cases a with
     | set x f =>
       simp only[Item.ok] at pG
       obtain⟨y,rfl⟩:∃y:Nat,x=(y:Int):=⟨x.toNat,by lia⟩
       have es:=yt (n:=m) (x:=y) (f:=f) (by lia) (by lia)
       refine tj (oq (by walk_at "evs") (cR ?_))
       walk_at "evs"
       simp only[es]
       rfl
     | again n i =>
       have h1:=Item.E2.mp (a7 (Item.kQ its)) _ ha
       simp only[Item.deep] at h1
       simp only[Item.ok] at pG
       obtain⟨y,rfl,ey,hy⟩:=WG pG.1 pG.2.1
       have ih:=tJ p1 p2 hm k i (by lia) pG.2.2
       have er:=tI (n:=y) p1 p2 hm (Item.tabs_ok hp i pG.2.2) hy
       refine mQ (by walk_at "evs") (cR ?_)
       walk_at "evs"
       simp only[ih]
       walk_at "evs"
       simp only[er]
       rfl
    have tG:=tE (P:=P) (n:=m) (by lia) (by lia) (Item.tabs_ok hp _ MQ) (Item.yw hp a pG) (by lia)
    have et:Item.tabs P m (its.take (j+1))=dM P (Item.tabs P m (its.take j)) (a.tab P m):=by
     rw[WC ea,Item.MP hp MQ (by simp only[Item.eB];exact⟨pG,trivial⟩),Item.WA hp pG]
    refine .nx (gQ (d:=aU (Item.tabs P m (its.take (j+1)))) ?_) ⟨_,rfl⟩
    have:=mR (dM P (Item.tabs P m (its.take j)) (a.tab P m))
    walk_at "evs"
    simp only[e]
    walk_at "evs"
    simp only[aU,tG,et]
    walk_at "evs"
   ·rintro Γ ⟨x4,rfl⟩
    refine cR ?_
    walk_at "evs"
    rw[C9 (a7 _)]
theorem By(its:List Item):(D.tup (its.map Item.d)).cH=true:=by have:=Item.vK its;simpa [D.cH] using this
end L3
namespace L3
open PySem
local macro_rules | `(tactic| walk_at "evs") => wkL " L3.z9d L3.z5h L3.z5g L3.s_on L3.z4p L3.z5j L3.z5x L3.z6a L3.z5s L3.z4s L3.z6b L3.z0n"
theorem WH{P d:Int}(hp:fx P=false)(h3:3<=P)(h:P<=9973)(h1:2<=d)(h2:d<P):P%d≠0:=by
 intro e
 have hn:¬∃b:Int,2<=b/\b<100/\b<P/\P%b=0:=λq=>by rw[(EV P).mpr q] at hp;cases hp
 by_cases hd:d<100
 ·exact hn ⟨d,h1,hd,h2,e⟩
 ·have e1:P=d*(P/d):=by have:=An P d;lia
  generalize hq:P/d=q at *
  have q0:0<q:=by
   rcases Dk 0 q with z | z | z
   ·exact z
   ·rw[<-z] at e1;simp at e1;lia
   ·have:d*q<0:=R_ (by lia) z
    lia
  have q1:q≠1:=λz=>by rw[z] at e1;lia
  have q2:q<100:=by
   rcases Dl q 100 with z | z
   ·exact z
   ·have:100*100<=d*q:=kG (by lia) z (by lia) (by lia)
    lia
  refine hn ⟨q,by lia,q2,?_,?_⟩
  ·have:2*q<=d*q:=JX h1 (by lia)
   lia
  ·rw[e1];exact a5r d q
theorem WI{P n0:Int}(hp:fx P=false)(h3:3<=P)(h:P<=9973)(x1:En):∀(k m:Nat) (Γ:G),m<k ->
 (∃a b:Int,Γ=[.ro (.int P),x1,.ro (.int b),.ro (.int a)]/\1<=b/\b<P/\0<=a/\a<P/\cg P (a*n0) b/\b.toNat=m) ->
 ∃a:Int,dh (gT (ao iG (gV 2) (gC (.int 1)))) (aE (aX 3 (aG (aH ou (ae (gV 0) (ae (ao cX (xS (gV 3)) (ao hJ (gV 0) (gV 2))) az))))) (aX 2 (aG (ao df (gV 0) (gV 2))))) k Γ = .ok (.nx [.ro (.int P),x1,.ro (.int 1),.ro (.int a)])/\0<=a/\a<P/\cg P (a*n0) 1:=by
 refine pB _ (λr=>∃a:Int,r = .ok (.nx [.ro (.int P),x1,.ro (.int 1),.ro (.int a)])/\0<=a/\a<P/\cg P (a*n0) 1) ?_
 rintro m Γ ⟨a,b,rfl,b1,b2,a1,a2,hc,hm⟩
 by_cases hb:b=1
 ·subst hb
  refine .inl ⟨by walk_at "evs",a,rfl,a1,a2,hc⟩
 ·have E9:(b==1)=false:=by simpa using hb
  have vN:=WH hp h3 h (d:=b) (by lia) b2
  have r1:0<=P%b:=kn (by lia)
  have r2:P%b<b:=ko (by lia)
  have hq0:0<=P/b:=a5s (by lia) (by lia)
  have hq1:P/b<=P:=a5t b (by lia)
  have he:P%b=P-b*(P/b):=by have:=An P b;lia
  refine .inr ⟨by walk_at "evs";simp only[E9];walk_at "evs",.inl ⟨[.ro (.int P),x1,.ro (.int (P%b)),.ro (.int ((-a*(P/b))%P))],(P%b).toNat,by lia,.inl ?_,_,_,rfl,by lia,by lia,kn (by lia),ko (by lia),?_,rfl⟩⟩
  ·refine cE (d:=.int ((-a*(P/b))%P)) (by walk_at "evs") ?_
   refine gQ ?_
   walk_at "evs"
  ·have c1:cg P ((-a*(P/b))%P*n0) (-(P/b)*(a*n0)):=by
    refine(kP.mul cg.refl).trans (cg.of_eq ?_)
    rw[my,my,my,e_,Int.mul_left_comm]
   have c2:cg P (-(P/b)*(a*n0)) (-(P/b)*b):=cg.mul cg.refl hc
   refine(c1.trans c2).trans ?_
   rw[he]
   have:cg P (-(P/b)*b) (P-b*(P/b)):=by
    rw[L8]
    rw[show -(P/b)*b-(P-b*(P/b)) = -P by rw[my,j_];lia]
    simp
   exact this
theorem E_{P n:Int}(hp:fx P=false)(h3:3<=P)(h:P<=9973):(n%P=0->tx [.int P,.int n] = .er .A5)/\(n%P≠0->∃a:Int,tx [.int P,.int n] = .ok (.int a)/\0<a/\a<P/\(a*n)%P=1):=by
 have r1:0<=n%P:=kn (by lia)
 have r2:n%P<P:=ko (by lia)
 refine⟨λe=>?_,λe=>?_⟩
 ·refine V2 (Γ:=[.ro (.int P),.ro (.int n),.ro (.int 0),.no]) rfl ?_
  unfold ER
  refine cE (d:=.int 0) (by walk_at "evs";rw[e];walk_at "evs") ?_
  refine V0 (oq (by walk_at "evs") ?_)
  rfl
 ·have E9:(n%P==0)=false:=by simpa using e
  obtain⟨a,ea,a1,a2,ac⟩:=WI (n0:=n%P) hp h3 h (.ro (.int n)) 100000 (n%P).toNat [.ro (.int P),.ro (.int n),.ro (.int (n%P)),.ro (.int 1)] (by lia) ⟨1,n%P,rfl,by lia,r2,by lia,by lia,cg.of_eq (by lia),rfl⟩
  have hc:cg P (a*n) 1:=(cg.mul cg.refl kP.symm).trans ac
  have h1:(a*n)%P=1:=by
   unfold cg at hc
   rw[hc,jg (by lia) (by lia)]
  have a0:a≠0:=λz=>by rw[z] at h1;simp at h1
  refine⟨a,?_,by lia,a2,h1⟩
  refine c8 rfl ?_
  unfold ER
  refine cE (d:=.int (n%P)) (by walk_at "evs") ?_
  refine mQ (by walk_at "evs";simp only[E9];walk_at "evs") ?_
  refine cE (d:=.int 1) (by walk_at "evs") ?_
  refine dU ea ?_
  exact cR (by walk_at "evs")
def vec(r:List Int):Nat->Int:=λi=>(r[i]?).getD 0
inductive Span (P:Int) (S:List (List Int)):(Nat->Int)->Prop
 | zero {v:Nat->Int}:(∀i,cg P (v i) 0)->Span P S v
 | add {u v:Nat->Int} {c:Int} {r:List Int}:r∈S->Span P S u->(∀i,cg P (v i) (u i+c*vec r i))->Span P S v
section
variable {P:Int}{S T:List (List Int)}{u v:Nat->Int}{c:Int}{r:List Int}
theorem Span.iI(h:Span P S u)(e:∀i,cg P (v i) (u i)):Span P S v:=by
 cases h with
 | zero z=>exact .zero λi=>(e i).trans (z i)
 | add hr hu q=>exact .add hr hu λi=>(e i).trans (q i)
theorem Span.rp(h:r∈S):Span P S (vec r):=.add (c:=1) h (.zero (v:=λ_=>0) λ_=>cg.refl) λi=>cg.of_eq (by lia)
theorem Span.plus(h:Span P S u)(g:Span P S v):Span P S (λi=>u i+v i):=by
 induction h with
 | zero z =>
   refine g.iI λi=>?_
   have:=(z i).add (cg.refl (P:=P) (a:=v i))
   rw[mr] at this;exact this
 | @add u' v' c' r' hr hu q ih =>
   refine .add (c:=c') hr ih λi=>?_
   refine((q i).add cg.refl).trans (cg.of_eq ?_)
   lia
theorem Span.times(c:Int)(h:Span P S u):Span P S (λi=>c*u i):=by
 induction h with
 | zero z =>
   refine .zero λi=>?_
   have:=(cg.refl (P:=P) (a:=c)).mul (z i)
   rw[kd] at this;exact this
 | @add u' v' c' r' hr hu q ih =>
   refine .add (c:=c*c') hr ih λi=>?_
   refine(cg.refl.mul (q i)).trans (cg.of_eq ?_)
   rw[uJ,e_]
theorem Span.trans(h:∀r∈S,Span P T (vec r))(g:Span P S v):Span P T v:=by
 induction g with
 | zero z=>exact .zero z
 | add hr hu q ih=>exact(ih.plus ((h _ hr).times _)).iI q
theorem Span.sub(hu:Span P S u)(hv:Span P S v):Span P S (λi=>u i-v i):=(hu.plus (hv.times (-1))).iI λi=>cg.of_eq (by lia)
end
def aR(r:List Int):Nat:=r.findIdx (λx=>!(x==0))
theorem mT{r:List Int}{i:Nat}(h:i<aR r):vec r i=0:=by
 unfold aR at h
 have hl:i<r.length:=cI h List.findIdx_le_length
 have:=List.not_of_lt_findIdx h
 unfold vec
 rw[cf hl]
 simpa using this
theorem Bz{r:List Int}(h:aR r<r.length):vec r (aR r)≠0:=by
 have:=List.findIdx_getElem (xs:=r) (p:=λx=>!(x==0)) (w:=h)
 unfold vec
 have e:r[aR r]? = some (r[aR r]'h):=cf h
 rw[e]
 intro z
 have z':r[r.findIdx (λx=>!(x==0))]'h=0:=z
 simp[z'] at this
theorem BA{r:List Int}{p:Nat}(h0:∀i,i<p->vec r i=0)(h1:vec r p≠0):aR r=p:=by
 have hl:p<r.length:=by
  rcases cG p r.length with z | z
  ·exact z
  ·exact absurd (by unfold vec;rw[fK z];rfl) h1
 rcases uN (aR r) p with z | z | z
 ·have h2:=Bz (r:=r) (by lia)
  exact absurd (h0 _ z) h2
 ·exact z
 ·exact absurd (mT z) h1
structure oz (P:Int) (w:Nat) (S:List (List Int)):Prop where
 row:∀r∈S,r.length=w/\bJ P r/\aR r<w/\vec r (aR r)=1
 pair:S.Pairwise λr r'=>aR r<aR r'/\vec r (aR r')=0
def comb(S:List (List Int))(v:Nat->Int)(i:Nat):Int:=(S.map λr=>v (aR r)*vec r i).sum
theorem vO{α:Type}{f:α->Int}:∀{l:List α},(∀a∈l,f a=0)->(l.map f).sum=0
 | [],_=>rfl
 | a::l,h=>by rw[cJ,sD,h a bB,vO λb hb=>h b (bL _ hb)];rfl
theorem yx{α:Type}{P:Int}{f g:α->Int}:∀{l:List α},(∀a∈l,cg P (f a) (g a))->cg P (l.map f).sum (l.map g).sum
 | [],_=>cg.refl
 | a::l,h=>by rw[cJ,sD,cJ,sD];exact(h a bB).add (yx λb hb=>h b (bL _ hb))
theorem MR{α:Type}(f g:α->Int):∀l:List α,(l.map λa=>f a+g a).sum=(l.map f).sum+(l.map g).sum
 | []=>rfl
 | a::l=>by simp only[cJ,sD,MR f g l];lia
theorem MS{α:Type}(c:Int)(f:α->Int):∀l:List α,(l.map λa=>c*f a).sum=c*(l.map f).sum
 | []=>by simp
 | a::l=>by simp only[cJ,sD,MS c f l,uJ]
theorem WJ{S:List (List Int)}(hp:S.Pairwise λr r'=>aR r<aR r'/\vec r (aR r')=0)(h1:∀r∈S,vec r (aR r)=1){r0:List Int}(h:r0∈S)(i:Nat):comb S (vec r0) i=vec r0 i:=by
 induction S with
 | nil=>cases h
 | cons a S ih =>
   obtain⟨ha,hS⟩:=List.pairwise_cons.mp hp
   unfold comb
   rw[cJ,sD]
   rcases List.mem_cons.mp h with rfl | h
   ·rw[h1 _ bB,vO λr hr=>by rw[(ha r hr).2,mx]];lia
   ·have hz:vec r0 (aR a)=0:=mT (ha r0 h).1
    have:=ih hS (λr hr=>h1 r (bL _ hr)) h
    unfold comb at this
    rw[this,hz];lia
section
variable {P:Int}{w:Nat}{S T:List (List Int)}{v:Nat->Int}
theorem BB(hS:oz P w S)(h:Span P S v)(i:Nat):cg P (v i) (comb S v i):=by
 induction h with
 | zero z =>
   refine(z i).trans (cg.symm ?_)
   unfold comb
   have:cg P (S.map λr=>_).sum (S.map λ_=>(0:Int)).sum:=yx (f:=λr=>_*vec r i) λr hr=>by
    have:=(z (aR r)).mul (cg.refl (P:=P) (a:=vec r i))
    rw[mx] at this;exact this
   rw[vO (f:=λ_:List Int=>(0:Int)) λ_ _=>rfl] at this
   exact this
 | @add u v' c r hr hu q ih =>
   have e1:=WJ hS.pair (λr hr=>(hS.row r hr).2.2.2) hr i
   have e2:cg P (comb S v' i) (comb S (λk=>u k+c*vec r k) i):=yx λr' _=>(q (aR r')).mul cg.refl
   have e3:comb S (λk=>u k+c*vec r k) i=comb S u i+c*comb S (vec r) i:=by
    unfold comb
    rw[<-MS,<-MR]
    congr 1
    refine uL λa _=>?_
    rw[Sa,e_]
   refine(q i).trans (((ih.add (cg.refl (a:=c*vec r i))).trans ?_).trans e2.symm)
   rw[e3,e1]
   exact cg.refl
theorem WK(hS:oz P w S)(h:Span P S v){p:Nat}(h0:∀i,i<p->cg P (v i) 0)(h1:¬cg P (v p) 0):∃r∈S,aR r=p:=by
 refine Dm λhn=>h1 ?_
 refine(BB hS h p).trans ?_
 unfold comb
 have:cg P (S.map λr=>v (aR r)*vec r p).sum (S.map λ_=>(0:Int)).sum:=yx (f:=λr=>v (aR r)*vec r p) λr hr=>by
  rcases uN (aR r) p with z | z | z
  ·have:=(h0 _ z).mul (cg.refl (P:=P) (a:=vec r p))
   rw[mx] at this;exact this
  ·exact absurd ⟨r,hr,z⟩ hn
  ·rw[mT z,kd];exact cg.refl
 rw[vO (f:=λ_:List Int=>(0:Int)) λ_ _=>rfl] at this
 exact this
theorem BC(hp:1<P):¬cg P 1 0:=λh=>by
 unfold cg at h
 rw[jg (by lia) hp,qE] at h
 lia
theorem Fb(hp:1<P)(hS:oz P w S)(hT:oz P w T)(h:∀t∈T,Span P S (vec t)){t:List Int}(ht:t∈T):∃r∈S,aR r=aR t:=by
 refine WK hS (h t ht) (λi hi=>by rw[mT hi];exact cg.refl) ?_
 rw[(hT.row t ht).2.2.2]
 exact BC hp
theorem MT:∀{a b:List Nat},a.Pairwise (·<·)->b.Pairwise (·<·)->(∀x,x∈a↔x∈b)->a=b
 | [],[],_,_,_=>rfl
 | [],y::b,_,_,h=>by have:=(h y).mpr bB;cases this
 | x::a,[],_,_,h=>by have:=(h x).mp bB;cases this
 | x::a,y::b,ha,hb,h=>by
   obtain⟨MU,WL⟩:=List.pairwise_cons.mp ha
   obtain⟨MV,WM⟩:=List.pairwise_cons.mp hb
   have WN:x=y:=by
    rcases List.mem_cons.mp ((h x).mp bB) with e | e
    ·exact e
    ·rcases List.mem_cons.mp ((h y).mpr bB) with e' | e'
     ·exact e'.symm
     ·have:=MU y e'
      have:=MV x e
      lia
   subst WN
   rw[MT WL WM λz=>?_]
   constructor
   ·intro hz
    rcases List.mem_cons.mp ((h z).mp (bL _ hz)) with e | e
    ·have:=MU z hz;lia
    ·exact e
   ·intro hz
    rcases List.mem_cons.mp ((h z).mpr (bL _ hz)) with e | e
    ·have:=MV z hz;lia
    ·exact e
theorem MW{a b:List Int}(hp:0<P)(la:a.length=w)(lb:b.length=w)(oa:bJ P a)(ob:bJ P b)(h:∀i,cg P (vec a i) (vec b i)):a=b:=by
 refine EY (la.trans lb.symm) λk hk=>?_
 have h1:=lP hp oa k
 have h2:=lP hp ob k
 exact(h k).EL h1.1 h1.2 h2.1 h2.2
theorem Fc(hS:oz P w S){r r':List Int}(h:r∈S)(h':r'∈S)(e:aR r≠aR r'):vec r (aR r')=0:=by
 have key:∀{S:List (List Int)},S.Pairwise (λr r'=>aR r<aR r'/\vec r (aR r')=0)->r∈S->r'∈S->vec r (aR r')=0:=by
  intro S
  induction S with
  | nil=>intro _ h _;cases h
  | cons a S ih =>
    intro hp h h'
    obtain⟨h1,h2⟩:=List.pairwise_cons.mp hp
    rcases List.mem_cons.mp h with rfl | g
    ·rcases List.mem_cons.mp h' with rfl | g'
     ·exact absurd rfl e
     ·exact(h1 _ g').2
    ·rcases List.mem_cons.mp h' with rfl | g'
     ·exact mT (h1 _ g).1
     ·exact ih h2 g g'
 exact key hS.pair h h'
theorem WO(hp:1<P)(hS:oz P w S)(hT:oz P w T)(h1:∀t∈T,Span P S (vec t))(h2:∀r∈S,Span P T (vec r)):S=T:=by
 have WQ:(S.map aR).Pairwise (·<·):=List.pairwise_map.mpr (hS.pair.imp λq=>q.1)
 have WR:(T.map aR).Pairwise (·<·):=List.pairwise_map.mpr (hT.pair.imp λq=>q.1)
 have el:S.map aR=T.map aR:=MT WQ WR λx=>by
  constructor
  ·intro hx
   obtain⟨r,hr,rfl⟩:=List.mem_map.mp hx
   obtain⟨t,ht,e⟩:=Fb hp hT hS h2 hr
   exact List.mem_map.mpr ⟨t,ht,e⟩
  ·intro hx
   obtain⟨t,ht,rfl⟩:=List.mem_map.mp hx
   obtain⟨r,hr,e⟩:=Fb hp hS hT h1 ht
   exact List.mem_map.mpr ⟨r,hr,e⟩
 have er:∀r∈S,∀t∈T,aR r=aR t->r=t:=λr hr t ht e=>by
  obtain⟨a1,a2,a3,a4⟩:=hS.row r hr
  obtain⟨b1,b2,b3,b4⟩:=hT.row t ht
  refine MW (by lia) a1 b1 a2 b2 λi=>?_
  have sp:=(Span.rp (P:=P) hr).sub (h1 t ht)
  have q:=BB hS sp i
  have z:comb S (λk=>vec r k-vec t k) i=0:=by
   refine vO λa ha=>?_
   have e0:vec r (aR a)-vec t (aR a)=0:=by
    by_cases ea:aR r=aR a
    ·rw[<-ea,a4,e,b4];rfl
    ·rw[Fc hS hr ha ea]
     obtain⟨t',WT,WU⟩:=Fb hp hT hS h2 ha
     rw[<-WU,Fc hT ht WT (by lia)];rfl
   show(vec r (aR a)-vec t (aR a))*vec a i=0
   rw[e0,mx]
  rw[z] at q
  have:=q.add (cg.refl (P:=P) (a:=vec t i))
  rw[mr] at this
  exact cg.trans (cg.of_eq (by lia)) this
 have hl:S.length=T.length:=by have:=congrArg JI el;simpa using this
 refine Dc hl λi hi hj=>?_
 refine er _ (mw hi) _ (mw hj) ?_
 have:=congrArg (λl=>l[i]?) el
 simp only[cm,cf hi,cf hj,xh,sE] at this
 exact this
end
def gS(P:Int)(r:List Int)(c:Int):List Int:=r.map λn=>(c*n)%P
def dX(P:Int)(r l:List Int)(p:Nat):List Int:=(r.zip l).map λx=>(x.1-vec r p*x.2)%P
section
variable {P:Int}{w p:Nat}{r l:List Int}{c:Int}
theorem Fd(i:Nat):vec (gS P r c) i=(c*vec r i)%P:=by
 unfold vec gS
 rw[cm]
 cases r[i]? with
 | none=>simp
 | some x=>rfl
theorem Fe:(gS P r c).length=r.length:=by unfold gS;simp
theorem MX(hp:0<P):bJ P (gS P r c):=λn hn=>by
 obtain⟨x,_,rfl⟩:=List.mem_map.mp hn
 exact⟨kn hp,ko hp⟩
theorem yy(hl:r.length=l.length)(i:Nat):vec (dX P r l p) i=(vec r i-vec r p*vec l i)%P:=by
 show((dX P r l p)[i]?).getD 0=_
 unfold dX
 rw[cm]
 by_cases h:i<r.length
 ·rw[cf (by rw[Sb];lia),List.getElem_zip]
  show(r[i]-vec r p*l[i])%P=_
  rw[show vec r i=r[i] by unfold vec;rw[cf h];rfl,show vec l i=l[i]'(by lia) by unfold vec;rw[cf (by lia)];rfl]
 ·rw[fK (by rw[Sb];lia),show vec r i=0 by unfold vec;rw[fK (by lia)];rfl,show vec l i=0 by unfold vec;rw[fK (by lia)];rfl]
  simp
theorem MY(hl:r.length=l.length):(dX P r l p).length=r.length:=by unfold dX;simp;lia
theorem MZ(hp:0<P):bJ P (dX P r l p):=λn hn=>by
 obtain⟨x,_,rfl⟩:=List.mem_map.mp hn
 exact⟨kn hp,ko hp⟩
theorem WV(hp:0<P)(h:bJ P r)(i:Nat):vec r i%P=vec r i:=by
 have:=lP hp h i
 exact jg this.1 this.2
end
structure oA (P:Int) (w p:Nat) (rows left steps:List (List Int)):Prop where
 kR:∀r∈left,r.length=w/\bJ P r/\∀i,i<p->vec r i=0
 step:∀r∈steps,r.length=w/\bJ P r/\aR r<p/\vec r (aR r)=1
 pair:steps.Pairwise λr r'=>aR r<aR r'/\vec r (aR r')=0
 yz:∀r∈left,Span P rows (vec r)
 lR:∀r∈steps,Span P rows (vec r)
 all:∀r∈rows,Span P (left++steps) (vec r)
section
variable {P:Int}{w p:Nat}{rows left steps:List (List Int)}
theorem oA.skip(g:oA P w p rows left steps)(h:∀r∈left,vec r p=0):oA P w (p+1) rows left steps where
 kR:=λr hr=>by
  obtain⟨h1,h2,h3⟩:=g.kR r hr
  refine⟨h1,h2,λi hi=>?_⟩
  rcases cG i p with z | z
  ·exact h3 i z
  ·rw[show i=p by lia];exact h r hr
 step:=λr hr=>by obtain⟨h1,h2,h3,h4⟩:=g.step r hr;exact⟨h1,h2,by lia,h4⟩
 pair:=g.pair
 yz:=g.yz
 lR:=g.lR
 all:=g.all
theorem M0{S:List (List Int)}{r l:List Int}(hl:r.length=l.length)(h1:Span P S (vec r))(h2:Span P S (vec l)):Span P S (vec (dX P r l p)):=by
 refine(h1.sub (h2.times (vec r p))).iI λi=>?_
 rw[yy hl]
 exact kP
theorem oA.turn(g:oA P w p rows left steps)(hp:1<P)(hw:p<w){r0:List Int}(h0:r0∈left){a:Int}(ha:(a*vec r0 p)%P=1){l:List Int}(el:l=gS P r0 a):oA P w (p+1) rows (left.map λr=>dX P r l p) ((steps.map λr=>dX P r l p)++[l]):=by
 obtain⟨l1,l2,l3⟩:=g.kR r0 h0
 have p0:0<P:=by lia
 have ll:l.length=w:=by rw[el,Fe];exact l1
 have lo:bJ P l:=by rw[el];exact MX p0
 have lv:∀i,vec l i=(a*vec r0 i)%P:=λi=>by rw[el,Fd]
 have lz:∀i,i<p->vec l i=0:=λi hi=>by rw[lv,l3 i hi];simp
 have lp:vec l p=1:=by rw[lv];exact ha
 have M5:aR l=p:=BA lz (by rw[lp];lia)
 have Ff:Span P rows (vec l):=((g.yz r0 h0).times a).iI λi=>by rw[lv];exact kP
 have sv:∀r∈steps,∀i,i<p->vec (dX P r l p) i=vec r i:=λr hr i hi=>by
  obtain⟨h1,h2,_⟩:=g.step r hr
  rw[yy (by lia),lz i hi,kd,JY]
  exact WV p0 h2 i
 have yA:∀r∈steps,aR (dX P r l p)=aR r:=λr hr=>by
  obtain⟨h1,h2,h3,h4⟩:=g.step r hr
  refine BA (λi hi=>?_) ?_
  ·rw[sv r hr i (by lia)];exact mT hi
  ·rw[sv r hr _ h3,h4];lia
 have cp:∀r:List Int,r.length=w->vec (dX P r l p) p=0:=λr hr=>by
  rw[yy (by lia),lp]
  simp
 refine⟨λr' bQ=>?_,λr' bQ=>?_,?_,λr' bQ=>?_,λr' bQ=>?_,λr hr=>?_⟩
 ·obtain⟨r,hr,rfl⟩:=List.mem_map.mp bQ
  obtain⟨h1,h2,h3⟩:=g.kR r hr
  refine⟨by rw[MY (by lia)];exact h1,MZ p0,λi hi=>?_⟩
  rcases cG i p with z | z
  ·rw[yy (by lia),h3 i z,lz i z];simp
  ·rw[show i=p by lia];exact cp r h1
 ·rcases List.mem_append.mp bQ with bQ | bQ
  ·obtain⟨r,hr,rfl⟩:=List.mem_map.mp bQ
   obtain⟨h1,h2,h3,h4⟩:=g.step r hr
   refine⟨by rw[MY (by lia)];exact h1,MZ p0,by rw[yA r hr];lia,?_⟩
   rw[yA r hr,sv r hr _ h3];exact h4
  ·rw[nN] at bQ
   subst bQ
   exact⟨ll,lo,by lia,by rw[M5];exact lp⟩
 ·refine List.pairwise_append.mpr ⟨?_,a5u _ _,λa' Br b hb=>?_⟩
  ·refine List.pairwise_map.mpr (g.pair.imp_of_mem λ{r r'} hr bQ q=>?_)
   obtain⟨_,_,h3,_⟩:=g.step r' bQ
   rw[yA r hr,yA r' bQ,sv r hr _ h3]
   exact q
  ·obtain⟨r,hr,rfl⟩:=List.mem_map.mp Br
   rw[nN] at hb
   subst hb
   obtain⟨h1,h2,h3,h4⟩:=g.step r hr
   rw[yA r hr,M5]
   exact⟨h3,cp r h1⟩
 ·obtain⟨r,hr,rfl⟩:=List.mem_map.mp bQ
  exact M0 (by have:=(g.kR r hr).1;lia) (g.yz r hr) Ff
 ·rcases List.mem_append.mp bQ with bQ | bQ
  ·obtain⟨r,hr,rfl⟩:=List.mem_map.mp bQ
   exact M0 (by have:=(g.step r hr).1;lia) (g.lR r hr) Ff
  ·rw[nN] at bQ
   subst bQ
   exact Ff
 ·refine Span.trans (λr' bQ=>?_) (g.all r hr)
  have WW:l∈(left.map λr=>dX P r l p)++((steps.map λr=>dX P r l p)++[l]):=by simp
  have M6:∀r:List Int,r.length=w->bJ P r->dX P r l p∈(left.map λr=>dX P r l p)++((steps.map λr=>dX P r l p)++[l])->Span P ((left.map λr=>dX P r l p)++((steps.map λr=>dX P r l p)++[l])) (vec r):=λr h1 h2 h3=>by
   refine((Span.rp h3).plus ((Span.rp WW).times (vec r p))).iI λi=>?_
   rw[yy (by lia)]
   have:=(kP (P:=P) (a:=vec r i-vec r p*vec l i)).add (cg.refl (a:=vec r p*vec l i))
   rw[show vec r i-vec r p*vec l i+vec r p*vec l i=vec r i by lia] at this
   exact this.symm
  rcases List.mem_append.mp bQ with q | q
  ·obtain⟨h1,h2,_⟩:=g.kR r' q
   exact M6 r' h1 h2 (je _ (List.mem_map.mpr ⟨r',q,rfl⟩))
  ·obtain⟨h1,h2,_⟩:=g.step r' q
   exact M6 r' h1 h2 (c6 _ (je _ (List.mem_map.mpr ⟨r',q,rfl⟩)))
structure iZ (P:Int) (w:Nat) (rows S:List (List Int)):Prop where
 steps:oz P w S
 lR:∀r∈S,Span P rows (vec r)
 all:∀r∈rows,Span P S (vec r)
theorem oA.end(g:oA P w w rows left steps):iZ P w rows steps where
 steps:=⟨g.step,g.pair⟩
 lR:=g.lR
 all:=λr hr=>by
  refine Span.trans (λr' bQ=>?_) (g.all r hr)
  rcases List.mem_append.mp bQ with q | q
  ·obtain⟨h1,_,h3⟩:=g.kR r' q
   refine .zero λi=>?_
   rcases cG i w with z | z
   ·rw[h3 i z];exact cg.refl
   ·unfold vec;rw[fK (by lia)];exact cg.refl
  ·exact .rp q
theorem iZ.unique{S T:List (List Int)}(hp:1<P)(hS:iZ P w rows S)(hT:iZ P w rows T):S=T :=
 WO hp hS.steps hT.steps (λt ht=>Span.trans hS.all (hT.lR t ht)) λr hr=>Span.trans hT.all (hS.lR r hr)
theorem iZ.span{S:List (List Int)}{v:Nat->Int}(h:iZ P w rows S)(g:Span P rows v):Span P S v:=Span.trans h.all g
theorem WX(hp:0<P)(h:∀r∈rows,r.length=w):oA P w 0 rows (rows.map λr=>gS P r 1) [] where
 kR:=λr' bQ=>by
  obtain⟨r,hr,rfl⟩:=List.mem_map.mp bQ
  exact⟨by rw[Fe];exact h r hr,MX hp,λi hi=>by lia⟩
 step:=λr hr=>by cases hr
 pair:=a5g
 yz:=λr' bQ=>by
  obtain⟨r,hr,rfl⟩:=List.mem_map.mp bQ
  refine(Span.rp hr).iI λi=>?_
  rw[Fd,nP]
  exact kP
 lR:=λr hr=>by cases hr
 all:=λr hr=>by
  rw[lu]
  refine(Span.rp (List.mem_map.mpr ⟨r,hr,rfl⟩)).iI λi=>?_
  rw[Fd,nP]
  exact kP.symm
end
noncomputable section
def M7:G->R Fl :=
 (br (aH h_ (ae (gL (y3n (gZip (gV 1) (gV 2)) (x6x (aG (aH (gq ou) (ae (gV 2) (ae (ao kg (gV 0) (ao cX (ao aL (gV 3) (gV 5)) (gV 1))) az))))))) az)))
def BD:List D->R D:=cn 4 4 M7
def M8:G->R Fl :=
 (br (aH h_ (ae (gL (dg (ki (gV 1)) (eh (aG (aH (gq ou) (ae (gV 1) (ae (ao cX (gV 3) (gV 0)) az))))))) az)))
def tK:List D->R D:=cn 3 3 M8
def BE:G->R Fl :=
 (aE (fP 3 (lJ (dt 1))
 (cy (gT (ao iG (ao aL (gV 3) (gV 2)) (gC (.int 0)))) (br (aH tK (ae (gV 0) (ae (gV 3) (ae (aH tx (ae (gV 0) (ae (ao aL (gV 3) (gV 2)) az))) az))))) cQ))
 (br (gC .b_)))
def Fg:List D->R D:=cn 3 4 BE
def Fh:G->R Fl :=
 (aE (c5 2 (dg (ki (gV 1)) (eh (aG (aH (gq tK) (ae (gV 1) (ae (gV 0) (ae (gC (.int 1)) az))))))))
 (aE (c5 3 (gO az))
 (aE (fP 4 (fW (aH jS (ae (ao aL (gV 1) (gC (.int 0))) az)))
 (aE (aX 5 (aG (aH Fg (ae (gV 0) (ae (gV 2) (ae (gV 4) az))))))
 (cy (gT (ao w0d (gV 5) (gC .b_))) (aE (c5 2 (dg (ki (gV 2)) (eh (aG (aH (gq BD) (ae (gV 1) (ae (gV 0) (ae (gV 6) (ae (gV 5) az)))))))))
 (aE (c5 3 (dg (ki (gV 3)) (eh (aG (aH (gq BD) (ae (gV 1) (ae (gV 0) (ae (gV 6) (ae (gV 5) az)))))))))
 (gP 3 (aG (gV 5))))) cQ)))
 (mM 3))))
def M9:List D->R (List D):=ju 2 6 Fh
def M_:G->R Fl :=
 (aE (aX 2 (aG (aH jS (ae (ao aL (gV 1) (gC (.int 0))) az))))
 (aE (c5 3 (y3n (y7z (gV 1)) (x6x (aG (ao b7 (aH h_ (ae (gV 1) az)) (aH (gq Bs) (ae (aH jS (ae (gV 3) az)) (ae (gV 0) az))))))))
 (rf (dg (ki (gL (jt M9 (ae (gV 0) (ae (gV 3) az))))) (pA (pk (gT (aH EF (ae (lI (gV 0) lG (lH (gV 3))) az)))) (aG (lI (gV 0) (lH (gV 3)) lG)))))))
def WY:List D->R (List D):=ju 2 4 M_
end
noncomputable section
end
end L3
namespace L3
open PySem
local macro_rules | `(tactic| walk_at "evs") => wkL " L3.z9d L3.z5h L3.z5g L3.s_on L3.z4p L3.z5j L3.z5x L3.z6a L3.z5s L3.z4s L3.z6b L3.z0n L3.dInt L3.y9x L3.y9t L3.x3d L3.y3n L3.gZip L3.y7z L3.x6x L3.y0y L3.y3u L3.w0d L3.D.isNon"
theorem Fi:∀xs ys:List Int,s9 (xs.map D.int) (ys.map D.int)=(xs.zip ys).map λp=>.tup [.int p.1,.int p.2]
 | [],_=>rfl
 | _::_,[]=>rfl
 | x::xs,y::ys=>by simp only[cJ,s9,List.zip_cons_cons,Fi xs ys]
theorem WZ{f:D->R (Option D)}{h:Int->Int->Int}{xs ys:List Int}(q:∀x∈xs,∀y∈ys,f (.tup [.int x,.int y]) = .ok (some (.int (h x y)))):cD f (s9 (xs.map D.int) (ys.map D.int)) [] = .ok (((xs.zip ys).map λp=>h p.1 p.2).map D.int):=by
 rw[Fi,mL (h:=λp=>D.int (h p.1 p.2)),yo]
 intro p hp
 exact q p.1 (C2 hp).1 p.2 (C2 hp).2
theorem W0(xs ys:List Int):(s9 (xs.map D.int) (ys.map D.int)).length=min xs.length ys.length:=by
 rw[Fi,bu,Sb]
theorem Na{P c:Int}{r:List Int}(hp:0<P)(hc:lE c)(hr:r.length<=1000):tK [.int P,aq r,.int c] = .ok (aq (gS P r c)):=by
 refine c8 rfl ?_
 unfold M8
 refine cR ?_
 simp only[jv]
 walk_at "evs"
 rw[mL (h:=λn=>D.int ((c*n)%P)),yo]
 ·walk_at "evs"
  rfl
 ·intro n hn
  walk_at "evs"
theorem Nb{r:List Int}{p:Nat}(h:p<r.length):bX (r.map D.int) (p:Int)=some (.int (vec r p)):=rk h
theorem W2{P:Int}{r l:List Int}{p:Nat}(hp:0<P)(hP:P<1000000)(hr:bJ P r)(hl:r.length=l.length)(hw:r.length<=1000)(Fj:p<r.length):BD [.int P,aq r,aq l,.int p] = .ok (aq (dX P r l p)):=by
 refine c8 rfl ?_
 unfold M7
 refine cR ?_
 simp only[jv]
 have hz:(s9 (r.map D.int) (l.map D.int)).length<=100000:=by rw[W0];lia
 have n12:=And.intro (lD r) (lD l)
 have va:=Nb Fj
 have fv:lE (vec r p):=EW (hr.fits (by lia)) p
 walk_at "evs"
 rw[WZ (h:=λx y=>(x-vec r p*y)%P)]
 ·walk_at "evs"
  rfl
 ·intro x hx y hy
  walk_at "evs"
  simp only[va]
  walk_at "evs"
theorem W3{P:Int}{left:List (List Int)}{p w:Nat}(hp:fx P=false)(p1:3<=P)(p2:P<=9973)(hl:∀r∈left,r.length=w/\bJ P r)(Nc:p<w)(hw:w<=1000) :
 (Fg [.int P,.lst (left.map aq),.int p] = .ok .b_/\∀r∈left,vec r p=0)∨∃r0 a,r0∈left/\(a*vec r0 p)%P=1/\Fg [.int P,.lst (left.map aq),.int p] = .ok (aq (gS P r0 a)):=by
 have key:(BE [.ro (.int P),.ro (.lst (left.map aq)),.ro (.int p),.no] = .ok (.rt .b_)/\∀r∈left,vec r p=0)∨∃r0 a,r0∈left/\(a*vec r0 p)%P=1/\BE [.ro (.int P),.ro (.lst (left.map aq)),.ro (.int p),.no] = .ok (.rt (aq (gS P r0 a))):=by
  unfold BE
  have loop:∀(l:List (List Int)) (x3:En),(∀r∈l,r∈left) ->
   (∃W4,dG (cy (gT (ao iG (ao aL (gV 3) (gV 2)) (gC (.int 0)))) (br (aH tK (ae (gV 0) (ae (gV 3) (ae (aH tx (ae (gV 0) (ae (ao aL (gV 3) (gV 2)) az))) az))))) cQ) 3 (l.map aq) [.ro (.int P),.ro (.lst (left.map aq)),.ro (.int p),x3] = .ok (.nx [.ro (.int P),.ro (.lst (left.map aq)),.ro (.int p),W4])/\∀r∈l,vec r p=0) ∨
   ∃r0 a,r0∈left/\(a*vec r0 p)%P=1/\dG (cy (gT (ao iG (ao aL (gV 3) (gV 2)) (gC (.int 0)))) (br (aH tK (ae (gV 0) (ae (gV 3) (ae (aH tx (ae (gV 0) (ae (ao aL (gV 3) (gV 2)) az))) az))))) cQ) 3 (l.map aq) [.ro (.int P),.ro (.lst (left.map aq)),.ro (.int p),x3] = .ok (.rt (aq (gS P r0 a))):=by
   intro l
   induction l with
   | nil=>intro x3 _;exact .inl ⟨x3,rfl,λr hr=>by cases hr⟩
   | cons r l ih =>
     intro x3 hs
     obtain⟨h1,h2⟩:=hl r (hs r bB)
     have va:=Nb (r:=r) (p:=p) (by lia)
     have hv:0<=vec r p/\vec r p<P:=lP (show 0<P by lia) h2 p
     rw[cJ]
     by_cases hz:vec r p=0
     ·have e:cy (gT (ao iG (ao aL (gV 3) (gV 2)) (gC (.int 0)))) (br (aH tK (ae (gV 0) (ae (gV 3) (ae (aH tx (ae (gV 0) (ae (ao aL (gV 3) (gV 2)) az))) az))))) cQ [.ro (.int P),.ro (.lst (left.map aq)),.ro (.int p),.ro (aq r)] = .ok (.nx [.ro (.int P),.ro (.lst (left.map aq)),.ro (.int p),.ro (aq r)]):=by
       refine tp ?_
       simp only[jv]
       walk_at "evs"
       simp only[va]
       walk_at "evs"
       rw[hz];rfl
      rw[EC]
      simp only[List.set]
      rw[e]
      rcases ih (.ro (aq r)) (λr' h'=>hs r' (bL _ h')) with ⟨x',q1,q2⟩ | q
      ·refine .inl ⟨x',q1,λr' bQ=>?_⟩
       rcases List.mem_cons.mp bQ with rfl | bQ
       ·exact hz
       ·exact q2 r' bQ
      ·exact .inr q
     ·have hm:vec r p%P≠0:=by rw[jg hv.1 hv.2];exact hz
      obtain⟨a,ea,a0,a1,a2⟩:=(E_ (n:=vec r p) hp p1 p2).2 hm
      have et:=Na (P:=P) (c:=a) (r:=r) (by lia) (qX (by lia)) (by lia)
      refine .inr ⟨r,a,hs r bB,a2,?_⟩
      rw[EC]
      simp only[List.set]
      have e:cy (gT (ao iG (ao aL (gV 3) (gV 2)) (gC (.int 0)))) (br (aH tK (ae (gV 0) (ae (gV 3) (ae (aH tx (ae (gV 0) (ae (ao aL (gV 3) (gV 2)) az))) az))))) cQ [.ro (.int P),.ro (.lst (left.map aq)),.ro (.int p),.ro (aq r)] = .ok (.rt (aq (gS P r a))):=by
       have bz:(!(vec r p==0))=true:=by simp[hz]
       refine oq ?_ (cR ?_)
       ·simp only[jv]
        walk_at "evs"
        simp only[va]
        walk_at "evs"
        rw[bz]
       ·simp only[jv] at et ⊢
        walk_at "evs"
        simp only[va]
        walk_at "evs"
        simp only[ea]
        walk_at "evs"
        simp only[et]
      rw[e]
  rcases loop left .no (λr h=>h) with ⟨x',q1,q2⟩ | ⟨r0,a,q1,q2,q3⟩
  ·refine .inl ⟨?_,q2⟩
   exact ye (ds:=left.map aq) (by walk_at "evs") q1 (cR (by walk_at "evs"))
  ·refine .inr ⟨r0,a,q1,q2,tj (L4 (ds:=left.map aq) (by walk_at "evs") q3)⟩
 rcases key with ⟨q1,q2⟩ | ⟨r0,a,q1,q2,q3⟩
 ·exact .inl ⟨c8 rfl q1,q2⟩
 ·exact .inr ⟨r0,a,q1,q2,c8 rfl q3⟩
theorem lT(l:List (List Int)):D.bI (l.map aq)=true:=yk l
theorem W5{P:Int}{w:Nat}{rows:List (List Int)}(hp:fx P=false)(p1:3<=P)(p2:P<=9973)(a8:rows≠[])(hr:∀r∈rows,r.length=w)(hw:w<=100)(hn:rows.length<=100) :
 ∃S,M9 [.int P,.lst (rows.map aq)] = .ok (S.map aq)/\iZ P w rows S:=by
 obtain⟨r0,rest,rfl⟩:∃r0 rest,rows=r0::rest:=by
  cases rows with
  | nil=>exact absurd rfl a8
  | cons a b=>exact⟨a,b,rfl⟩
 generalize hR:r0::rest=rows at *
 have rq:bX (rows.map aq) 0=some (aq r0):=by rw[<-hR];exact mK 0
 have l0:r0.length=w:=hr r0 (by rw[<-hR];exact bB)
 suffices h:∃S,Fh [.ro (.int P),.ro (.lst (rows.map aq)),.no,.no,.no,.no] = .ok (.dJ (S.map aq))/\iZ P w rows S by
  obtain⟨S,e,q⟩:=h
  exact⟨S,ot rfl e,q⟩
 unfold Fh
 have nr:=lT rows
 have lr:(rows.map aq).length<=100000:=by rw[bu];lia
 rw[fw (ds:=(rows.map λr=>gS P r 1).map aq) (by
  walk_at "evs"
  rw[mL (h:=λr=>aq (gS P r 1)),vG]
  intro r lU
  have et:=Na (P:=P) (c:=1) (r:=r) (by lia) (qX (by lia)) (by have:=hr r lU;lia)
  have:=z0n (gS P r 1)
  walk_at "evs"
  simp only[et]
  walk_at "evs") rfl]
 rw[fw (ds:=[]) (by walk_at "evs") rfl]
 refine MG (ds:=fq 0 w) (λr=>∃S:List (List Int),r = .ok (.dJ (S.map aq))/\iZ P w rows S) (λj Γ=>∃(left steps:List (List Int)) (x4 x5:En),Γ=[.ro (.int P),.ro (.lst (rows.map aq)),.own (left.map aq),.own (steps.map aq),x4,x5]/\oA P w j rows left steps/\left.length<=100/\steps.length<=j) ?_ ⟨_,[],_,_,rfl,WX (by lia) hr,by rw[bu];exact hn,a7 _⟩ ?_ ?_
 ·walk_at "evs"
  simp only[rq]
  simp only[jv]
  walk_at "evs"
  rw[l0]
  walk_at "evs"
 ·rintro j d Γ hd ⟨left,steps,x4,x5,rfl,gn,ll,ls⟩
  obtain⟨hj,rfl⟩:=yr hd
  have nl:=lT left
  have ns:=lT steps
  have hll:(left.map aq).length<=100000:=by rw[bu];lia
  have hls:(steps.map aq).length<=100000:=by rw[bu];lia
  have z0:(0:Int)+(j:Int)=(j:Int):=by lia
  rw[z0]
  rcases W3 (P:=P) (left:=left) (p:=j) (w:=w) hp p1 p2 (λr lU=>⟨(gn.kR r lU).1,(gn.kR r lU).2.1⟩) hj (by lia) with ⟨e,hz⟩ | ⟨r1,a,h0,ha,e⟩
  ·refine .nx (cE (d:=.b_) (by walk_at "evs";simp only[e];walk_at "evs") (tp (by walk_at "evs"))) ⟨left,steps,_,_,rfl,gn.skip hz,ll,by lia⟩
  ·have g2:=gn.turn (by lia) hj h0 ha rfl
   have tl:(gS P r1 a).length=w:=by rw[Fe];exact(gn.kR r1 h0).1
   have nt:=z0n (gS P r1 a)
   have cl:∀r:List Int,r.length=w->bJ P r->BD [.int P,aq r,aq (gS P r1 a),.int j] = .ok (aq (dX P r (gS P r1 a) j)):=λr h1 h2=>W2 (by lia) (by lia) h2 (by lia) (by lia) (by lia)
   generalize gS P r1 a=l at e g2 tl nt cl
   refine .nx (cE (d:=aq l) (by walk_at "evs";simp only[e];walk_at "evs") (oq (by simp only[jv];walk_at "evs") (fw (ds:=(left.map λr=>dX P r l j).map aq) ?_ (fw (ds:=(steps.map λr=>dX P r l j).map aq) ?_ ((rh (d:=aq l) rfl (by walk_at "evs") (by rw[bu,bu];lia)).trans rfl))))) ⟨_,(steps.map λr=>dX P r l j)++[l],_,_,by rw[lx];rfl,g2,by rw[bu];exact ll,by rw[fD,bu,xc];lia⟩
   ·walk_at "evs"
    rw[mL (h:=λr=>aq (dX P r l j)),vG]
    intro r lU
    have ec:=cl r (gn.kR r lU).1 (gn.kR r lU).2.1
    have:=z0n (dX P r l j)
    walk_at "evs"
    simp only[ec]
    walk_at "evs"
   ·walk_at "evs"
    rw[mL (h:=λr=>aq (dX P r l j)),vG]
    intro r lU
    have ec:=cl r (gn.step r lU).1 (gn.step r lU).2.1
    have:=z0n (dX P r l j)
    walk_at "evs"
    simp only[ec]
    walk_at "evs"
 ·rintro Γ ⟨left,steps,x4,x5,rfl,gn,ll,ls⟩
  rw[oo] at gn
  exact⟨steps,EJ rfl,gn.end⟩
def bC(rows:List (List Int))(k:Nat):List Int:=(rows[k]?).getD []
def eC(rows:List (List Int))(c:Nat->Int)(i:Nat):Int:=aJ (λk=>c k*vec (bC rows k) i) rows.length
def dY(rows:List (List Int)):List (List Int):=(bK rows.length).map λk=>bC rows k++eX rows.length k
section
variable {P:Int}{w:Nat}{rows:List (List Int)}
theorem ku{k:Nat}(h:k<rows.length):bC rows k∈rows:=by
 unfold bC;rw[cf h];exact mw h
theorem Fm{k i:Nat}(hr:∀r∈rows,r.length=w)(hk:k<rows.length)(hi:i<w):vec (bC rows k++eX rows.length k) i=vec (bC rows k) i:=by
 unfold vec
 rw[sy (by rw[hr _ (ku hk)];exact hi)]
theorem Fo{k j:Nat}(hr:∀r∈rows,r.length=w)(hk:k<rows.length)(hj:j<rows.length):vec (bC rows k++eX rows.length k) (w+j)=if j=k then 1 else 0:=by
 have hl:=hr _ (ku hk)
 unfold vec
 rw[su (by lia),hl,show w+j-w=j by lia]
 exact vE hj
theorem W6(c d:Nat->Int)(i:Nat):eC rows (λk=>c k+d k) i=eC rows c i+eC rows d i:=by
 unfold eC
 rw[<-vz]
 exact eW λk _=>Sa _ _ _
theorem W7(a:Int)(c:Nat->Int)(i:Nat):eC rows (λk=>a*c k) i=a*eC rows c i:=by
 unfold eC
 rw[<-tq]
 exact eW λk _=>e_ _ _ _
theorem Fp{c d:Nat->Int}(h:∀k,k<rows.length->cg P (c k) (d k))(i:Nat):cg P (eC rows c i) (eC rows d i):=cg.aJ λk hk=>(h k hk).mul cg.refl
theorem W8{j:Nat}(hj:j<rows.length)(i:Nat):eC rows (λk=>if k=j then 1 else 0) i=vec (bC rows j) i:=by
 unfold eC
 rw[tu hj λk _ hk=>by show(if k=j then (1:Int) else 0)*_=0;rw[if_neg hk,mx]]
 show(if j=j then (1:Int) else 0)*_=_
 rw[if_pos rfl,nP]
theorem Nd{v:Nat->Int}(hr:∀r∈rows,r.length=w)(h:Span P (dY rows) v):∀i,i<w->cg P (v i) (eC rows (λk=>v (w+k)) i):=by
 induction h with
 | zero z =>
   intro i hi
   refine(z i).trans (cg.symm ?_)
   have:cg P (eC rows (λk=>_) i) (eC rows (λ_=>0) i):=Fp (d:=λ_=>0) (λk _=>z (w+k)) i
   refine this.trans (cg.of_eq ?_)
   unfold eC
   exact tw λk _=>mx _
 | @add u v' c r hm hu q ih =>
   intro i hi
   obtain⟨j,hj,rfl⟩:=List.mem_map.mp hm
   have rA:=List.mem_range.mp hj
   have e1:cg P (eC rows (λk=>v' (w+k)) i) (eC rows (λk=>u (w+k)+c*(if k=j then 1 else 0)) i):=Fp (λk hk=>by
    have:=q (w+k)
    rw[Fo hr rA hk] at this
    exact this) i
   rw[W6,W7,W8 rA] at e1
   refine(q i).trans (((ih i hi).add ?_).trans e1.symm)
   rw[Fm hr rA hi]
   exact cg.refl
theorem Fq{S:List (List Int)}(c:Nat->Int):∀n,n<=S.length->Span P S (λi=>aJ (λk=>c k*vec (bC S k) i) n)
 | 0,_=>.zero λ_=>cg.refl
 | n+1,h=>.add (c:=c n) (ku (by lia)) (Fq c n (by lia)) λi=>cg.refl
theorem Nf{S:List (List Int)}(a:List Int->Int):∀l:List (List Int),(∀r∈l,r∈S)->Span P S (λi=>(l.map λr=>a r*vec r i).sum)
 | [],_=>.zero λ_=>cg.refl
 | r::l,h=>.add (c:=a r) (h r bB) (Nf a l λb hb=>h b (bL _ hb)) λi=>cg.of_eq (by simp only[cJ,sD];lia)
theorem Ng{f:List Int->Int}{q:List Int->Bool}:∀{l:List (List Int)},(∀r∈l,q r=false->cg P (f r) 0)->cg P (l.map f).sum ((l.filter q).map f).sum
 | [],_=>cg.refl
 | r::l,h=>by
   have ih:=Ng (l:=l) λb hb=>h b (bL _ hb)
   rw[cJ,sD]
   cases e:q r with
   | true=>rw[JZ e,cJ,sD];exact cg.refl.add ih
   | false =>
     rw[J2 (by rw[e];exact qw)]
     have:=(h r bB e).add ih
     rw[mr] at this
     exact this
theorem vP(r:List Int)(w k:Nat):vec (r.drop w) k=vec r (w+k):=by unfold vec;rw[List.getElem?_drop]
theorem W9{S:List (List Int)}{v:Nat->Int}(h:Span P S v):Span P (S.map λr=>r.drop w) (λk=>v (w+k)):=by
 induction h with
 | zero z=>exact .zero λk=>z (w+k)
 | @add u v' c r hm hu q ih=>exact .add (c:=c) (List.mem_map.mpr ⟨r,hm,rfl⟩) ih λk=>by rw[vP];exact q (w+k)
theorem Fs{r:List Int}(h:w<=aR r)(hl:aR r<r.length):aR (r.drop w)=aR r-w:=by
 refine BA (λi hi=>?_) ?_
 ·rw[vP];exact mT (by lia)
 ·rw[vP,show w+(aR r-w)=aR r by lia];exact Bz hl
structure Nh (P:Int) (rows T:List (List Int)):Prop where
 steps:oz P rows.length T
 idle:∀t∈T,∀i,cg P (eC rows (vec t) i) 0
 all:∀c:Nat->Int,(∀i,cg P (eC rows c i) 0)->Span P T (λk=>if k<rows.length then c k else 0)
def yB(w:Nat)(S:List (List Int)):List (List Int):=(S.filter λr=>decide (w<=aR r)).map λr=>r.drop w
theorem W_{S:List (List Int)}(hr:∀r∈rows,r.length=w)(hS:iZ P (w+rows.length) (dY rows) S):Nh P rows (yB w S):=by
 have tL:=hS.steps.row
 refine⟨⟨λt ht=>?_,?_⟩,λt ht i=>?_,λc hc=>?_⟩
 ·obtain⟨r,bQ,rfl⟩:=List.mem_map.mp ht
  obtain⟨hm,hd⟩:=List.mem_filter.mp bQ
  have hd:=of_decide_eq_true hd
  obtain⟨h1,h2,h3,h4⟩:=tL r hm
  have el:=Fs hd (by lia)
  refine⟨by rw[wX];lia,λn hn=>h2 n (a5l hn),by rw[el];lia,?_⟩
  rw[el,vP,show w+(aR r-w)=aR r by lia];exact h4
 ·refine List.pairwise_map.mpr ((hS.steps.pair.sublist a5v).imp_of_mem λ{r r'} hm rB q=>?_)
  obtain⟨m1,d1⟩:=List.mem_filter.mp hm
  obtain⟨m2,d2⟩:=List.mem_filter.mp rB
  have d1:=of_decide_eq_true d1
  have d2:=of_decide_eq_true d2
  have e1:=Fs d1 (by have:=tL r m1;lia)
  have e2:=Fs d2 (by have:=tL r' m2;lia)
  rw[e1,e2,vP,show w+(aR r'-w)=aR r' by lia]
  exact⟨by lia,q.2⟩
 ·obtain⟨r,bQ,rfl⟩:=List.mem_map.mp ht
  obtain⟨hm,hd⟩:=List.mem_filter.mp bQ
  have hd:=of_decide_eq_true hd
  have sp:=hS.lR r hm
  rcases cG i w with z | z
  ·have:=Nd hr sp i z
   rw[mT (by lia)] at this
   have e:eC rows (vec (r.drop w)) i=eC rows (λk=>vec r (w+k)) i:=by unfold eC;exact eW λk _=>by rw[vP]
   rw[e]
   exact this.symm
  ·refine cg.of_eq ?_
   unfold eC
   refine tw λk hk=>?_
   rw[show vec (bC rows k) i=0 by unfold vec;rw[fK (by rw[hr _ (ku hk)];exact z)];rfl,kd]
 ·have lm:(dY rows).length=rows.length:=by unfold dY;simp
  have sp:Span P (dY rows) (λi=>if i<w then 0 else if i-w<rows.length then c (i-w) else 0):=by
   refine(Fq (S:=dY rows) c rows.length (by lia)).iI λi=>?_
   have ra:∀k,k<rows.length->bC (dY rows) k=bC rows k++eX rows.length k:=λk hk=>by
    unfold dY bC
    rw[cm,oW hk]
    rfl
   rcases cG i w with z | z
   ·rw[if_pos z]
    refine cg.symm ?_
    rw[eW (g:=λk=>c k*vec (bC rows k) i) λk hk=>by rw[ra k hk,Fm hr hk z]]
    exact hc i
   ·rw[if_neg (by lia)]
    by_cases hk:i-w<rows.length
    ·rw[if_pos hk,eW (g:=λk=>c k*(if i-w=k then 1 else 0)) λk b9=>by
      rw[ra k b9,show i=w+(i-w) by lia,Fo hr b9 hk,show w+(i-w)-w=i-w by lia]]
     rw[tu hk λk _ a8=>by rw[if_neg (gJ a8),kd],if_pos rfl,lq]
     exact cg.refl
    ·rw[if_neg hk]
     refine cg.of_eq (Eq.symm (tw λk b9=>?_))
     rw[ra k b9]
     have:vec (bC rows k++eX rows.length k) i=0:=by
      unfold vec
      rw[fK (by rw[fD,vD,hr _ (ku b9)];lia)];rfl
     rw[this,kd]
  have s1:=hS.span sp
  have s2:Span P (S.filter λr=>decide (w<=aR r)) (λi=>if i<w then 0 else if i-w<rows.length then c (i-w) else 0):=by
   refine(Nf (S:=S.filter λr=>decide (w<=aR r)) (λr=>(λi=>if i<w then 0 else if i-w<rows.length then c (i-w) else 0) (aR r)) (S.filter λr=>decide (w<=aR r)) λr h=>h).iI λi=>?_
   refine(BB hS.steps s1 i).trans (Ng λr _ hq=>?_)
   have hq:=of_decide_eq_false hq
   show cg P ((if aR r<w then 0 else _)*_) 0
   rw[if_pos (by lia),mx]
   exact cg.refl
  refine(W9 (w:=w) s2).iI λk=>cg.of_eq ?_
  have e:(if w+k<w then (0:Int) else if w+k-w<rows.length then c (w+k-w) else 0)=if k<rows.length then c k else 0:=by
   rw[if_neg (show ¬w+k<w by lia),show w+k-w=k by lia]
  exact e.symm
end
theorem Ft:∀(rows:List (List Int)) (k:Nat),dS k (rows.map aq)=(bK rows.length).map λi=>.tup [.int ((k+i:Nat):Int),aq (bC rows i)]
 | [],_=>rfl
 | r::rows,k=>by
   rw[cJ,dS,Ft rows (k+1),de,JT,cJ,ka]
   congr 1
   refine uL λi _=>?_
   show D.tup [.int ((k+1+i:Nat):Int),aq (bC rows i)] = .tup [.int ((k+(i+1):Nat):Int),aq (bC (r::rows) (i+1))]
   rw[show k+1+i=k+(i+1) by lia]
   rfl
theorem Xa{r:List Int}{w:Nat}(hw:w<=r.length):((r.take w).any λn=>n != 0)=!decide (w<=aR r):=by
 by_cases h:w<=aR r
 ·rw[decide_eq_true h]
  refine List.any_eq_false.mpr λx hx=>?_
  obtain⟨i,hi⟩:=J3 hx
  have a_:=(List.getElem?_eq_some_iff.mp hi).1
  rw[mj] at a_
  rw[JJ (by lia)] at hi
  have:=mT (r:=r) (i:=i) (by lia)
  unfold vec at this
  rw[hi] at this
  have:x=0:=this
  simp[this]
 ·rw[decide_eq_false h]
  have hl:aR r<r.length:=by lia
  refine List.any_eq_true.mpr ⟨r[aR r],?_,?_⟩
  ·refine fV (i:=aR r) ?_
   rw[JJ (by lia)];exact cf hl
  ·have:=Bz hl
   unfold vec at this
   rw[cf hl] at this
   have:r[aR r]≠0:=this
   simpa using this
theorem Ni{α:Type}{f:D->R (Option D)}{k h:α->D}{q:α->Bool}{l:List α}(hq:∀x∈l,f (k x) = .ok (if q x=true then some (h x) else none)):cD f (l.map k) [] = .ok ((l.filter q).map h):=by
 suffices H:∀(l:List α) (acc:List D),(∀x∈l,f (k x) = .ok (if q x=true then some (h x) else none))->cD f (l.map k) acc = .ok (acc++(l.filter q).map h) by
  have:=H l [] hq;simpa using this
 intro l
 induction l with
 | nil=>intro acc _;simp[cD]
 | cons x l ih =>
   intro acc hx
   rw[cJ]
   unfold cD
   rw[hx x bB]
   cases e:q x with
   | true =>
     simp only[if_true]
     rw[ih _ λy hy=>hx y (bL _ hy),JZ e]
     simp
   | false =>
     simp only[gM,if_false]
     rw[ih _ λy hy=>hx y (bL _ hy),J2 (by rw[e];exact qw)]
theorem Xb{P:Int}{w:Nat}{rows:List (List Int)}(hp:fx P=false)(p1:3<=P)(p2:P<=9973)(a8:rows≠[])(hr:∀r∈rows,r.length=w)(hw:w<=50)(hn:rows.length<=50) :
 ∃S,iZ P (w+rows.length) (dY rows) S/\WY [.int P,.lst (rows.map aq)] = .ok ((yB w S).map aq):=by
 obtain⟨r0,rest,e0⟩:∃r0 rest,rows=r0::rest:=by
  cases rows with
  | nil=>exact absurd rfl a8
  | cons a b=>exact⟨a,b,rfl⟩
 have rq:bX (rows.map aq) 0=some (aq r0):=by rw[e0];exact mK 0
 have l0:r0.length=w:=hr r0 (by rw[e0];exact bB)
 have lm:(dY rows).length=rows.length:=by unfold dY;simp
 have hm:∀r∈dY rows,r.length=w+rows.length:=λr bQ=>by
  obtain⟨k,hk,rfl⟩:=List.mem_map.mp bQ
  rw[fD,vD,hr _ (ku (List.mem_range.mp hk))]
 obtain⟨S,eS,hS⟩:=W5 (P:=P) (rows:=dY rows) hp p1 p2 (by intro z;rw[z] at lm;have:=congrArg JI e0;simp at this lm;lia) hm (by lia) (by lia)
 refine⟨S,hS,ot rfl ?_⟩
 unfold M_
 have nr:=lT rows
 have nS:=lT S
 refine cE (d:=.int w) (by
  walk_at "evs"
  simp only[rq]
  simp only[jv]
  walk_at "evs"
  rw[l0]) ?_
 refine fw (ds:=(dY rows).map aq) ?_ ?_
 ·walk_at "evs"
  have le:(dS 0 (rows.map aq)).length<=100000:=by rw[Ft,bu,Dh];lia
  walk_at "evs"
  rw[Ft,mL (h:=λk=>aq (bC rows k++eX rows.length k)),vG]
  ·rfl
  ·intro k hk
   have hk:=List.mem_range.mp hk
   have eo:=vH (n:=rows.length) (x:=k) (by lia)
   have lk:=hr _ (ku hk)
   have nn:=z0n (bC rows k++eX rows.length k)
   have ul:=vD rows.length k
   have em:(bC rows k).map D.int++(eX rows.length k).map D.int=(bC rows k++eX rows.length k).map D.int:=by rw[lx]
   simp only[jv] at eo nn ⊢
   rw[show 0+k=k by lia]
   walk_at "evs"
   simp only[eo]
   walk_at "evs"
   rw[em]
   walk_at "evs"
 ·have lS:S.length<=100000:=by
   have Xc:(S.map aR).Pairwise (·<·):=List.pairwise_map.mpr (hS.steps.pair.imp λq=>q.1)
   have:∀(l:List Nat) (b:Nat),l.Pairwise (·<·)->(∀x∈l,b<=x/\x<w+rows.length)->b<=w+rows.length->l.length+b<=w+rows.length:=by
    intro l
    induction l with
    | nil=>intro b _ _ hb;simpa using hb
    | cons x l ih =>
      intro b Nc hx hb
      obtain⟨h1,h2⟩:=List.pairwise_cons.mp Nc
      have Xd:=hx x bB
      have:=ih (x+1) h2 (λy hy=>⟨h1 y hy,(hx y (bL _ hy)).2⟩) (by lia)
      rw[de];lia
   have:=this (S.map aR) 0 Xc (λx hx=>by
    obtain⟨r,bQ,rfl⟩:=List.mem_map.mp hx
    exact⟨iT _,(hS.steps.row r bQ).2.2.1⟩) (iT _)
   rw[bu] at this
   lia
  refine Bq ?_
  have hSl:(S.map aq).length<=100000:=by rw[bu];exact lS
  walk_at "evs"
  simp only[eS]
  walk_at "evs"
  rw[Ni (q:=λr=>decide (w<=aR r)) (h:=λr=>aq (r.drop w))]
  ·unfold yB
   rw[vG]
  ·intro r bQ
   have lr:=(hS.steps.row r bQ).1
   have ah:=Xa (r:=r) (w:=w) (by lia)
   have nd:=z0n (r.drop w)
   simp only[jv] at nd ⊢
   rw[Dn] at nd ⊢
   walk_at "evs"
   rw[Eu,Et,<-Dp]
   walk_at "evs"
   rw[ah]
   cases hd:decide (w<=aR r) with
   | true=>walk_at "evs"
   | false=>walk_at "evs"
section
variable {P c:Int}{r l:List Int}{w:Nat}
end
section
variable {P:Int}{w:Nat}{rows:List (List Int)}
end
noncomputable section
end
def f6(i0 i:Nat):Nat:=if i<i0 then i else i+1
theorem Nj(f:Nat->Int):∀{n i0:Nat},i0<=n->aJ f (n+1)=f i0+aJ (λi=>f (f6 i0 i)) n
 | 0,i0,h=>by
   have:i0=0:=by lia
   subst this
   simp[aJ]
 | n+1,i0,h=>by
   by_cases e:i0=n+1
   ·subst e
    rw[eA,eW (f:=λi=>f (f6 (n+1) i)) (g:=f) λi hi=>by unfold f6;rw[if_pos hi]]
    lia
   ·rw[eA,Nj f (n:=n) (i0:=i0) (by lia),eA (λi=>f (f6 i0 i))]
    have:f6 i0 n=n+1:=by unfold f6;rw[if_neg (by lia)]
    rw[this]
    lia
theorem Xe{P a:Int}(hp:fx P=false)(p1:3<=P)(p2:P<=9973)(h:¬cg P a 0):∃b:Int,cg P (b*a) 1:=by
 have hm:a%P≠0:=λz=>h (by unfold cg;rw[z,qE])
 obtain⟨b,_,_,_,e⟩:=(E_ (n:=a) hp p1 p2).2 hm
 exact⟨b,by unfold cg;rw[e,jg (by lia) (by lia)]⟩
theorem BF{P:Int}(hp:fx P=false)(p1:3<=P)(p2:P<=9973):∀(m n:Nat) (A:Nat->Nat->Int),m<n->∃c:Nat->Int,(∃i,i<n/\¬cg P (c i) 0)/\∀j,j<m->cg P (aJ (λi=>c i*A i j) n) 0
 | 0,n,A,h=>⟨λ_=>1,⟨0,h,BC (by lia)⟩,λj hj=>by lia⟩
 | m+1,n,A,h=>by
   by_cases hz:∀i,i<n->cg P (A i m) 0
   ·obtain⟨c,h1,h2⟩:=BF hp p1 p2 m n A (by lia)
    refine⟨c,h1,λj hj=>?_⟩
    by_cases e:j=m
    ·subst e
     have:cg P (aJ (λi=>c i*A i j) n) (aJ (λ_=>0) n):=cg.aJ λi hi=>by
      have:=(cg.refl (P:=P) (a:=c i)).mul (hz i hi)
      rw[kd] at this;exact this
     rw[yf] at this
     exact this
    ·exact h2 j (by lia)
   ·obtain⟨i0,hi0,a8⟩:∃i0,i0<n/\¬cg P (A i0 m) 0:=Dm λq=>hz λi hi=>Dm λz=>q ⟨i,hi,z⟩
    obtain⟨b,hb⟩:=Xe hp p1 p2 a8
    obtain⟨n',rfl⟩:∃n',n=n'+1:=⟨n-1,by lia⟩
    obtain⟨c,⟨i1,vQ,rC⟩,h2⟩:=BF hp p1 p2 m n' (λi j=>A (f6 i0 i) j-A (f6 i0 i) m*(b*A i0 j)) (by lia)
    let S:Int:=aJ (λi=>c i*A (f6 i0 i) m) n'
    let d:Nat->Int:=λi=>if i=i0 then -(b*S) else if i<i0 then c i else c (i-1)
    have Nk:∀i,d (f6 i0 i)=c i:=λi=>by
     show(if f6 i0 i=i0 then _ else if f6 i0 i<i0 then _ else _)=_
     unfold f6
     by_cases q:i<i0
     ·rw[if_pos q,if_neg (by lia),if_pos q]
     ·rw[if_neg q,if_neg (by lia),if_neg (by lia),show i+1-1=i by lia]
    have d0:d i0 = -(b*S):=if_pos rfl
    refine⟨d,⟨f6 i0 i1,by unfold f6;split<;>lia,by rw[Nk];exact rC⟩,λj hj=>?_⟩
    rw[Nj _ (i0:=i0) (by lia),d0,eW (f:=λi=>d (f6 i0 i)*A (f6 i0 i) j) (g:=λi=>c i*A (f6 i0 i) j) λi _=>by rw[Nk]]
    by_cases e:j=m
    ·subst e
     show cg P (-(b*S)*A i0 j+S) 0
     have e1:-(b*S)*A i0 j+S=S-S*(b*A i0 j):=by
      rw[my,j_ b S,e_];lia
     rw[e1]
     have:=(cg.refl (P:=P) (a:=S)).sub ((cg.refl (a:=S)).mul hb)
     rw[lq,Int.sub_self] at this
     exact this
    ·have q:=h2 j (by lia)
     have e1:aJ (λi=>c i*(A (f6 i0 i) j-A (f6 i0 i) m*(b*A i0 j))) n'=aJ (λi=>c i*A (f6 i0 i) j) n'+(-(b*A i0 j))*S:=by
      show _=_+_*aJ (λi=>c i*A (f6 i0 i) m) n'
      rw[<-tq,<-vz]
      refine eW λi _=>?_
      rw[Int.mul_sub,<-e_,my,j_ (b*A i0 j)]
      lia
     rw[e1] at q
     refine(cg.of_eq ?_).trans q
     have:-(b*S)*A i0 j = -(b*A i0 j)*S:=by
      rw[my,my,e_,e_,j_ S]
     rw[this]
     lia
section
variable {P:Int}{w:Nat}{rows S:List (List Int)}
theorem Span.Nl{S:List (List Int)}(d:Nat->Int):Span P S (λi=>aJ (λk=>d k*vec (bC S k) i) S.length):=Fq d S.length (a7 _)
theorem Xf(hS:oz P w S){j k:Nat}(hj:j<S.length)(hk:k<S.length):vec (bC S k) (aR (bC S j))=if k=j then 1 else 0:=by
 by_cases e:k=j
 ·subst e;rw[if_pos rfl];exact(hS.row _ (ku hk)).2.2.2
 ·rw[if_neg e]
  refine Fc hS (ku hk) (ku hj) λz=>e ?_
  have ak:bC S k=S[k]:=by unfold bC;rw[cf hk];rfl
  have aj:bC S j=S[j]:=by unfold bC;rw[cf hj];rfl
  rw[ak,aj] at z
  have pw:=List.pairwise_iff_getElem.mp hS.pair
  rcases uN k j with q | q | q
  ·have:=(pw k j hk hj q).1;lia
  ·exact q
  ·have:=(pw j k hj hk q).1;lia
theorem Xg(hp:fx P=false)(p1:3<=P)(p2:P<=9973)(hr:∀r∈rows,r.length=w)(hS:iZ P (w+rows.length) (dY rows) S):S.length=rows.length:=by
 have lm:(dY rows).length=rows.length:=by unfold dY;simp
 have ra:∀k,k<rows.length->bC (dY rows) k=bC rows k++eX rows.length k:=λk hk=>by
  unfold dY bC
  rw[cm,oW hk]
  rfl
 have hi:∀(c:Nat->Int) (k:Nat),k<rows.length->aJ (λi=>c i*vec (bC (dY rows) i) (w+k)) rows.length=c k:=λc k hk=>by
  rw[eW (g:=λi=>c i*(if k=i then 1 else 0)) λi hi=>by rw[ra i hi,Fo hr hi hk]]
  rw[tu hk λi _ a8=>by rw[if_neg (gJ a8),kd],if_pos rfl,lq]
 rcases uN S.length rows.length with z | z | z
 ·exfalso
  obtain⟨c,⟨i,vQ,a8⟩,hc⟩:=BF hp p1 p2 S.length rows.length (λi j=>vec (bC (dY rows) i) (aR (bC S j))) z
  have sp:=hS.span (Span.Nl (P:=P) (S:=dY rows) c)
  rw[lm] at sp
  have zero:∀p,cg P (aJ (λk=>c k*vec (bC (dY rows) k) p) rows.length) 0:=λp=>by
   refine(BB hS.steps sp p).trans ?_
   have:cg P (comb S (λi=>aJ (λk=>c k*vec (bC (dY rows) k) i) rows.length) p) (S.map λ_=>(0:Int)).sum:=yx λr bQ=>by
    obtain⟨j,hj⟩:=J3 bQ
    have rA:=(List.getElem?_eq_some_iff.mp hj).1
    have er:bC S j=r:=by unfold bC;rw[hj];rfl
    have:=hc j rA
    rw[er] at this
    have:=this.mul (cg.refl (a:=vec r p))
    rw[mx] at this
    exact this
   rw[vO (f:=λ_:List Int=>(0:Int)) λ_ _=>rfl] at this
   exact this
  have:=zero (w+i)
  rw[hi c i vQ] at this
  exact a8 this
 ·exact z
 ·exfalso
  obtain⟨d,⟨j,hj,a8⟩,hd⟩:=BF hp p1 p2 rows.length S.length (λj k=>vec (bC S j) (w+k)) z
  have Xh:=Span.Nl (P:=P) (S:=S) d
  have Xi:Span P (dY rows) (λi=>aJ (λk=>d k*vec (bC S k) i) S.length):=Span.trans hS.lR Xh
  have Xj:∀i,i<w->cg P (aJ (λk=>d k*vec (bC S k) i) S.length) 0:=λi rD=>by
   refine(Nd hr Xi i rD).trans ?_
   have:cg P (eC rows (λk=>aJ (λm=>d m*vec (bC S m) (w+k)) S.length) i) (eC rows (λ_=>0) i):=Fp (λk hk=>hd k hk) i
   refine this.trans (cg.of_eq ?_)
   unfold eC
   exact tw λk _=>mx _
  have lj:=(hS.steps.row _ (ku hj)).2.2.1
  have ev:aJ (λk=>d k*vec (bC S k) (aR (bC S j))) S.length=d j:=by
   rw[eW (g:=λk=>d k*(if k=j then 1 else 0)) λk hk=>by rw[Xf hS.steps hj hk]]
   rw[tu hj λk _ Xk=>by rw[if_neg Xk,kd],if_pos rfl,lq]
  refine a8 ?_
  rw[<-ev]
  rcases cG (aR (bC S j)) w with q | q
  ·exact Xj _ q
  ·have:=hd (aR (bC S j)-w) (by lia)
   rw[show w+(aR (bC S j)-w)=aR (bC S j) by lia] at this
   exact this
def Fv(w:Nat)(S:List (List Int)):List (List Int):=(S.filter λr=>!decide (w<=aR r)).map λr=>r.take w
theorem tM(r:List Int)(w i:Nat):vec (r.take w) i=if i<w then vec r i else 0:=by
 unfold vec
 by_cases h:i<w
 ·rw[JJ h,if_pos h]
 ·rw[List.getElem?_take_eq_none (by lia),if_neg h];rfl
theorem Nm{v:Nat->Int}(h:Span P S v):Span P (S.map λr=>r.take w) (λi=>if i<w then v i else 0):=by
 induction h with
 | zero z =>
   refine .zero λi=>?_
   split
   ·exact z i
   ·exact cg.refl
 | @add u v' c r hm hu q ih =>
   refine .add (c:=c) (List.mem_map.mpr ⟨r,hm,rfl⟩) ih λi=>?_
   rw[tM]
   by_cases h:i<w
   ·rw[if_pos h,if_pos h,if_pos h];exact q i
   ·rw[if_neg h,if_neg h,if_neg h];exact cg.of_eq (by lia)
theorem Fw{r:List Int}(h:aR r<w)(hl:aR r<r.length):aR (r.take w)=aR r:=by
 refine BA (λi hi=>?_) ?_
 ·rw[tM];split
  ·exact mT hi
  ·rfl
 ·rw[tM,if_pos h];exact Bz hl
theorem Xl(hr:∀r∈rows,r.length=w)(hS:iZ P (w+rows.length) (dY rows) S):iZ P w rows (Fv w S):=by
 have tL:=hS.steps.row
 have low:∀r,(!decide (w<=aR r))=true->aR r<w:=λr h=>by
  have:decide (w<=aR r)=false:=by simpa using h
  have:=of_decide_eq_false this
  lia
 have tm:∀k,k<rows.length->(bC rows k++eX rows.length k).take w=bC rows k:=λk hk=>by
  rw[List.take_append_of_le_length (by rw[hr _ (ku hk)];exact a7 _),C9 (by rw[hr _ (ku hk)];exact a7 _)]
 refine⟨⟨λt ht=>?_,?_⟩,λt ht=>?_,λr bQ=>?_⟩
 ·obtain⟨r,bQ,rfl⟩:=List.mem_map.mp ht
  obtain⟨hm,hd⟩:=List.mem_filter.mp bQ
  obtain⟨h1,h2,h3,h4⟩:=tL r hm
  have hd:=low r hd
  have el:=Fw hd (by lia)
  refine⟨by rw[mj];lia,λn hn=>h2 n (Df hn),by rw[el];exact hd,?_⟩
  rw[el,tM,if_pos hd];exact h4
 ·refine List.pairwise_map.mpr ((hS.steps.pair.sublist a5v).imp_of_mem λ{r r'} hm rB q=>?_)
  obtain⟨m1,d1⟩:=List.mem_filter.mp hm
  obtain⟨m2,d2⟩:=List.mem_filter.mp rB
  have e1:=Fw (low r d1) (by have:=tL r m1;lia)
  have e2:=Fw (low r' d2) (by have:=tL r' m2;lia)
  rw[e1,e2,tM,if_pos (low r' d2)]
  exact q
 ·obtain⟨r,bQ,rfl⟩:=List.mem_map.mp ht
  obtain⟨hm,hd⟩:=List.mem_filter.mp bQ
  have sp:=Nm (w:=w) (hS.lR r hm)
  refine Span.trans (λq hq=>?_) (sp.iI λi=>by rw[tM];exact cg.refl)
  obtain⟨m,rB,rfl⟩:=List.mem_map.mp hq
  obtain⟨k,hk,rfl⟩:=List.mem_map.mp rB
  rw[tm k (List.mem_range.mp hk)]
  exact .rp (ku (List.mem_range.mp hk))
 ·obtain⟨k,hk⟩:=J3 bQ
  have b9:=(List.getElem?_eq_some_iff.mp hk).1
  have er:bC rows k=r:=by unfold bC;rw[hk];rfl
  have mm:bC rows k++eX rows.length k∈dY rows:=List.mem_map.mpr ⟨k,List.mem_range.mpr b9,rfl⟩
  have sp:=Nm (w:=w) (hS.all _ mm)
  refine Span.trans (λq hq=>?_) (sp.iI λi=>?_)
  ·obtain⟨s,hs,rfl⟩:=List.mem_map.mp hq
   by_cases hd:w<=aR s
   ·refine .zero λi=>cg.of_eq ?_
    rw[tM]
    split
    ·exact mT (by lia)
    ·rfl
   ·exact .rp (List.mem_map.mpr ⟨s,List.mem_filter.mpr ⟨hs,by simp[hd]⟩,rfl⟩)
  ·by_cases h:i<w
   ·rw[if_pos h,Fm hr b9 h,er];exact cg.refl
   ·rw[if_neg h]
    refine cg.of_eq ?_
    unfold vec
    rw[fK (by rw[hr r bQ];lia)];rfl
theorem Nn{α:Type}(q:α->Bool):∀l:List α,(l.filter q).length+(l.filter λa=>!q a).length=l.length
 | []=>rfl
 | a::l=>by
   have:=Nn q l
   cases e:q a with
   | true=>rw[JZ e,J2 (by simp[e])];simp;lia
   | false=>rw[J2 (by simp[e]),JZ (by simp[e])];simp;lia
theorem Xm(hp:fx P=false)(p1:3<=P)(p2:P<=9973)(hr:∀r∈rows,r.length=w)(hS:iZ P (w+rows.length) (dY rows) S){T:List (List Int)}(hT:iZ P w rows T):(yB w S).length+T.length=rows.length:=by
 have e:T=Fv w S:=hT.unique (by lia) (Xl hr hS)
 rw[e,<-Xg hp p1 p2 hr hS]
 unfold yB Fv
 rw[bu,bu]
 exact Nn (λr=>decide (w<=aR r)) S
end
section
variable {P:Int}{w:Nat}{rows S T:List (List Int)}
end
noncomputable section
def Fx:G->R Fl :=
 (aE (aX 1 (aG (gC (.int 2))))
 (aE (dh (gT (ao xT (ao cX (gV 1) (gV 1)) (gV 0))) (aE (cy (gT (ao eV (ao df (gV 0) (gV 1)) (gC (.int 0)))) (br (gV 1)) cQ)
 (aX 1 (aG (ao b7 (gV 1) (gC (.int 1)))))) 10000)
 (br (gV 0))))
def BG:List D->R D:=cn 1 2 Fx
end
end L3
namespace L3
open PySem
local macro_rules | `(tactic| walk_at "evs") => wkL " L3.z9d L3.z5h L3.z5g L3.s_on L3.z4p L3.z5j L3.z5x L3.z6a L3.z5s L3.z4s L3.z6b L3.z0n"
def i4(n q:Int):Prop:=(n=1/\q=1)∨(2<=q/\q<=n/\n%q=0/\∀e:Int,2<=e->e<q->n%e≠0)
theorem Xn{n b:Int}(hn:1<=n)(b1:2<=b)(b2:b<n)(hb:n%b=0):n=b*(n/b)/\2<=n/b/\n/b<n/\n%(n/b)=0:=by
 have e1:n=b*(n/b):=by have:=An n b;lia
 generalize hq:n/b=q at *
 have q0:0<q:=by
  rcases Dk 0 q with z | z | z
  ·exact z
  ·rw[<-z] at e1;simp at e1;lia
  ·have:b*q<0:=R_ (by lia) z
   lia
 have q1:q≠1:=λz=>by rw[z] at e1;lia
 have q2:2*q<=b*q:=JX b1 (by lia)
 exact⟨e1,by lia,by lia,by rw[e1];exact a5r b q⟩
theorem Xo{n d:Int}(h1:1<=n)(d1:2<=d)(hq:¬d*d<=n)(hd:∀e:Int,2<=e->e<d->n%e≠0):i4 n n:=by
 by_cases hn:n=1
 ·exact .inl ⟨hn,hn⟩
 refine .inr ⟨by lia,by lia,Int.emod_self,λe e1 e2 z=>?_⟩
 obtain⟨c1,c2,c3,c4⟩:=Xn h1 e1 e2 z
 have e3:d<=e:=by
  rcases Dl e d with w | w
  ·exact absurd z (hd e e1 w)
  ·exact w
 have e4:d<=n/e:=by
  rcases Dl (n/e) d with w | w
  ·exact absurd c4 (hd _ c2 w)
  ·exact w
 have:d*d<=e*(n/e):=kG e3 e4 (by lia) (by lia)
 lia
theorem Xp{n:Int}(h1:1<=n)(h2:n<=100000000):∀(k m:Nat) (Γ:G),m<k ->
 (∃d:Int,Γ=[.ro (.int n),.ro (.int d)]/\2<=d/\d<=10001/\(∀e:Int,2<=e->e<d->n%e≠0)/\(10001-d).toNat=m) ->
 (∃q,i4 n q/\dh (gT (ao xT (ao cX (gV 1) (gV 1)) (gV 0))) (aE (cy (gT (ao eV (ao df (gV 0) (gV 1)) (gC (.int 0)))) (br (gV 1)) cQ) (aX 1 (aG (ao b7 (gV 1) (gC (.int 1)))))) k Γ = .ok (.rt (.int q))) ∨
 (i4 n n/\∃x,dh (gT (ao xT (ao cX (gV 1) (gV 1)) (gV 0))) (aE (cy (gT (ao eV (ao df (gV 0) (gV 1)) (gC (.int 0)))) (br (gV 1)) cQ) (aX 1 (aG (ao b7 (gV 1) (gC (.int 1)))))) k Γ = .ok (.nx [.ro (.int n),x])):=by
 refine pB _ (λr=>(∃q,i4 n q/\r = .ok (.rt (.int q)))∨(i4 n n/\∃x,r = .ok (.nx [.ro (.int n),x]))) ?_
 rintro m Γ ⟨d,rfl,d1,d2,hd,hm⟩
 by_cases hq:d*d<=n
 ·have e1:decide (d*d<=n)=true:=decide_eq_true hq
  have d3:d<10001:=by
   rcases Dl d 10001 with z | z
   ·exact z
   ·have:10001*10001<=d*d:=kG z z (by lia) (by lia)
    lia
  refine .inr ⟨by walk_at "evs";simp only[e1],?_⟩
  by_cases hz:n%d=0
  ·have e2:(n%d==0)=true:=by simpa using hz
   have d5:2*d<=d*d:=JX d1 (by lia)
   refine .inr (.inr (.inl ⟨.int d,?_,.inl ⟨d,.inr ⟨d1,by lia,hz,hd⟩,rfl⟩⟩))
   refine tj (oq (by walk_at "evs";simp only[e2]) ?_)
   exact cR (by walk_at "evs")
  ·have e2:(n%d==0)=false:=by simpa using hz
   refine .inl ⟨[.ro (.int n),.ro (.int (d+1))],(10001-(d+1)).toNat,by lia,.inl ?_,d+1,rfl,by lia,by lia,λe z1 z2=>?_,rfl⟩
   ·refine mQ (by walk_at "evs";simp only[e2]) ?_
    refine gQ ?_
    walk_at "evs"
   ·by_cases ee:e=d
    ·rw[ee];exact hz
    ·exact hd e z1 (by lia)
 ·have e1:decide (d*d<=n)=false:=decide_eq_false hq
  exact .inl ⟨by walk_at "evs";simp only[e1],.inr ⟨Xo h1 d1 hq hd,_,rfl⟩⟩
theorem Xq{n:Int}(h1:1<=n)(h2:n<=100000000):∃q,i4 n q/\BG [.int n] = .ok (.int q):=by
 rcases Xp h1 h2 10000 (10001-2:Int).toNat [.ro (.int n),.ro (.int 2)] (by decide) ⟨2,rfl,by lia,by lia,λe z1 z2=>by lia,rfl⟩ with ⟨q,hl,e⟩ | ⟨hl,x,e⟩
 ·refine⟨q,hl,c8 rfl ?_⟩
  delta Fx
  refine cE (d:=.int 2) (by walk_at "evs") ?_
  exact tj e
 ·refine⟨n,hl,c8 rfl ?_⟩
  delta Fx
  refine cE (d:=.int 2) (by walk_at "evs") ?_
  exact dU e (cR (by walk_at "evs"))
theorem Np:∀{a b:List Int},a.Nodup->(∀x∈a,x∈b)->b.length<=a.length->a.Perm b
 | [],b,_,_,h=>by
   have:b=[]:=List.length_eq_zero_iff.mp (by simpa using h)
   rw[this]
 | x::a,b,hn,hs,h=>by
   obtain⟨n1,n2⟩:=List.nodup_cons.mp hn
   have hx:=hs x bB
   have p:=a5w hx
   have hl:(b.erase x).length<=a.length:=by rw[a5x hx];simp at h;lia
   refine(J4 x (Np n2 (λy hy=>?_) hl)).trans p.symm
   have ne:y≠x:=λz=>n1 (z ▸ hy)
   exact(a5y ne).mpr (hs y (bL _ hy))
def bx:List Int->Int
 | []=>1
 | x::l=>x*bx l
theorem Xr{a b:List Int}(h:a.Perm b):bx a=bx b:=by
 induction h with
 | nil=>rfl
 | cons x _ ih=>simp only[bx,ih]
 | swap x y l=>simp only[bx];rw[<-e_,<-e_,j_ y x]
 | trans _ _ h1 h2=>exact h1.trans h2
theorem Nq{P x:Int}:∀l:List Int,cg P (bx (l.map λi=>(x*i)%P)) (x^l.length*bx l)
 | []=>by simp only[wY,bx,uM];exact cg.of_eq (by rw[xk,nP])
 | i::l=>by
   simp only[cJ,bx,de]
   refine(kP.mul (Nq l)).trans (cg.of_eq ?_)
   rw[ly]
   have:x*i*(x^l.length*bx l)=x^l.length*x*(i*bx l):=by
    rw[j_ (x^l.length) x,e_,e_]
    congr 1
    rw[<-e_,<-e_,j_ i]
   exact this
section
variable {P:Int}
theorem BH(hp:fx P=false)(p1:3<=P)(p2:P<=9973){a:Int}(h:a%P≠0):∃b:Int,cg P (b*a) 1:=by
 obtain⟨b,_,_,_,e⟩:=(E_ (n:=a) hp p1 p2).2 h
 exact⟨b,by unfold cg;rw[e,jg (by lia) (by lia)]⟩
theorem Nr(hp:fx P=false)(p1:3<=P)(p2:P<=9973):∀l:List Int,(∀a∈l,a%P≠0)->∃b:Int,cg P (b*bx l) 1
 | [],_=>⟨1,cg.of_eq (by simp[bx])⟩
 | a::l,h=>by
   obtain⟨b,hb⟩:=BH hp p1 p2 (h a bB)
   obtain⟨c,hc⟩:=Nr hp p1 p2 l λx hx=>h x (bL _ hx)
   refine⟨b*c,(cg.of_eq ?_).trans ((hb.mul hc).trans (cg.of_eq (by simp)))⟩
   simp only[bx]
   rw[e_,e_]
   congr 1
   rw[<-e_,<-e_,j_ c]
theorem Xs(hp:fx P=false)(p1:3<=P)(p2:P<=9973){x:Int}(hx:x%P≠0):cg P (x^(P-1).toNat) 1:=by
 obtain⟨n,en⟩:∃n:Nat,P-1=(n:Int):=⟨(P-1).toNat,by lia⟩
 have ln:(P-1).toNat=n:=by lia
 let l:List Int:=(bK n).map λi:Nat=>(i:Int)+1
 have ll:l.length=n:=by simp[l]
 have ml:∀y:Int,y∈l↔1<=y/\y<P:=λy=>by
  simp only[l,uO,JU]
  constructor
  ·rintro⟨i,hi,rfl⟩;lia
  ·rintro⟨h1,h2⟩;exact⟨(y-1).toNat,by lia,by lia⟩
 have nl:l.Nodup:=by
  refine List.pairwise_map.mpr ((a5z (n:=n)).imp λ{a b} q z=>q (by lia))
 have nz:∀a∈l,a%P≠0:=λa ha=>by
  obtain⟨h1,h2⟩:=(ml a).mp ha
  rw[jg (by lia) h2];lia
 obtain⟨xi,Xu⟩:=BH hp p1 p2 hx
 have back:∀i:Int,cg P (xi*(x*i)) i:=λi=>by
  rw[<-e_]
  have:=Xu.mul (cg.refl (a:=i))
  rw[nP] at this;exact this
 have nm:(l.map λi=>(x*i)%P).Nodup:=by
  refine List.pairwise_map.mpr (nl.imp_of_mem λ{a b} ha hb q z=>q ?_)
  obtain⟨a1,a2⟩:=(ml a).mp ha
  obtain⟨b1,b2⟩:=(ml b).mp hb
  have h1:cg P (x*a) (x*b):=z
  have h2:=((back a).symm.trans ((cg.refl (a:=xi)).mul h1)).trans (back b)
  unfold cg at h2
  rw[jg (by lia) a2,jg (by lia) b2] at h2
  exact h2
 have sub:∀y∈l.map (λi=>(x*i)%P),y∈l:=λy hy=>by
  obtain⟨i,hi,rfl⟩:=List.mem_map.mp hy
  rw[ml]
  have h1:=JR (x*i) (show P≠0 by lia)
  have h2:=JS (x*i) (show 0<P by lia)
  refine⟨?_,h2⟩
  have:(x*i)%P≠0:=λz=>nz i hi (by
   have q:cg P (x*i) 0:=by unfold cg;rw[z,qE]
   have:=(back i).symm.trans ((cg.refl (a:=xi)).mul q)
   rw[kd] at this
   unfold cg at this;rw[this,qE])
  lia
 have pm:=Xr (Np nm sub (RF (bu (as:=l) _).symm))
 have h1:=Nq (P:=P) (x:=x) l
 rw[pm,ll] at h1
 obtain⟨b,hb⟩:=Nr hp p1 p2 l nz
 rw[ln]
 have h2:=(cg.refl (P:=P) (a:=b)).mul h1
 have e:b*(x^n*bx l)=x^n*(b*bx l):=by rw[<-e_,j_ b,e_]
 rw[e] at h2
 have h3:=(cg.refl (P:=P) (a:=x^n)).mul hb
 rw[lq] at h3
 exact h3.symm.trans (h2.symm.trans hb)
end
def jx(s:List Int):List Int:=s++[1]
theorem rE{s:List Int}{m:Nat}(h:s.length=m)(i:Nat):vec (jx s) i=if i<m then vec s i else if i=m then 1 else 0:=by
 unfold jx vec
 by_cases q:i<m
 ·rw[if_pos q,sy (by lia)]
 ·rw[if_neg q,su (by lia),h]
  by_cases q2:i=m
  ·rw[if_pos q2,q2,Dg];rfl
  ·rw[if_neg q2,fK (by simp;lia)];rfl
def au(P:Int)(m:Nat)(t:List (List Int))(s:List Int)(j:Nat):List Int:=bT P (bw P m t j) s
theorem BI{P:Int}{m:Nat}{t:List (List Int)}{s:List Int}(hs:s.length=m)(so:bJ P s):au P m t s 0=s:=vF hs so
theorem Nt{P:Int}{m:Nat}{t:List (List Int)}{s:List Int}(hp:1<P)(ht:b8 P m t)(hs:s.length=m)(j:Nat):au P m t s (j+1)=bT P t (au P m t s j):=by
 unfold au
 show bT P (dM P (bw P m t j) t) s=_
 rw[oy (iH hp ht j).1 hs]
theorem f7{P:Int}{m:Nat}{t:List (List Int)}{s:List Int}(hp:1<P)(ht:b8 P m t)(j:Nat):(au P m t s j).length=m:=by unfold au;rw[rm];exact(iH hp ht j).1
theorem pH{P:Int}{m:Nat}{t:List (List Int)}{s:List Int}(hp:0<P)(j:Nat):bJ P (au P m t s j):=EX hp _ _
def jy(t:List (List Int))(m:Nat)(v:Nat->Int)(i:Nat):Int:=if i<m then aJ (λk=>vec (bC t i) k*v k) (m+1) else if i=m then v m else 0
theorem Nu{P:Int}{m:Nat}{t:List (List Int)}{s:List Int}(ht:b8 P m t)(hs:s.length=m)(i:Nat):cg P (vec (jx (bT P t s)) i) (jy t m (vec (jx s)) i):=by
 have lt:(bT P t s).length=m:=by rw[rm];exact ht.1
 rw[rE lt]
 unfold jy
 by_cases q:i<m
 ·rw[if_pos q,if_pos q]
  have e:vec (bT P t s) i=cB (bC t i) s%P:=by
   unfold vec bT bC
   rw[cm,cf (by rw[ht.1];exact q)];rfl
  rw[e]
  refine kP.trans (cg.of_eq ?_)
  have e2:cB (bC t i) s=aJ (λk=>vec (bC t i) k*vec s k) m+vec (bC t i) m:=by rw[<-hs];rfl
  rw[e2,eA,rE hs m,if_neg (jb m),if_pos rfl,lq]
  congr 1
  exact eW λk hk=>by rw[rE hs k,if_pos hk]
 ·rw[if_neg q,if_neg q]
  by_cases q2:i=m
  ·rw[if_pos q2,if_pos q2,rE hs m,if_neg (jb m),if_pos rfl]
   exact cg.refl
  ·rw[if_neg q2,if_neg q2];exact cg.refl
theorem Nv{P:Int}{t:List (List Int)}{m:Nat}{u v:Nat->Int}(h:∀i,cg P (u i) (v i))(i:Nat):cg P (jy t m u i) (jy t m v i):=by
 unfold jy
 split
 ·exact cg.aJ λk _=>cg.refl.mul (h k)
 ·split
  ·exact h m
  ·exact cg.refl
theorem Xv(t:List (List Int))(m:Nat)(u v:Nat->Int)(c:Int)(i:Nat):jy t m (λk=>u k+c*v k) i=jy t m u i+c*jy t m v i:=by
 unfold jy
 split
 ·rw[<-tq,<-vz]
  exact eW λk _=>by grind
 ·split
  ·rfl
  ·lia
theorem Xw{P:Int}(t:List (List Int))(m:Nat){v:Nat->Int}(h:∀i,cg P (v i) 0)(i:Nat):cg P (jy t m v i) 0:=by
 refine(Nv (v:=λ_=>0) h i).trans (cg.of_eq ?_)
 unfold jy
 split
 ·exact tw λk _=>kd _
 ·split<;>rfl
def vR(P:Int)(rows:List (List Int)):Prop:=∀c:Nat->Int,(∀i,cg P (eC rows c i) 0)->∀k,k<rows.length->cg P (c k) 0
theorem vR.nil(P:Int):vR P []:=λc _ k hk=>by simp at hk
theorem vR.idle{P:Int}{rows T:List (List Int)}(hp:1<P)(h:vR P rows)(hT:Nh P rows T):T=[]:=by
 cases T with
 | nil=>rfl
 | cons c r =>
   exfalso
   obtain⟨_,_,ll,l1⟩:=hT.steps.row c bB
   have:=h (vec c) (hT.idle c bB) _ ll
   rw[l1] at this
   exact BC hp this
theorem vR.count{P:Int}{w:Nat}{rows R0:List (List Int)}(hD:fx P=false)(p1:3<=P)(p2:P<=9973)(a8:rows≠[])(hr:∀r∈rows,r.length=w)(hw:w<=50)(hn:rows.length<=50)(h:vR P rows)(hR:iZ P w rows R0):R0.length=rows.length:=by
 obtain⟨S,hS,_⟩:=Xb (P:=P) (w:=w) (rows:=rows) hD p1 p2 a8 hr hw hn
 have e:=h.idle (by lia) (W_ hr hS)
 have cnt:=Xm hD p1 p2 hr hS hR
 rw[e,uM,fE] at cnt
 exact cnt
end L3
namespace L3
open PySem
open Lean.Grind
section
variable {A:Type}[CommRing A]
def nC(n:Nat):A:=Semiring.natCast.natCast n
def iC(n:Int):A:=Ring.intCast.intCast n
theorem Xx(m n:Nat):nC (A:=A) (m+n)=nC m+nC n:=Semiring.natCast_add m n
theorem Xy(m n:Nat):nC (A:=A) (m*n)=nC m*nC n:=Semiring.natCast_mul m n
theorem Xz:nC (A:=A) 0=0:=Semiring.natCast_zero
theorem Nw:nC (A:=A) 1=1:=Semiring.natCast_one
theorem Nx(m n:Int):iC (A:=A) (m-n)=iC m-iC n:=Ring.intCast_sub m n
theorem Fy(m n:Int):iC (A:=A) (m*n)=iC m*iC n:=Ring.intCast_mul m n
theorem vS:iC (A:=A) 1=1:=Ring.intCast_one
theorem XA(n:Nat):iC (A:=A) (n:Int)=nC n:=Ring.intCast_natCast n
structure bY (p:Nat) (I:A->Prop):Prop where
 zero:I 0
 add:∀{a b:A},I a->I b->I (a+b)
 mul:∀{a:A} (r:A),I a->I (r*a)
 Fz:I (nC p)
variable {p:Nat}{I:A->Prop}
theorem bY.eq(H:bY p I){a b:A}(h:a=b):I (a-b):=by rw[h,show b-b=0 by grind];exact H.zero
theorem bY.of(_:bY p I){a b:A}(h:I a)(e:a=b):I b:=e ▸ h
theorem bY.neg(H:bY p I){a:A}(h:I a):I (-a):=H.of (H.mul (-1) h) (by grind)
theorem bY.sub(H:bY p I){a b:A}(h:I a)(h':I b):I (a-b):=H.of (H.add h (H.neg h')) (by grind)
theorem bY.symm(H:bY p I){a b:A}(h:I (a-b)):I (b-a):=H.of (H.neg h) (by grind)
theorem bY.trans(H:bY p I){a b c:A}(h:I (a-b))(h':I (b-c)):I (a-c):=H.of (H.add h h') (by grind)
theorem bY.iI(H:bY p I){a b:A}(h:I (a-b))(hb:I b):I a:=H.of (H.add h hb) (by grind)
theorem bY.Ny(H:bY p I){a b c d:A}(h:I (a-b))(h':I (c-d)):I (a*c-b*d):=H.of (H.add (H.mul c h) (H.mul b h')) (by grind)
theorem bY.pow(H:bY p I){a b:A}(h:I (a-b)):∀n:Nat,I (a^n-b^n)
 | 0=>H.eq (by rw[Semiring.pow_zero,Semiring.pow_zero])
 | n+1=>by rw[Semiring.pow_succ,Semiring.pow_succ];exact H.Ny (H.pow h n) h
theorem bY.XB(H:bY p I){a:A}(h:I a){n:Nat}(hn:1<=n):I (a^n):=by
 obtain⟨k,rfl⟩:∃k,n=k+1:=⟨n-1,by lia⟩
 rw[Semiring.pow_succ];exact H.mul _ h
theorem pI(a:A)(m:Nat):∀n:Nat,a^(m+n)=a^m*a^n
 | 0=>by rw[Semiring.pow_zero,nO];grind
 | n+1=>by rw[<-R7,Semiring.pow_succ,pI a m n,Semiring.pow_succ];grind
theorem rF(a:A)(m:Nat):∀n:Nat,a^(m*n)=(a^m)^n
 | 0=>by rw[Sd,Semiring.pow_zero,Semiring.pow_zero]
 | n+1=>by rw[Nat.mul_succ,pI,rF a m n,Semiring.pow_succ]
theorem BJ(a b:A):∀n:Nat,(a*b)^n=a^n*b^n
 | 0=>by rw[Semiring.pow_zero,Semiring.pow_zero,Semiring.pow_zero];grind
 | n+1=>by rw[Semiring.pow_succ,BJ a b n,Semiring.pow_succ,Semiring.pow_succ];grind
theorem Nz:∀n:Nat,(1:A)^n=1
 | 0=>Semiring.pow_zero 1
 | n+1=>by rw[Semiring.pow_succ,Nz n];grind
def ch:Nat->Nat->Nat
 | _,0=>1
 | 0,_+1=>0
 | n+1,k+1=>ch n k+ch n (k+1)
theorem BK(n:Nat):ch n 0=1:=by cases n<;>rfl
theorem vT:∀(n k:Nat),n<k->ch n k=0
 | n,0,h=>absurd h (jK _)
 | 0,k+1,_=>rfl
 | n+1,k+1,h=>by rw[ch,vT n k (by lia),vT n (k+1) (by lia)]
theorem NA:∀n:Nat,ch n n=1
 | 0=>rfl
 | n+1=>by rw[ch,NA n,vT n (n+1) (by lia)]
theorem BL:∀(n k:Nat),(k+1)*ch (n+1) (k+1)=(n+1)*ch n k
 | 0,0=>rfl
 | 0,k+1=>by
   show(k+1+1)*(ch 0 (k+1)+ch 0 (k+1+1))=_
   rw[vT 0 (k+1) (by lia),vT 0 (k+1+1) (by lia)];lia
 | n+1,0=>by
   have h:=BL n 0
   show(0+1)*(ch (n+1) 0+ch (n+1) (0+1))=_
   rw[BK] at h ⊢
   lia
 | n+1,k+1=>by
   have h1:=BL n k
   have h2:=BL n (k+1)
   rw[ch,Nat.mul_add,h2,show k+1+1=(k+1)+1 from rfl,Se,h1,Nat.one_mul]
   rw[show ch (n+1) (k+1)=ch n k+ch n (k+1) from rfl]
   rw[Nat.mul_add,Se (n+1) 1,Se (n+1) 1]
   lia
theorem XC{p:Nat}(hp:∀e,2<=e->e<p->p%e≠0)(k:Nat)(h1:1<=k)(h2:k<p):p∣ch p k:=by
 obtain⟨n,rfl⟩:∃n,p=n+1:=⟨p-1,by lia⟩
 obtain⟨j,rfl⟩:∃j,k=j+1:=⟨k-1,by lia⟩
 have h:=BL n j
 have hd:(n+1)∣(j+1)*ch (n+1) (j+1):=⟨_,h⟩
 refine a6a ?_ hd
 have g1:=Sf (n+1) (j+1)
 have g2:=xl (by lia) (Sg (n+1) (j+1))
 show uP (n+1) (j+1)=1
 have g0:uP (n+1) (j+1)≠0:=λz=>by have:=(Nat.gcd_eq_zero_iff.mp z).1;lia
 by_cases g3:2<=uP (n+1) (j+1)
 ·exact absurd (Sh g1) (hp _ g3 (by lia))
 ·lia
def sm(f:Nat->A):Nat->A
 | 0=>0
 | n+1=>sm f n+f n
theorem FA{f g:Nat->A}:∀{n:Nat},(∀k,k<n->f k=g k)->sm f n=sm g n
 | 0,_=>rfl
 | n+1,h=>by rw[sm,sm,FA λk hk=>h k (by lia),h n (by lia)]
theorem NB(f g:Nat->A):∀n:Nat,sm (λk=>f k+g k) n=sm f n+sm g n
 | 0=>by simp only[sm];grind
 | n+1=>by rw[sm,NB f g n,sm,sm];grind
theorem BM(r:A)(f:Nat->A):∀n:Nat,sm (λk=>r*f k) n=r*sm f n
 | 0=>by simp only[sm];grind
 | n+1=>by rw[sm,BM r f n,sm];grind
theorem BN(f:Nat->A):∀n:Nat,sm f (n+1)=f 0+sm (λk=>f (k+1)) n
 | 0=>by simp only[sm];grind
 | n+1=>by rw[sm,BN f n,sm];grind
theorem NC(a b:A):∀n:Nat,(a+b)^n=sm (λk=>nC (ch n k)*(a^k*b^(n-k))) (n+1)
 | 0=>by
   rw[Semiring.pow_zero]
   simp only[sm,ch,Dg,Semiring.pow_zero]
   rw[Nw];grind
 | n+1=>by
   rw[Semiring.pow_succ,NC a b n,BN (λk=>nC (ch (n+1) k)*(a^k*b^(n+1-k)))]
   have e1:sm (λk=>nC (ch (n+1) (k+1))*(a^(k+1)*b^(n+1-(k+1)))) (n+1)=sm (λk=>a*(nC (ch n k)*(a^k*b^(n-k)))+nC (ch n (k+1))*(a^(k+1)*b^(n-k))) (n+1):=by
    refine FA λk hk=>?_
    rw[show n+1-(k+1)=n-k by lia,show ch (n+1) (k+1)=ch n k+ch n (k+1) from rfl,Xx,Semiring.pow_succ];grind
   rw[e1,NB,BM]
   have e2:sm (λk=>b*(nC (ch n k)*(a^k*b^(n-k)))) (n+1)=nC (ch (n+1) 0)*(a^0*b^(n+1-0))+sm (λk=>nC (ch n (k+1))*(a^(k+1)*b^(n-k))) (n+1):=by
    rw[BN,BK,BK,sm]
    have e3:sm (λk=>b*(nC (ch n (k+1))*(a^(k+1)*b^(n-(k+1))))) n=sm (λk=>nC (ch n (k+1))*(a^(k+1)*b^(n-k))) n:=by
     refine FA λk hk=>?_
     rw[show n-k=(n-(k+1))+1 by lia,Semiring.pow_succ b];grind
    rw[e3,vT n (n+1) (by lia),C_,C_,Semiring.pow_succ b,Xz]
    grind
   rw[BM] at e2
   grind
theorem bY.sm(H:bY p I){f:Nat->A}:∀{n:Nat},(∀k,k<n->I (f k))->I (L3.sm f n)
 | 0,_=>H.zero
 | n+1,h=>H.add (H.sm λk hk=>h k (by lia)) (h n (by lia))
theorem bY.nat(H:bY p I){n:Nat}(h:p∣n)(a:A):I (nC n*a):=by
 obtain⟨k,rfl⟩:=h
 refine H.of (H.mul (nC k*a) H.Fz) ?_
 rw[Xy];grind
theorem bY.ND(H:bY p I)(hp:∀e,2<=e->e<p->p%e≠0)(p2:2<=p)(a b:A):I ((a+b)^p-(a^p+b^p)):=by
 obtain⟨n,rfl⟩:∃n,p=n+1:=⟨p-1,by lia⟩
 rw[NC,L3.sm,BN]
 have h:I (L3.sm (λk=>nC (ch (n+1) (k+1))*(a^(k+1)*b^(n+1-(k+1)))) n):=H.sm λk hk=>H.nat (XC hp (k+1) (by lia) (by lia)) _
 refine H.of h ?_
 rw[BK,NA,Dg,C_,Semiring.pow_zero,Semiring.pow_zero,Nw]
 grind
theorem bY.NF(H:bY p I)(hp:∀e,2<=e->e<p->p%e≠0)(p2:2<=p)(a b:A):∀j:Nat,I ((a+b)^(p^j)-(a^(p^j)+b^(p^j)))
 | 0=>H.eq (by rw[Ak];grind)
 | j+1=>by
   have h:=H.pow (H.NF hp p2 a b j) p
   have h2:=H.ND hp p2 (a^(p^j)) (b^(p^j))
   rw[Al,rF,rF,rF]
   exact H.trans h h2
theorem bY.NG(H:bY p I)(hp:∀e,2<=e->e<p->p%e≠0)(p2:2<=p)(a b:A)(j:Nat):I ((a-b)^(p^j)-(a^(p^j)-b^(p^j))):=by
 have h:=H.NF hp p2 (a-b) b j
 rw[show a-b+b=a by grind] at h
 exact H.of (H.neg h) (by grind)
def fQ:List Int->A->A
 | [],_=>0
 | c::cs,x=>iC c+x*fQ cs x
theorem NH(c:Int):∀n:Nat,iC (A:=A) c^n=iC (c^n)
 | 0=>by rw[Semiring.pow_zero,xk,vS]
 | n+1=>by rw[Semiring.pow_succ,NH c n,ly,Fy]
theorem bY.int(H:bY p I){c:Int}(h:(p:Int)∣c):I (iC c):=by
 obtain⟨k,rfl⟩:=h
 refine H.of (H.mul (iC k) H.Fz) ?_
 rw[Fy,XA];grind
theorem bY.NI(H:bY p I)(hp:∀e,2<=e->e<p->p%e≠0)(p2:2<=p)(hf:∀c:Int,(p:Int)∣c^p-c)(x:A):∀cs:List Int,I ((fQ cs x)^p-fQ cs (x^p))
 | []=>H.eq (by
   obtain⟨n,rfl⟩:∃n,p=n+1:=⟨p-1,by lia⟩
   simp only[fQ];rw[Semiring.pow_succ];grind)
 | c::cs=>by
   have h1:=H.ND hp p2 (iC c) (x*fQ cs x)
   have h2:=H.NI hp p2 hf x cs
   have h3:I (iC c^p-iC c):=by
    refine H.of (H.int (hf c)) ?_
    rw[Nx,NH]
   rw[BJ] at h1
   have h4:=H.mul (x^p) h2
   show I ((iC c+x*fQ cs x)^p-(iC c+x^p*fQ cs (x^p)))
   exact H.of (H.add (H.add h1 h3) h4) (by grind)
theorem bY.roots(H:bY p I)(hp:∀e,2<=e->e<p->p%e≠0)(p2:2<=p)(hf:∀c:Int,(p:Int)∣c^p-c){x:A}{cs:List Int}(h:I (fQ cs x)):∀j:Nat,I (fQ cs (x^(p^j)))
 | 0=>by rw[Ak];exact H.of h (by congr 1;grind)
 | j+1=>by
   have h1:=H.XB (H.roots hp p2 hf h j) (n:=p) (by lia)
   have h2:=H.NI hp p2 hf (x^(p^j)) cs
   rw[Al,rF]
   exact H.iI (H.symm h2) h1
def Dv(I:A->Prop)(B a:A):Prop:=∃(n:Nat) (s:A),I (B^n-a*s)
theorem Dv.mul(H:bY p I){B a b:A}(h:Dv I B a)(h':Dv I B b):Dv I B (a*b):=by
 obtain⟨n,s,e⟩:=h
 obtain⟨n',s',e'⟩:=h'
 refine⟨n+n',s*s',?_⟩
 rw[pI]
 exact H.of (H.Ny e e') (by grind)
theorem Dv.nil(H:bY p I){B a:A}(h:Dv I B a)(ha:I a):∃n:Nat,I (B^n):=by
 obtain⟨n,s,e⟩:=h
 exact⟨n,H.iI e (H.of (H.mul s ha) (by grind))⟩
theorem FC(x:A):∀k:Nat,∃s:A,x^k-1=(x-1)*s
 | 0=>⟨0,by rw[Semiring.pow_zero];grind⟩
 | k+1=>by
   obtain⟨s,e⟩:=FC x k
   exact⟨s*x+1,by rw[Semiring.pow_succ];grind⟩
theorem oB(H:bY p I)(hp:∀e,2<=e->e<p->p%e≠0)(p2:2<=p)(x:A){M k:Nat}(hM:(p^k-1)∣M)(i:Nat):Dv I (x^(M+1)-x) (x^(p^(i+k))-x^(p^i)):=by
 obtain⟨c,rfl⟩:=hM
 obtain⟨s,e⟩:=FC (x^(p^k-1)) c
 have e1:x^((p^k-1)*c+1)-x=(x^(p^k)-x)*s:=by
  have hk:p^k=(p^k-1)+1:=by have:=Si (n:=k) (show 0<p by lia);lia
  rw[Semiring.pow_succ,rF]
  conv=>rhs;rw[hk,Semiring.pow_succ]
  grind
 refine⟨p^i,s^(p^i),?_⟩
 rw[e1,BJ]
 have h:=H.NG hp p2 (x^(p^k)) x i
 rw[<-rF,<-Nat.pow_add,C5 k i] at h
 exact H.of (H.mul (s^(p^i)) h) (by grind)
end
section
variable {A:Type}[CommRing A]{p:Nat}{I:A->Prop}
theorem bY.NJ(H:bY p I){f:Nat->A}{i:Nat}:∀{n:Nat},i<n->(∀k,k<n->k≠i->I (f k))->I (L3.sm f n-f i)
 | 0,hi,_=>absurd hi (jK _)
 | n+1,hi,h=>by
   by_cases e:i=n
   ·subst e
    have hs:I (L3.sm f i):=H.sm λk hk=>h k (by lia) (by lia)
    refine H.of hs ?_
    rw[L3.sm];grind
   ·refine H.of (H.add (H.NJ (n:=n) (by lia) λk hk ne=>h k (by lia) ne) (h n (by lia) (λz=>e z.symm))) ?_
    rw[L3.sm];grind
theorem XD{e:Nat->Int}{q:Int}:∀i:Nat,¬q∣e i->∃j,j<=i/\¬q∣e j/\∀k,k<j->q∣e k:=by
 intro i
 induction i using Nat.strongRecOn with
 | ind i ih =>
   intro h
   by_cases z:∃k,k<i/\¬q∣e k
   ·obtain⟨k,k1,k2⟩:=z
    obtain⟨j,j1,j2,j3⟩:=ih k k1 k2
    exact⟨j,by lia,j2,j3⟩
   ·exact⟨i,a7 _,h,λk hk=>Dm λw=>z ⟨k,hk,w⟩⟩
theorem bY.drop_one(H:bY p I){d:Nat}(hd:∀F:Nat->A,∃e:Nat->Int,(∃i,i<=d/\¬(p:Int)∣e i)/\I (L3.sm (λi=>iC (e i)*F i) (d+1)))(hu:∀c:Int,¬(p:Int)∣c->∃u:Int,(p:Int)∣u*c-1){B:A}{j:Nat}(h:I (B^(d+j+1))):I (B^(d+j)):=by
 obtain⟨e,⟨i',rD,ne⟩,hs⟩:=hd λi=>B^(j+i)
 obtain⟨i,i1,i2,i3⟩:=XD i' ne
 have h1:=H.mul (B^(d-i)) hs
 rw[<-BM] at h1
 have h2:I (L3.sm (λk=>B^(d-i)*(iC (e k)*B^(j+k))) (d+1)-B^(d-i)*(iC (e i)*B^(j+i))):=H.NJ (by lia) λk hk nk=>by
  rcases cG k i with z | z
  ·exact H.mul _ (H.of (H.mul (B^(j+k)) (H.int (i3 k z))) (by grind))
  ·have z2:d-i+(j+k)=d+j+1+(k-i-1):=by lia
   refine H.of (H.mul (iC (e k)*B^(k-i-1)) h) ?_
   have:B^(d-i)*B^(j+k)=B^(d+j+1)*B^(k-i-1):=by rw[<-pI,<-pI,z2]
   grind
 have h3:=H.sub h1 h2
 have e1:B^(d-i)*B^(j+i)=B^(d+j):=by rw[<-pI,show d-i+(j+i)=d+j by lia]
 obtain⟨u,hu⟩:=hu _ i2
 have h4:=H.int hu
 rw[Nx,Fy,vS] at h4
 have h5:=H.mul (iC u) h3
 have h6:=H.mul (B^(d+j)) h4
 refine H.of (H.sub h5 h6) ?_
 rw[<-e1];grind
theorem bY.less(H:bY p I){d:Nat}(hd:∀F:Nat->A,∃e:Nat->Int,(∃i,i<=d/\¬(p:Int)∣e i)/\I (L3.sm (λi=>iC (e i)*F i) (d+1)))(hu:∀c:Int,¬(p:Int)∣c->∃u:Int,(p:Int)∣u*c-1){B:A}:∀K:Nat,I (B^(d+K))->I (B^d)
 | 0,h=>h
 | K+1,h=>H.less hd hu K (H.drop_one hd hu h)
theorem bY.XE(H:bY p I){d:Nat}(hd:∀F:Nat->A,∃e:Nat->Int,(∃i,i<=d/\¬(p:Int)∣e i)/\I (L3.sm (λi=>iC (e i)*F i) (d+1)))(hu:∀c:Int,¬(p:Int)∣c->∃u:Int,(p:Int)∣u*c-1){B:A}{n:Nat}(h:I (B^n)):I (B^d) :=
 H.less hd hu n (by rw[pI];exact H.mul _ h)
theorem FD(x:A):fQ [1] x=1:=by simp only[fQ,vS];grind
theorem FE(a:Int)(x:A):fQ [a,1] x=iC a+x:=by simp only[fQ,vS];grind
theorem FF(a b:Int)(x:A):fQ [a,b,1] x=iC a+iC b*x+x^2:=by simp only[fQ,vS];grind
theorem FG(a b c:Int)(x:A):fQ [a,b,c,1] x=iC a+iC b*x+iC c*x^2+x^3:=by simp only[fQ,vS];grind
theorem XF(H:bY p I)(hp:∀e,2<=e->e<p->p%e≠0)(p2:2<=p)(hf:∀c:Int,(p:Int)∣c^p-c){x:A}{M:Nat}:∀(cs:List Int),cs.length<=3->(∀k,1<=k->k<=cs.length->(p^k-1)∣M)->I (fQ (cs++[1]) x)->∃n:Nat,I ((x^(M+1)-x)^n)
 | [],_,_,h=>by
   refine⟨0,?_⟩
   rw[Semiring.pow_zero]
   exact H.of h (FD x)
 | [a],_,hM,h=>by
   have r0:=H.roots hp p2 hf h 0
   have r1:=H.roots hp p2 hf h 1
   rw[show[a]++[1]=[a,1] from rfl,FE] at r0 r1
   refine(oB H hp p2 x (hM 1 (by lia) (a7 _)) 0).nil H ?_
   exact H.of (H.sub r1 r0) (by grind)
 | [a,b],_,hM,h=>by
   have r0:=H.roots hp p2 hf h 0
   have r1:=H.roots hp p2 hf h 1
   have r2:=H.roots hp p2 hf h 2
   rw[show[a,b]++[1]=[a,b,1] from rfl,FF] at r0 r1 r2
   have d1:=oB H hp p2 x (hM 1 (by lia) (by simp)) 0
   have d2:=oB H hp p2 x (hM 1 (by lia) (by simp)) 1
   have d3:=oB H hp p2 x (hM 2 (by lia) (by simp)) 0
   refine((d1.mul H d2).mul H d3).nil H ?_
   simp only[fE,Nat.reduceAdd] at *
   generalize x^p^0=y0 at *
   generalize x^p^1=y1 at *
   generalize x^p^2=y2 at *
   exact H.of (H.sub (H.mul (y1-y0) (H.sub r2 r0)) (H.mul (y2-y0) (H.sub r1 r0))) (by grind)
 | [a,b,c],_,hM,h=>by
   have r0:=H.roots hp p2 hf h 0
   have r1:=H.roots hp p2 hf h 1
   have r2:=H.roots hp p2 hf h 2
   have r3:=H.roots hp p2 hf h 3
   rw[show[a,b,c]++[1]=[a,b,c,1] from rfl,FG] at r0 r1 r2 r3
   have d1:=oB H hp p2 x (hM 1 (by lia) (by simp)) 0
   have d2:=oB H hp p2 x (hM 1 (by lia) (by simp)) 1
   have d3:=oB H hp p2 x (hM 1 (by lia) (by simp)) 2
   have d4:=oB H hp p2 x (hM 2 (by lia) (by simp)) 0
   have d5:=oB H hp p2 x (hM 2 (by lia) (by simp)) 1
   have d6:=oB H hp p2 x (hM 3 (by lia) (by simp)) 0
   refine((((((d1.mul H d2).mul H d3).mul H d4).mul H d5).mul H d6)).nil H ?_
   simp only[fE,Nat.reduceAdd] at *
   generalize x^p^0=y0 at *
   generalize x^p^1=y1 at *
   generalize x^p^2=y2 at *
   generalize x^p^3=y3 at *
   clear d1 d2 d3 d4 d5 d6 h
   exact H.of (H.sub (H.add (H.sub (H.mul ((y1-y0)*(y2-y0)*(y2-y1)) r3) (H.mul ((y1-y0)*(y3-y0)*(y3-y1)) r2)) (H.mul ((y2-y0)*(y3-y0)*(y3-y2)) r1)) (H.mul ((y2-y1)*(y3-y1)*(y3-y2)) r0)) (by grind)
 | _::_::_::_::_,h,_,_=>by simp at h
end
inductive Poly:((Nat->Int)->Nat->Int)->Prop
 | cst (c:Int):Poly (λa n=>c*a n)
 | sh:Poly (λa n=>a (n+1))
 | add {F G:(Nat->Int)->Nat->Int}:Poly F->Poly G->Poly (λa n=>F a n+G a n)
 | comp {F G:(Nat->Int)->Nat->Int}:Poly F->Poly G->Poly (λa=>F (G a))
theorem Poly.plus{F:(Nat->Int)->Nat->Int}(h:Poly F):∀a b:Nat->Int,F (λn=>a n+b n)=λn=>F a n+F b n:=by
 induction h with
 | cst c=>intro a b;funext n;exact uJ _ _ _
 | sh=>intro a b;rfl
 | add _ _ h1 h2=>intro a b;funext n;dsimp only;rw[h1,h2];dsimp only;lia
 | comp _ _ h1 h2=>intro a b;dsimp only;rw[h2,h1]
theorem Poly.times{F:(Nat->Int)->Nat->Int}(h:Poly F):∀(c:Int) (a:Nat->Int),F (λn=>c*a n)=λn=>c*F a n:=by
 induction h with
 | cst d=>intro c a;funext n;dsimp only;rw[<-e_,<-e_,j_ d c]
 | sh=>intro c a;rfl
 | add _ _ h1 h2=>intro c a;funext n;dsimp only;rw[h1,h2,uJ]
 | comp _ _ h1 h2=>intro c a;dsimp only;rw[h2,h1]
theorem Poly.shift{F:(Nat->Int)->Nat->Int}(h:Poly F):∀a:Nat->Int,F (λn=>a (n+1))=λn=>F a (n+1):=by
 induction h with
 | cst d=>intro a;rfl
 | sh=>intro a;rfl
 | add _ _ h1 h2=>intro a;funext n;dsimp only;rw[h1,h2]
 | comp _ _ h1 h2=>intro a;dsimp only;rw[h2,h1]
theorem Poly.comm{F G:(Nat->Int)->Nat->Int}(h:Poly F)(g:Poly G):∀a:Nat->Int,F (G a)=G (F a):=by
 induction h with
 | cst d=>intro a;exact(g.times d a).symm
 | sh=>intro a;exact(g.shift a).symm
 | add _ _ h1 h2=>intro a;dsimp only;rw[h1,h2];exact(g.plus _ _).symm
 | comp _ _ h1 h2=>intro a;dsimp only;rw[h2,h1]
theorem Poly.iI{P:Int}{F:(Nat->Int)->Nat->Int}(h:Poly F):∀a b:Nat->Int,(∀n,cg P (a n) (b n))->∀n,cg P (F a n) (F b n):=by
 induction h with
 | cst d=>intro a b e n;exact(cg.refl).mul (e n)
 | sh=>intro a b e n;exact e (n+1)
 | add _ _ h1 h2=>intro a b e n;exact(h1 a b e n).add (h2 a b e n)
 | comp _ _ h1 h2=>intro a b e n;exact h1 _ _ (h2 a b e) n
def Op:Type:={ F:(Nat->Int)->Nat->Int // Poly F }
namespace Op
theorem ext{a b:Op}(h:∀s n,a.1 s n=b.1 s n):a=b:=Subtype.ext (funext λs=>funext λn=>h s n)
def cst(c:Int):Op:=⟨_,.cst c⟩
def add(a b:Op):Op:=⟨_,a.2.add b.2⟩
def mul(a b:Op):Op:=⟨_,a.2.comp b.2⟩
def pow(a:Op):Nat->Op
 | 0=>cst 1
 | n+1=>mul (pow a n) a
def X:Op:=⟨_,.sh⟩
end Op
noncomputable instance:CommRing Op where
 add:=Op.add
 mul:=Op.mul
 natCast:=⟨λn=>Op.cst n⟩
 ofNat:=λn=>⟨Op.cst n⟩
 nsmul:=⟨λn a=>Op.mul (Op.cst n) a⟩
 npow:=⟨Op.pow⟩
 add_zero a:=Op.ext λs n=>by show a.1 s n+(0:Nat)*s n=_;simp
 add_comm a b:=Op.ext λs n=>oX _ _
 add_assoc a b c:=Op.ext λs n=>Int.add_assoc _ _ _
 mul_assoc a b c:=rfl
 mul_one a:=Op.ext λs n=>by show a.1 (λn=>(1:Nat)*s n) n=_;simp
 one_mul a:=Op.ext λs n=>by show(1:Nat)*a.1 s n=_;simp
 left_distrib a b c:=Op.ext λs n=>congrFun (a.2.plus _ _) n
 right_distrib a b c:=rfl
 zero_mul a:=Op.ext λs n=>by show(0:Nat)*a.1 s n=(0:Nat)*s n;simp
 mul_zero a:=Op.ext λs n=>by
  have:=congrFun (a.2.times 0 s) n
  show a.1 (λn=>(0:Nat)*s n) n=(0:Nat)*s n
  simpa using this
 pow_zero a:=rfl
 pow_succ a n:=rfl
 ofNat_succ n:=Op.ext λs k=>by show((n+1:Nat):Int)*s k=(n:Int)*s k+(1:Nat)*s k;rw[Sj,Sa]
 ofNat_eq_natCast n:=rfl
 nsmul_eq_natCast_mul n a:=rfl
 neg:=λa=>Op.mul (Op.cst (-1)) a
 sub:=λa b=>Op.add a (Op.mul (Op.cst (-1)) b)
 intCast:=⟨Op.cst⟩
 zsmul:=⟨λn a=>Op.mul (Op.cst n) a⟩
 neg_add_cancel a:=Op.ext λs n=>by show(-1)*a.1 s n+a.1 s n=(0:Nat)*s n;simp;lia
 sub_eq_add_neg a b:=rfl
 neg_zsmul i a:=Op.ext λs n=>by show(-i)*a.1 s n=(-1)*(i*a.1 s n);rw[my,my,nP]
 zsmul_natCast_eq_nsmul n a:=rfl
 intCast_ofNat n:=rfl
 intCast_neg i:=Op.ext λs n=>by show(-i)*s n=(-1)*(i*s n);rw[my,my,nP]
 mul_comm a b:=Op.ext λs n=>congrFun (a.2.comm b.2 s) n
def mU(P:Int)(s:Nat->Int)(a:Op):Prop:=∀n,cg P (a.1 s n) 0
theorem kv(a b:Op)(s:Nat->Int)(n:Nat):(a+b).1 s n=a.1 s n+b.1 s n:=rfl
theorem jW(a b:Op)(s:Nat->Int):(a*b).1 s=a.1 (b.1 s):=rfl
theorem vU(a b:Op)(s:Nat->Int)(n:Nat):(a-b).1 s n=a.1 s n-b.1 s n:=by
 show a.1 s n+(-1)*b.1 s n=_;lia
theorem rG(s:Nat->Int)(n:Nat):(1:Op).1 s n=s n:=by show((1:Nat):Int)*s n=_;simp
theorem NK(s:Nat->Int)(n:Nat):(0:Op).1 s n=0:=by show((0:Nat):Int)*s n=_;simp
theorem lV(c:Int)(s:Nat->Int)(n:Nat):(iC c:Op).1 s n=c*s n:=rfl
theorem lW(s:Nat->Int)(n:Nat):Op.X.1 s n=s (n+1):=rfl
theorem pJ(s:Nat->Int):∀(k n:Nat),(Op.X^k).1 s n=s (n+k)
 | 0,n=>by rw[Semiring.pow_zero];exact rG s n
 | k+1,n=>by
   rw[Semiring.pow_succ,jW,pJ _ k n,lW,R7]
theorem FH{P:Int}{p:Nat}(e:P=p)(s:Nat->Int):bY p (mU P s) where
 zero n:=by rw[NK];exact cg.refl
 add {a b} h h' n:=by rw[kv];exact(h n).add (h' n)
 mul {a} r h n:=by
  rw[jW]
  have:=r.2.iI (P:=P) (a.1 s) (λ_=>0) h n
  refine this.trans ?_
  have q:=congrFun (r.2.times 0 (λ_=>0)) n
  simp only[mx] at q
  rw[q];exact cg.refl
 Fz n:=by
  show cg P ((p:Int)*s n) 0
  unfold cg;rw[e,Int.mul_emod_right,qE]
def du(i0 i:Nat):Nat:=if i<i0 then i else i+1
def unq(i0 j:Nat):Nat:=if j<i0 then j else j-1
theorem NL(i0 i:Nat):unq i0 (du i0 i)=i:=by
 unfold unq du
 by_cases h:i<i0
 ·rw[if_pos h,if_pos h]
 ·rw[if_neg h,if_neg (by lia)];lia
theorem NM(i0 i:Nat):du i0 i≠i0:=by unfold du;split<;>lia
theorem NN(f:Nat->Int):∀{n i0:Nat},i0<=n->aJ f (n+1)=f i0+aJ (λi=>f (du i0 i)) n
 | 0,i0,h=>by
   have:i0=0:=by lia
   subst this
   simp only[aJ];lia
 | n+1,i0,h=>by
   by_cases e:i0=n+1
   ·subst e
    rw[eA,oX]
    congr 1
    refine eW λk hk=>?_
    unfold du;rw[if_pos hk]
   ·rw[eA,NN f (n:=n) (i0:=i0) (by lia),eA,Int.add_assoc]
    congr 2
    unfold du;rw[if_neg (by lia)]
theorem kS{P a b:Int}:cg P a b↔P∣a-b:=by
 rw[L8]
 exact⟨uQ,uR⟩
theorem dep{P:Int}(hu:∀a:Int,¬cg P a 0->∃b:Int,cg P (b*a) 1)(hp:1<P):∀(d:Nat) (v:Nat->Nat->Int),∃e:Nat->Int,(∃i,i<=d/\¬cg P (e i) 0)/\∀k,k<d->cg P (aJ (λi=>e i*v i k) (d+1)) 0
 | 0,v=>⟨λ_=>1,⟨0,a7 _,BC hp⟩,λk hk=>absurd hk (jK _)⟩
 | d+1,v=>by
   by_cases z:∃i,i<=d+1/\¬cg P (v i d) 0
   ·obtain⟨i0,h0,hn⟩:=z
    obtain⟨b,hb⟩:=hu _ hn
    obtain⟨e,⟨i,hi,ne⟩,he⟩:=dep hu hp d λi k=>v (du i0 i) k-(v (du i0 i) d*b)*v i0 k
    refine⟨λj=>if j=i0 then-aJ (λi=>e i*(v (du i0 i) d*b)) (d+1) else e (unq i0 j),⟨du i0 i,by unfold du;split<;>lia,by dsimp only;rw[if_neg (NM i0 i),NL];exact ne⟩,λk hk=>?_⟩
    rw[NN _ h0]
    dsimp only
    rw[if_pos rfl]
    have e0:aJ (λi=>(if du i0 i=i0 then-aJ (λi=>e i*(v (du i0 i) d*b)) (d+1) else e (unq i0 (du i0 i)))*v (du i0 i) k) (d+1)=aJ (λi=>e i*v (du i0 i) k) (d+1):=eW λi _=>by rw[if_neg (NM i0 i),NL]
    rw[e0]
    have e1:aJ (λi=>e i*v (du i0 i) k) (d+1)=aJ (λi=>e i*(v (du i0 i) k-(v (du i0 i) d*b)*v i0 k)) (d+1)+aJ (λi=>e i*(v (du i0 i) d*b)) (d+1)*v i0 k:=by
     have:∀n,aJ (λi=>e i*v (du i0 i) k) n=aJ (λi=>e i*(v (du i0 i) k-(v (du i0 i) d*b)*v i0 k)) n+aJ (λi=>e i*(v (du i0 i) d*b)) n*v i0 k:=by
      intro n
      induction n with
      | zero=>simp[aJ]
      | succ n ih=>rw[eA,eA,eA,ih];grind
     exact this _
    rw[e1]
    have e2:cg P (aJ (λi=>e i*(v (du i0 i) k-(v (du i0 i) d*b)*v i0 k)) (d+1)) 0:=by
     rcases cG k d with w | w
     ·exact he k w
     ·have:k=d:=by lia
      subst this
      refine(cg.aJ (g:=λ_=>0) λi _=>?_).trans (cg.of_eq (by have:∀n,aJ (λ_=>0) n=0:=λn=>by induction n with | zero=>rfl | succ n ih=>rw[eA,ih];rfl
                                                            exact this _))
      rw[kS] at hb ⊢
      obtain⟨t,ht⟩:=hb
      exact⟨- (e i*v (du i0 i) k*t),by grind⟩
    refine(cg.of_eq ?_).trans e2
    generalize aJ (λi=>e i*(v (du i0 i) d*b)) (d+1)=q1
    generalize aJ (λi=>e i*(v (du i0 i) k-(v (du i0 i) d*b)*v i0 k)) (d+1)=q2
    rw[my];lia
   ·obtain⟨e,⟨i,hi,ne⟩,he⟩:=dep hu hp d v
    refine⟨λj=>if j<=d then e j else 0,⟨i,by lia,by dsimp only;rw[if_pos hi];exact ne⟩,λk hk=>?_⟩
    rw[eA]
    dsimp only
    have e0:aJ (λi=>(if i<=d then e i else 0)*v i k) (d+1)=aJ (λi=>e i*v i k) (d+1):=eW λi hi=>by rw[if_pos (by lia)]
    rw[if_neg (by lia),mx,R4,e0]
    rcases cG k d with w | w
    ·exact he k w
    ·have:k=d:=by lia
     subst this
     refine(cg.aJ (g:=λ_=>0) λi hi=>?_).trans (cg.of_eq (by have:∀n,aJ (λ_=>0) n=0:=λn=>by induction n with | zero=>rfl | succ n ih=>rw[eA,ih];rfl
                                                            exact this _))
     have:cg P (v i k) 0:=Dm λw=>z ⟨i,by lia,w⟩
     have:=(cg.refl (P:=P) (a:=e i)).mul this
     rwa [kd] at this
theorem NO(F:Nat->Op)(s:Nat->Int)(n:Nat):∀k:Nat,(sm F k).1 s n=aJ (λi=>(F i).1 s n) k
 | 0=>NK s n
 | k+1=>by rw[sm,kv,NO F s n k,eA]
theorem XG{P:Int}{cs:List Int}{s:Nat->Int}(h:mU P s (fQ (cs++[1]) Op.X))(hl:cs.length<=3)(h0:∀k,k<cs.length->cg P (s k) 0):∀n,cg P (s n) 0:=by
 have key:∀n,(∀k,k<cs.length->cg P (s (n+k)) 0)->cg P (s (n+cs.length)) 0:=by
  intro n hn
  have hk:=h n
  match cs,hl,hk,hn with
  | [],_,hk,_=>rw[show([]:List Int)++[1]=[1] from rfl,FD,rG] at hk;exact hk
  | [a],_,hk,hn =>
    rw[show[a]++[1]=[a,1] from rfl,FE,kv,lV,lW] at hk
    have:=hn 0 (by simp)
    rw[kS] at *
    obtain⟨t,ht⟩:=hk
    obtain⟨u,hu⟩:=this
    exact⟨t-a*u,by show s (n+1)-0=_;rw[nO] at hu;grind⟩
  | [a,b],_,hk,hn =>
    rw[show[a,b]++[1]=[a,b,1] from rfl,FF,kv,kv,lV,jW,lV,lW,pJ] at hk
    have h1:=hn 0 (by simp)
    have h2:=hn 1 (by simp)
    rw[kS] at *
    obtain⟨t,ht⟩:=hk
    obtain⟨u,hu⟩:=h1
    obtain⟨w,hw⟩:=h2
    exact⟨t-a*u-b*w,by show s (n+2)-0=_;rw[nO] at hu;grind⟩
  | [a,b,c],_,hk,hn =>
    rw[show[a,b,c]++[1]=[a,b,c,1] from rfl,FG,kv,kv,kv,lV,jW,lV,lW,jW,lV,pJ,pJ] at hk
    have h1:=hn 0 (by simp)
    have h2:=hn 1 (by simp)
    have h3:=hn 2 (by simp)
    rw[kS] at *
    obtain⟨t,ht⟩:=hk
    obtain⟨u,hu⟩:=h1
    obtain⟨w,hw⟩:=h2
    obtain⟨y,hy⟩:=h3
    exact⟨t-a*u-b*w-c*y,by show s (n+3)-0=_;rw[nO] at hu;grind⟩
  | _::_::_::_::_,hl,_,_=>simp at hl
 have all:∀n k,k<=cs.length->cg P (s (n+k)) 0:=by
  intro n
  induction n with
  | zero =>
    intro k hk
    rcases cG k cs.length with z | z
    ·rw[fE];exact h0 k z
    ·have:k=cs.length:=by lia
     rw[this];exact key 0 λk hk=>by rw[fE];exact h0 k hk
  | succ n ih =>
    intro k hk
    rcases cG k cs.length with z | z
    ·rw[show n+1+k=n+(k+1) by lia];exact ih (k+1) (by lia)
    ·have:k=cs.length:=by lia
     rw[this]
     exact key (n+1) λk hk=>by rw[show n+1+k=n+(k+1) by lia];exact ih (k+1) (by lia)
 exact λn=>all n 0 (iT _)
section
variable {P:Int}{p:Nat}
theorem XH(e:P=p)(hu:∀a:Int,¬cg P a 0->∃b:Int,cg P (b*a) 1)(hp:1<P){cs:List Int}{s:Nat->Int}(hl:cs.length<=3)(h:mU P s (fQ (cs++[1]) Op.X))(F:Nat->Op):∃e:Nat->Int,(∃i,i<=cs.length/\¬(p:Int)∣e i)/\mU P s (sm (λi=>iC (e i)*F i) (cs.length+1)):=by
 obtain⟨c,⟨i,hi,ne⟩,hc⟩:=dep hu hp cs.length λi k=>(F i).1 s k
 refine⟨c,⟨i,hi,λz=>ne (kS.mpr (by rw[JY,e];exact z))⟩,?_⟩
 have H:=FH e s
 refine XG (s:=(sm (λi=>iC (c i)*F i) (cs.length+1)).1 s) (λn=>?_) hl λk hk=>?_
 ·have:=H.mul (sm (λi=>iC (c i)*F i) (cs.length+1)) h n
  rw[CommSemiring.mul_comm,jW] at this
  exact this
 ·rw[NO]
  exact hc k hk
theorem XI(e:P=p)(hD:fx P=false)(p1:3<=P)(p2:P<=9973){cs:List Int}{a:Nat->Int}(hl:cs.length<=3)(h:mU P a (fQ (cs++[1]) Op.X*(Op.X-1))){M j:Nat}(hM:∀k,1<=k->k<=cs.length->(p^k-1)∣M)(hj:cs.length+1<=p^j):∀n,cg P (a (n+cs.length+M*p^j)) (a (n+cs.length)):=by
 have hp:∀e,2<=e->e<p->p%e≠0:=λd d1 d2 z=>by
  have h1:fx P=true:=by
   by_cases w:d<100
   ·exact(EV _).mpr ⟨d,by lia,by lia,by lia,by rw[e];exact_mod_cast z⟩
   ·have hd:p=d*(p/d):=by have:=J_ p d;lia
    have q0:0<p/d:=Nat.div_pos (by lia) (by lia)
    have q1:p/d<100:=by
     rcases cG (p/d) 100 with y | y
     ·exact y
     ·have:100*100<=d*(p/d):=a6b (by lia) y
      lia
    have q2:p/d≠1:=λy=>by rw[y] at hd;lia
    have q3:p%(p/d)=0:=by
     have:p%(p/d)=(d*(p/d))%(p/d):=by rw[<-hd]
     rw[this];exact Nat.mul_mod_left _ _
    have q4:2*(p/d)<=d*(p/d):=uS _ d1
    exact(EV _).mpr ⟨((p/d:Nat):Int),by lia,by lia,by lia,by rw[e];exact_mod_cast q3⟩
  rw[hD] at h1;cases h1
 have NP:2<=p:=by lia
 have hu:∀a:Int,¬cg P a 0->∃b:Int,cg P (b*a) 1:=λa ha=>BH hD p1 p2 λz=>ha (by unfold cg;rw[z,qE])
 have hf:∀c:Int,(p:Int)∣c^p-c:=λc=>by
  rw[<-e,<-kS]
  by_cases z:c%P=0
  ·have z':cg P c 0:=by unfold cg;rw[z,qE]
   refine cg.trans ?_ z'.symm
   obtain⟨n,rfl⟩:∃n,p=n+1:=⟨p-1,by lia⟩
   rw[ly]
   have:=(cg.refl (P:=P) (a:=c^n)).mul z'
   rwa [kd] at this
  ·have:=(Xs hD p1 p2 z).mul (cg.refl (P:=P) (a:=c))
   rw[<-ly,show(P-1).toNat.succ=p by lia,nP] at this
   exact this
 have kT:∀c:Int,¬(p:Int)∣c->∃u:Int,(p:Int)∣u*c-1:=λc hc=>by
  obtain⟨b,hb⟩:=hu c λz=>hc (by rw[kS,JY,e] at z;exact z)
  exact⟨b,by rw[kS,e] at hb;exact hb⟩
 have hb:mU P ((Op.X-1).1 a) (fQ (cs++[1]) Op.X):=λn=>by rw[<-jW];exact h n
 have Hb:=FH e ((Op.X-1).1 a)
 have H:=FH e a
 obtain⟨N,hN⟩:=XF Hb hp NP hf cs hl hM hb
 have h1:=Hb.XE (XH e hu (by lia) hl hb) kT hN
 have h2:mU P a ((Op.X^(M+1)-Op.X)^cs.length*(Op.X-1)):=λn=>by rw[jW];exact h1 n
 obtain⟨S,hS⟩:=FC Op.X M
 have e1:Op.X^(M+1)-Op.X=Op.X*(Op.X^M-1):=by rw[Semiring.pow_succ];grind
 rw[e1,BJ] at h2
 have h3:mU P a (Op.X^cs.length*(Op.X^M-1)^(cs.length+1)):=by
  refine H.of (H.mul S h2) ?_
  rw[Semiring.pow_succ,hS];grind
 have h4:mU P a (Op.X^cs.length*(Op.X^M-1)^(p^j)):=by
  obtain⟨r,hr⟩:∃r,p^j=cs.length+1+r:=⟨p^j-(cs.length+1),by lia⟩
  rw[hr,pI]
  exact H.of (H.mul ((Op.X^M-1)^r) h3) (by grind)
 have h5:=H.NG hp NP (Op.X^M) 1 j
 rw[Nz,<-rF] at h5
 have h6:=H.sub h4 (H.mul (Op.X^cs.length) h5)
 have h7:mU P a (Op.X^(cs.length+M*p^j)-Op.X^cs.length):=by
  refine H.of h6 ?_
  rw[pI];grind
 intro n
 have:=h7 n
 rw[vU,pJ,pJ] at this
 have q:=this.add (cg.refl (P:=P) (a:=a (n+cs.length)))
 rw[show n+cs.length+M*p^j=n+(cs.length+M*p^j) by lia]
 exact(cg.of_eq (by lia)).trans (q.trans (cg.of_eq (by lia)))
end
theorem NQ{P:Int}{e:Nat->Int}:∀(n i:Nat),i<=n->¬cg P (e i) 0->∃k,k<=n/\¬cg P (e k) 0/\∀j,k<j->j<=n->cg P (e j) 0
 | 0,i,h,ne=>⟨0,a7 _,by rwa [show i=0 by lia] at ne,λj a b=>by lia⟩
 | n+1,i,h,ne=>by
   by_cases z:cg P (e (n+1)) 0
   ·have hi:i<=n:=by
     rcases cG i (n+1) with w | w
     ·lia
     ·exact absurd z (by rwa [show i=n+1 by lia] at ne)
    obtain⟨k,k1,k2,k3⟩:=NQ n i hi ne
    refine⟨k,by lia,k2,λj a b=>?_⟩
    by_cases w:j=n+1
    ·rw[w];exact z
    ·exact k3 j a (by lia)
   ·exact⟨n+1,a7 _,z,λj a b=>by lia⟩
theorem NR{P:Int}{f:Nat->Int}{k:Nat}:∀n:Nat,k<=n->(∀j,k<=j->j<n->cg P (f j) 0)->cg P (aJ f n) (aJ f k)
 | 0,h,_=>cg.of_eq (by rw[show k=0 by lia])
 | n+1,h,q=>by
   by_cases e:k=n+1
   ·rw[e];exact cg.refl
   ·have h1:=(NR n (by lia) λj a b=>q j a (by lia)).add (q n (by lia) (by lia))
    rw[R4] at h1
    exact h1
theorem NS{P:Int}(t:List (List Int))(m:Nat)(w:Nat->Int)(v:Nat->Nat->Int)(i:Nat):∀k,cg P (jy t m (λc=>aJ (λj=>w j*v j c) k) i) (aJ (λj=>w j*jy t m (v j) i) k)
 | 0=>Xw t m (λ_=>cg.refl) i
 | k+1=>by
   have h:=Xv t m (λc=>aJ (λj=>w j*v j c) k) (v k) (w k) i
   show cg P (jy t m (λc=>aJ (λj=>w j*v j c) k+w k*v k c) i) (aJ (λj=>w j*jy t m (v j) i) k+w k*jy t m (v k) i)
   rw[h]
   exact(NS t m w v i k).add cg.refl
section
variable {P:Int}{p m:Nat}{t:List (List Int)}{s:List Int}
theorem XJ(hD:fx P=false)(p1:3<=P)(p2:P<=9973)(ht:b8 P m t)(hs:s.length=m):∃(k:Nat) (w:Nat->Int),1<=k/\k<=m+1/\∀n i,cg P (vec (jx (au P m t s (n+k))) i) (aJ (λj=>w j*vec (jx (au P m t s (n+j))) i) k):=by
 have hp:1<P:=by lia
 have hu:∀a:Int,¬cg P a 0->∃b:Int,cg P (b*a) 1:=λa ha=>BH hD p1 p2 λz=>ha (by unfold cg;rw[z,qE])
 obtain⟨e,⟨i,hi,ne⟩,he⟩:=dep hu hp (m+1) λi c=>vec (jx (au P m t s i)) c
 obtain⟨k,k1,k2,k3⟩:=NQ (m+1) i hi ne
 obtain⟨b,hb⟩:=hu _ k2
 have out:∀j c,¬c<m+1->vec (jx (au P m t s j)) c=0:=λj c hc=>by
  rw[rE (f7 hp ht j),if_neg (by lia),if_neg (by lia)]
 have base:∀c,cg P (aJ (λj=>e j*vec (jx (au P m t s j)) c) (k+1)) 0:=λc=>by
  by_cases hc:c<m+1
  ·refine(NR (m+1+1) (by lia) λj a b=>?_).symm.trans (he c hc)
   have:=(k3 j (by lia) (by lia)).mul (cg.refl (P:=P) (a:=vec (jx (au P m t s j)) c))
   rwa [mx] at this
  ·refine cg.of_eq (tw λj _=>?_)
   rw[out j c hc,kd]
 have hk:1<=k:=by
  rcases cG 0 k with z | z
  ·exact z
  ·exfalso
   have:=base m
   rw[show k=0 by lia] at this k2
   rw[eA,L6,rE (f7 hp ht 0),if_neg (jb m),if_pos rfl,mr,lq] at this
   exact k2 this
 refine⟨k,λj=>- b*e j,hk,k1,λn=>?_⟩
 induction n with
 | zero =>
   intro c
   have h1:=base c
   rw[eA] at h1
   have e1:aJ (λj=>- b*e j*vec (jx (au P m t s (0+j))) c) k = - b*aJ (λj=>e j*vec (jx (au P m t s j)) c) k:=by
    rw[<-tq]
    exact eW λj _=>by rw[fE,e_]
   rw[e1,fE]
   generalize aJ (λj=>e j*vec (jx (au P m t s j)) c) k=q at *
   generalize vec (jx (au P m t s k)) c=y at *
   generalize e k=ek at *
   rw[kS] at *
   obtain⟨u,hu⟩:=h1
   obtain⟨v,hv⟩:=hb
   exact⟨b*u-v*y,by grind⟩
 | succ n ih =>
   intro c
   have st:∀j,au P m t s (n+1+j)=bT P t (au P m t s (n+j)):=λj=>by
    rw[show n+1+j=(n+j)+1 by lia,Nt hp ht hs]
   have l1:=Nu (P:=P) ht (f7 (s:=s) hp ht (n+k)) c
   rw[st k]
   refine l1.trans ((Nv ih c).trans ((NS t m _ _ c k).trans (cg.aJ λj _=>?_)))
   rw[st j]
   exact cg.refl.mul (Nu ht (f7 hp ht (n+j)) c).symm
theorem XM(e:P=p)(hD:fx P=false)(p1:3<=P)(p2:P<=9973)(m3:m<=3)(ht:b8 P m t)(hs:s.length=m){M j:Nat}(hM:∀k,1<=k->k<=m->(p^k-1)∣M)(hj:m+1<=p^j)(n:Nat)(hn:m<=n):au P m t s (n+M*p^j)=au P m t s n:=by
 have hp:1<P:=by lia
 obtain⟨k,w,k1,k2,hw⟩:=XJ (s:=s) hD p1 p2 ht hs
 refine MW (by lia) (f7 hp ht _) (f7 hp ht _) (pH (by lia) _) (pH (by lia) _) λc=>?_
 by_cases hc:c<m
 ·have av:∀j,vec (jx (au P m t s j)) c=vec (au P m t s j) c:=λj=>by rw[rE (f7 hp ht j),if_pos hc]
  have am:∀j,vec (jx (au P m t s j)) m=1:=λj=>by rw[rE (f7 hp ht j),if_neg (jb m),if_pos rfl]
  have r1:∀n,cg P (vec (au P m t s (n+k)) c) (aJ (λj=>w j*vec (au P m t s (n+j)) c) k):=λn=>by
   have:=hw n c
   rw[av] at this
   exact this.trans (cg.of_eq (eW λj _=>by rw[av]))
  have r2:cg P 1 (aJ w k):=by
   have:=hw 0 m
   rw[am] at this
   exact this.trans (cg.of_eq (eW λj _=>by rw[am,lq]))
  generalize ha:(λn=>vec (au P m t s n) c)=a at *
  have ea:∀n,vec (au P m t s n) c=a n:=λn=>by rw[<-ha]
  simp only[ea] at r1 ⊢
  have fin:∀cs:List Int,cs.length=k-1->mU P a (fQ (cs++[1]) Op.X*(Op.X-1))->cg P (a (n+M*p^j)) (a n):=λcs hl hk=>by
   have:=XI e hD p1 p2 (by lia) hk (M:=M) (j:=j) (λi i1 i2=>hM i i1 (by lia)) (by lia) (n-cs.length)
   rw[show n-cs.length+cs.length=n by lia] at this
   exact this
  have kc:k=1∨k=2∨k=3∨k=4:=by lia
  rcases kc with rfl | rfl | rfl | rfl
  ·refine fin [] rfl λn=>?_
   have h1:=r1 n
   rw[show([]:List Int)++[1]=[1] from rfl,FD,jW,rG,vU,lW,rG]
   simp only[aJ,mr,nO] at h1 r2
   rw[kS] at *
   obtain⟨x,hx⟩:=h1
   obtain⟨y,hy⟩:=r2
   exact⟨x-y*a n,by grind⟩
  ·refine fin [w 0] rfl λn=>?_
   have h1:=r1 n
   rw[show[w 0]++[1]=[w 0,1] from rfl,FE,jW,kv,lV,lW,vU,vU,lW,lW,rG,rG]
   simp only[aJ,mr,nO] at h1 r2
   rw[kS] at *
   obtain⟨x,hx⟩:=h1
   obtain⟨y,hy⟩:=r2
   exact⟨x-y*a (n+1),by grind⟩
  ·refine fin [w 0,w 0+w 1] rfl λn=>?_
   have h1:=r1 n
   rw[show[w 0,w 0+w 1]++[1]=[w 0,w 0+w 1,1] from rfl,FF,jW,kv,kv,lV,jW,lV,lW,pJ]
   simp only[vU,lW,rG]
   simp only[aJ,mr,nO] at h1 r2
   rw[kS] at *
   obtain⟨x,hx⟩:=h1
   obtain⟨y,hy⟩:=r2
   exact⟨x-y*a (n+2),by grind⟩
  ·refine fin [w 0,w 0+w 1,w 0+w 1+w 2] rfl λn=>?_
   have h1:=r1 n
   rw[show[w 0,w 0+w 1,w 0+w 1+w 2]++[1]=[w 0,w 0+w 1,w 0+w 1+w 2,1] from rfl,FG,jW,kv,kv,kv,lV,jW,lV,lW,jW,lV,pJ,pJ]
   simp only[vU,lW,rG]
   simp only[aJ,mr,nO] at h1 r2
   rw[kS] at *
   obtain⟨x,hx⟩:=h1
   obtain⟨y,hy⟩:=r2
   exact⟨x-y*a (n+3),by grind⟩
 ·have:∀j,vec (au P m t s j) c=0:=λj=>by
   unfold vec
   rw[fK (by rw[f7 hp ht];lia)];rfl
  rw[this,this];exact cg.refl
end
end L3
namespace L3
open PySem
noncomputable section
def NT:G->R Fl :=
 (aE (c5 4 (gO az))
 (aE (fP 5 (fW (gV 3))
 (aE (gP 4 (aG (gV 2)))
 (aX 2 (aG (aH ox (ae (gV 0) (ae (gV 1) (ae (gV 2) az))))))))
 (mM 4)))
def yC:List D->R (List D):=ju 4 6 NT
def NU:G->R Fl :=
 (aE (aX 5 (aG (aH vJ (ae (gV 0) (ae (gV 1) (ae (gV 2) az))))))
 (rf (jt yC (ae (gV 0) (ae (gV 5) (ae (aH ox (ae (gV 0) (ae (gV 5) (ae (gV 4) az)))) (ae (ao hJ (ao kg (ao b7 (gV 3) (gV 2)) (gC (.int 1))) (gV 2)) az)))))))
def FI:List D->R (List D):=ju 5 6 NU
def NV:G->R Fl :=
 (aE (aX 1 (aG (gC (.int 0))))
 (aE (dh (gT (ao qY (ao cX (gV 1) (gV 1)) (gV 0))) (aX 1 (aG (ao b7 (gV 1) (gC (.int 1))))) 200)
 (br (gV 1))))
def FJ:List D->R D:=cn 1 2 NV
def NW:G->R Fl :=
 (aE (aX 6 (aG (aH FJ (ae (gV 3) az))))
 (aE (c5 7 (jt yC (ae (gV 0) (ae (gV 1) (ae (gV 5) (ae (gV 6) az))))))
 (aE (c5 8 (jt FI (ae (gV 0) (ae (gV 1) (ae (gV 6) (ae (gV 3) (ae (gV 4) az)))))))
 (aE (yb 8 (vt 9 10 (x1m (dt 8))
 (cy (gT (ao mP (gV 10) (gV 7))) (br (cq (ae (gC (.str "after")) (ae (ao kg (ao b7 (gV 2) (ao cX (gV 9) (gV 6))) (z9j (gV 7) (gV 10))) az)))) cQ)))
 (br (cq (ae (gC (.str "apart")) (ae (gV 2) (ae (gV 3) (ae (gV 7) (ae (gV 8) az)))))))))))
def yD:List D->R D:=cn 6 11 NW
def NX:G->R Fl :=
 (aE (fP 4 (lJ (gL (jt Bv (ae (gV 1) (ae (gV 2) az)))))
 (aX 3 (aG (aH ox (ae (gV 0) (ae (gV 4) (ae (gV 3) az)))))))
 (br (gV 3)))
def rH:List D->R D:=cn 4 5 NX
def NY:G->R Fl :=
 (aE (c5 2 (gO (ae (ao kg (gV 0) (gC (.int 1))) az)))
 (aE (aX 3 (aG (gC (.int 1))))
 (aE (fP 4 (fW (gV 1))
 (aE (gP 2 (aG (gV 3)))
 (aX 3 (aG (ao b7 (ao cX (gV 3) (gV 0)) (gC (.int 1)))))))
 (aE (aX 5 (aG (gC (.int 1))))
 (aE (dh (gT (ao qY (gV 5) (ao b7 (gV 1) (gC (.int 1))))) (aE (gP 2 (aG (gV 0)))
 (aX 5 (aG (ao cX (gV 5) (gV 0))))) 10)
 (mM 2))))))
def BO:List D->R (List D):=ju 2 6 NY
def NZ:G->R Fl :=
 (aE (dh (gT (ao eV (ao df (gV 0) (gV 1)) (gC (.int 0)))) (aX 0 (aG (ao hJ (gV 0) (gV 1)))) 100)
 (br (gV 0)))
def FK:List D->R D:=cn 2 2 NZ
def N1:G->R Fl :=
 (aE (c5 1 (gO az))
 (aE (dh (gT (ao A7 (gV 0) (gC (.int 1)))) (aE (gP 1 (aG (aH BG (ae (gV 0) az))))
 (aX 0 (aG (aH FK (ae (gV 0) (ae (ao aL (gV 1) (xS (gC (.int 1)))) az)))))) 100)
 (mM 1)))
def FL:List D->R (List D):=ju 1 2 N1
def N2:G->R Fl :=
 (aE (c5 1 (gO az))
 (aE (fP 2 (lJ (dt 0))
 (s_ 1 (jt FL (ae (gV 2) az))))
 (rf (Bo (gV 1)))))
def FN:List D->R (List D):=ju 1 3 N2
def N3:G->R Fl :=
 (aE (aX 1 (aG (gC (.int 1))))
 (aE (fP 2 (lJ (dt 0))
 (aX 1 (aG (ao y9x (gV 1) (gV 2)))))
 (br (gV 1))))
def FO:List D->R D:=cn 1 3 N3
def FP:G->R Fl :=
 (aE (fP 5 (lJ (dt 3))
 (dh (xR (gT (ao eV (ao df (gV 2) (gV 5)) (gC (.int 0)))) (gT (ao eV (aH rH (ae (gV 0) (ae (gV 1) (ae (ao hJ (gV 2) (gV 5)) (ae (gV 4) az))))) (gV 4)))) (aX 2 (aG (ao hJ (gV 2) (gV 5)))) 200))
 (br (gV 2)))
def FQ:List D->R D:=cn 5 6 FP
def FR:G->R Fl :=
 (aE (aX 4 (aG (gC (.int 0))))
 (aE (dh (gT (ao iG (aH rH (ae (gV 0) (ae (gV 1) (ae (gV 2) (ae (gV 3) az))))) (gV 3))) (aE (aX 3 (aG (aH ox (ae (gV 0) (ae (ao aL (gV 1) (gC (.int 0))) (ae (gV 3) az))))))
 (aX 4 (aG (ao b7 (gV 4) (gC (.int 1)))))) 10)
 (br (gV 4))))
def FT:List D->R D:=cn 4 5 FR
def N4:G->R Fl :=
 (aE (aX 3 (aG (aH jS (ae (gV 1) az))))
 (aE (c5 4 (jt BO (ae (gV 0) (ae (gV 3) az))))
 (aE (aX 5 (aG (aH FO (ae (gV 4) az))))
 (aE (c5 6 (jt FN (ae (gV 4) az)))
 (aE (c5 7 (jt Bu (ae (gV 0) (ae (gV 1) (ae (gV 5) az)))))
 (aE (aX 8 (aG (aH FQ (ae (gV 0) (ae (gV 7) (ae (gV 5) (ae (gV 6) (ae (aH rH (ae (gV 0) (ae (gV 7) (ae (gV 3) (ae (gV 2) az))))) az))))))))
 (br (cq (ae (aH FT (ae (gV 0) (ae (gV 7) (ae (gV 8) (ae (gV 2) az))))) (ae (gV 8) (ae (gL (dg (ki (gV 6)) (pA (gT (ao eV (ao df (gV 9) (gV 0)) (gC (.int 0)))) (aG (gV 0))))) az)))))))))))
def yE:List D->R D:=cn 3 9 N4
def N5:G->R Fl :=
 (aE (aX 5 (aG (aH (lQ 12) (ae (gV 0) (ae (gV 1) (ae (gV 2) az))))))
 (aE (aX 6 (z8m yE (ae (dt 0) (ae (dt 5) (ae (dt 3) az)))))
 (aE (aX 7 (aG (ao aL (gV 6) (gC (.int 0)))))
 (aE (aX 8 (aG (ao aL (gV 6) (gC (.int 1)))))
 (aE (cy (gT (ao A7 (gV 8) (gC (.int 10000)))) (Bm .tooLong) cQ)
 (aE (c5 9 (jt yC (ae (gV 0) (ae (gV 5) (ae (gV 3) (ae (ao b7 (gV 7) (gC (.int 1))) az))))))
 (aE (cy (gT (ao mP (gV 4) (gV 9))) (br (cq (ae (gC (.str "after")) (ae (z9j (gV 9) (gV 4)) az)))) cQ)
 (aE (cy (gT (ao iG (aH ox (ae (gV 0) (ae (aH vJ (ae (gV 0) (ae (gV 5) (ae (gV 8) az)))) (ae (gV 4) az)))) (gV 4))) (br (cq (ae (gC (.str "off")) (ae (gV 7) (ae (gV 8) az))))) cQ)
 (br (z8m yD (ae (dt 0) (ae (dt 5) (ae (dt 7) (ae (dt 8) (ae (aG (ao aL (gV 9) (gV 7))) (ae (dt 4) az))))))))))))))))
def vV:List D->R D:=cn 5 10 N5
def XN:G->R Fl :=
 (br (z8m yE (ae (dt 0) (ae (aG (aH (lQ 12) (ae (gV 0) (ae (gV 1) (ae (gV 2) az))))) (ae (dt 3) az)))))
def BP:List D->R D:=cn 4 4 XN
end
noncomputable section
end
noncomputable section
def N6:G->R Fl :=
 (aE (EI 3 4 5 (lJ (dt 1))
 (aE (aX 6 (aG (ao b7 (ao aL (gV 5) (gC (.int 3))) (aH jT (ae (gL (dg (fW (gC (.int 3))) (eh (aG (ao cX (ao aL (gV 6) (gV 0)) (ao aL (gV 3) (gV 0))))))) az)))))
 (aX 2 (aG (ao b7 (ao b7 (lI (gV 2) lG (lH (gV 4))) (cq (ae (ao df (gV 6) (gV 0)) az))) (lI (gV 2) (lH (ao b7 (gV 4) (gC (.int 1)))) lG))))))
 (br (gV 2)))
def FU:List D->R D:=cn 3 7 N6
def N7:G->R Fl :=
 (aE (c5 3 (gO (mJ [0,0,0,0])))
 (aE (lK 3 (gV 0) (aG (gC (.int 1))))
 (aE (lK 3 (gV 1) (aG (gV 2)))
 (br (cq (ae (gC (.str "set")) (ae (gV 0) (ae (aH h_ (ae (gV 3) az)) az))))))))
def yF:List D->R D:=cn 3 4 N7
def N8:G->R Fl :=
 (aE (aX 2 (aG (ao aL (gV 1) (gC (.int 1)))))
 (aE (aX 3 (aG (ao aL (gL (dg (Bj (gC (.int 1)) (gV 0)) (pA (gT (ao eV (ao df (ao cX (gV 0) (ao aL (ao aL (gV 2) (gC (.int 2))) (gV 3))) (gV 1)) (gC (.int 1)))) (aG (gV 0))))) (gC (.int 0)))))
 (aE (c5 4 (dg (ki (ao aL (gV 1) (gC (.int 2)))) (eh (aG (ao df (ao cX (ao kg (gV 1) (gV 0)) (gV 4)) (gV 1))))))
 (aE (lK 4 (gV 2) (aG (gV 3)))
 (br (cq (ae (gC (.str "set")) (ae (gV 2) (ae (aH h_ (ae (gV 4) az)) az)))))))))
def FV:List D->R D:=cn 2 5 N8
def FW:G->R Fl :=
 (aE (aX 3 (aG (ao df (gV 0) (gC (.int 3)))))
 (aE (aX 4 (aG (aH vA (ae (gV 1) (ae (gV 2) (ae (gC (.int 4)) az))))))
 (aE (cy (gT (ao eV (ao aL (gV 4) (gV 3)) (gC (.int 0)))) (aX 4 (aG (ao b7 (ao b7 (lI (gV 4) lG (lH (gV 3))) (cq (ae (ao b7 (gC (.int 1)) (ao df (ao hJ (gV 0) (gC (.int 3))) (ao kg (gV 2) (gC (.int 1))))) az))) (lI (gV 4) (lH (ao b7 (gV 3) (gC (.int 1)))) lG)))) cQ)
 (br (cq (ae (gC (.str "set")) (ae (gV 3) (ae (gV 4) az))))))))
def FX:List D->R D:=cn 3 5 FW
def FY:G->R Fl :=
 (aE (c5 2 (gO (ae (cq (mJ [0,1,2])) (ae (cq (mJ [0,2,1])) (ae (cq (mJ [1,0,2])) (ae (cq (mJ [1,2,0])) (ae (cq (mJ [2,0,1])) (ae (cq (mJ [2,1,0])) az))))))))
 (aE (aX 3 (aG (ao aL (gV 2) (ao df (aH lO (ae (gV 0) (ae (gC (.int 1)) az))) (gC (.int 6))))))
 (aE (c5 4 (dg (ki (cq (mJ [1,12,144]))) (eh (aG (ao b7 (gC (.int 1)) (ao df (ao hJ (aH (gq lO) (ae (gV 1) (ae (gC (.int 2)) az))) (gV 0)) (ao kg (gV 2) (gC (.int 1)))))))))
 (aE (c5 5 (gO (ae (aH yF (ae (ao aL (gV 3) (gC (.int 0))) (ae (ao aL (gV 3) (gC (.int 1))) (ae (ao aL (gV 4) (gC (.int 0))) az)))) (ae (aH yF (ae (ao aL (gV 3) (gC (.int 1))) (ae (ao aL (gV 3) (gC (.int 2))) (ae (ao aL (gV 4) (gC (.int 1))) az)))) az))))
 (aE (gP 5 (aG (aH yF (ae (ao aL (gV 3) (gC (.int 2))) (ae (gC (.int 3)) (ae (ao aL (gV 4) (gC (.int 2))) az))))))
 (aE (fP 6 (EB (gC (.int 4)) (ao kg (aH Bc (ae (aH jS (ae (gV 0) az)) (ae (gC (.int 14)) az))) (gC (.int 1))) (gC (.int 2)))
 (aE (aX 7 (aG (aH FX (ae (ao aL (gV 0) (gV 6)) (ae (ao aL (gV 0) (ao b7 (gV 6) (gC (.int 1)))) (ae (gV 1) az))))))
 (c5 5 (Bd (xW (gL (gO (ae (gV 7) az))) (gV 5)) (gO (ae (aH FV (ae (gV 1) (ae (gV 7) az))) az))))))
 (mM 5)))))))
def FZ:List D->R (List D):=ju 2 8 FY
def N9:G->R Fl :=
 (aE (cy (qW (pk (gT (sZ vj (gV 0)))) (qW (gT (ao iG (aH jS (ae (gV 0) az)) (gC (.int 3)))) (pk (gT (sZ Bh (ao aL (gV 0) (gC (.int 2)))))))) (br (gC (.bl false))) cQ)
 (aE (cy (pk (gT (aH sY (ae (gL (dg (ki (gL (xW (gL (gO (ae (ao aL (gV 0) (gC (.int 0))) (ae (ao aL (gV 0) (gC (.int 1))) az)))) (ao aL (gV 0) (gC (.int 2)))))) (eh (aG (aH (gq vB) (ae (gV 0) az)))))) az)))) (br (gC (.bl false))) cQ)
 (br (ao eV (gV 0) (cq (ae (gC (.int 0)) (ae (gV 1) (ae (gL (gO (ae (gV 2) az))) az))))))))
def F0:List D->R D:=cn 3 3 N9
end
mutual
def Item.go(P:Int):Item->List Int->List Int
 | .set x f,s=>s.set x.toNat (cB f s%P)
 | .again n its,s=>Nat.repeat (Item.cb P its) n.toNat s
def Item.cb(P:Int):List Item->List Int->List Int
 | [],s=>s
 | a::r,s=>Item.cb P r (a.go P s)
end
theorem Item.N_{P:Int}:∀{a b:List Item} {s:List Int},Item.cb P (a++b) s=Item.cb P b (Item.cb P a s)
 | [],b,s=>by simp[Item.cb]
 | x::a,b,s=>by rw[R6,Item.cb,Item.N_ (a:=a)];rfl
theorem Oa{P:Int}{m:Nat}{t:List (List Int)}{s:List Int}(hp:0<P)(ht:b8 P m t):(bT P t s).length=m/\bJ P (bT P t s):=⟨by rw[rm];exact ht.1,EX hp t s⟩
theorem F4{P:Int}{m:Nat}{t:List (List Int)}{f:List Int->List Int}(hp:1<P)(ht:b8 P m t)(hf:∀s,s.length=m->bJ P s->f s=bT P t s){s:List Int}(hs:s.length=m)(so:bJ P s):∀k,Nat.repeat f k s=bT P (bw P m t k) s
 | 0=>(vF hs so).symm
 | k+1=>by
   show f (Nat.repeat f k s)=bT P (dM P (bw P m t k) t) s
   rw[F4 hp ht hf hs so k,oy (iH hp ht k).1 hs]
   have:=Oa (s:=s) (show 0<P by lia) (iH hp ht k)
   exact hf _ this.1 this.2
mutual
theorem Item.XO{P:Int}{m:Nat}(hp:1<P):∀(a:Item) {s:List Int},a.ok P m->s.length=m->bJ P s->a.go P s=bT P (a.tab P m) s
 | .set x f,s,ho,hs,so=>by
   show s.set x.toNat (cB f s%P)=bT P ((fZ m).set x.toNat f) s
   unfold bT
   rw[De]
   have:=vF hs so
   unfold bT at this
   rw[this]
 | .again n its,s,ho,hs,so=>by
   simp only[Item.ok] at ho
   exact F4 hp (Item.tabs_ok hp its ho.2.2) (λs' h1 h2=>Item.F5 hp its ho.2.2 h1 h2) hs so n.toNat
theorem Item.F5{P:Int}{m:Nat}(hp:1<P):∀(its:List Item) {s:List Int},Item.eB P m its->s.length=m->bJ P s->Item.cb P its s=bT P (Item.tabs P m its) s
 | [],s,_,hs,so=>(vF hs so).symm
 | a::r,s,ho,hs,so=>by
   simp only[Item.eB] at ho
   show Item.cb P r (a.go P s)=bT P (dM P (a.tab P m) (Item.tabs P m r)) s
   have ha:=Item.yw hp a ho.1
   rw[Item.XO hp a ho.1 hs so,oy ha.1 hs]
   have:=Oa (s:=s) (show 0<P by lia) ha
   exact Item.F5 hp r ho.2 this.1 this.2
end
def dN(P:Int)(s:List Int):Prop:=s.length=3/\bJ P s
def i5(P:Int)(due:Nat)(f:List Int->List Int):Prop:=(∀s,dN P s->dN P (f s))/\∀s,dN P s->Nat.repeat f due s=s/\∀k,0<k->k<due->Nat.repeat f k s≠s
theorem vW{P:Int}{f:List Int->List Int}(h:∀s,dN P s->dN P (f s)){s:List Int}(hs:dN P s):∀k,dN P (Nat.repeat f k s)
 | 0=>hs
 | k+1=>h _ (vW h hs k)
theorem i5.XQ{P:Int}{due:Nat}{f U V:List Int->List Int}(h:i5 P due f)(hU:∀s,dN P s->dN P (U s))(hV:∀s,dN P s->dN P (V s))(e1:∀s,dN P s->V (U s)=s)(e2:∀s,dN P s->U (V s)=s):i5 P due λs=>V (f (U s)):=by
 obtain⟨h1,h2⟩:=h
 have rep:∀s,dN P s->∀k,Nat.repeat (λs=>V (f (U s))) k s=V (Nat.repeat f k (U s)):=λs hs k=>by
  induction k with
  | zero=>exact(e1 s hs).symm
  | succ k ih =>
    show V (f (U (Nat.repeat _ k s)))=V (f (Nat.repeat f k (U s)))
    rw[ih,e2 _ (vW h1 (hU s hs) k)]
 refine⟨λs hs=>hV _ (h1 _ (hU s hs)),λs hs=>?_⟩
 obtain⟨h3,h4⟩:=h2 (U s) (hU s hs)
 refine⟨by rw[rep s hs,h3,e1 s hs],λk k0 k1 z=>h4 k k0 k1 ?_⟩
 rw[rep s hs] at z
 have:=congrArg U z
 rw[e2 _ (vW h1 (hU s hs) k)] at this
 exact this
theorem yG{P a u:Int}(h0:0<=a)(h1:a<P)(h:∃q,u=a+P*q):u%P=a:=by
 obtain⟨q,rfl⟩:=h
 rw[a6c,jg h0 h1]
theorem oC(u P:Int):∃q,u%P=u-P*q:=⟨u/P,by rw[Int.emod_def]⟩
theorem F6{P n f g1 g2 g3 a b c:Int}(hn:n*f%P=1)(h0:0<=a)(h1:a<P):(n*((f*a+g1*b+g2*c+g3)%P)+(P-g1)*n%P*b+(P-g2)*n%P*c+(P-g3)*n%P)%P=a:=by
 obtain⟨q0,e0⟩:=oC (f*a+g1*b+g2*c+g3) P
 obtain⟨q1,e1⟩:=oC ((P-g1)*n) P
 obtain⟨q2,e2⟩:=oC ((P-g2)*n) P
 obtain⟨q3,e3⟩:=oC ((P-g3)*n) P
 obtain⟨q,e⟩:=oC (n*f) P
 rw[hn] at e
 refine yG h0 h1 ⟨q*a-n*q0+n*b-q1*b+n*c-q2*c+n-q3,?_⟩
 rw[e0,e1,e2,e3]
 have e':n*f=1+P*q:=by lia
 clear e0 e1 e2 e3 e hn
 grind
theorem F8{P n f g1 g2 g3 a b c:Int}(hn:n*f%P=1)(h0:0<=a)(h1:a<P):(f*((n*a+(P-g1)*n%P*b+(P-g2)*n%P*c+(P-g3)*n%P)%P)+g1*b+g2*c+g3)%P=a:=by
 obtain⟨q0,e0⟩:=oC (n*a+(P-g1)*n%P*b+(P-g2)*n%P*c+(P-g3)*n%P) P
 obtain⟨q1,e1⟩:=oC ((P-g1)*n) P
 obtain⟨q2,e2⟩:=oC ((P-g2)*n) P
 obtain⟨q3,e3⟩:=oC ((P-g3)*n) P
 obtain⟨q,e⟩:=oC (n*f) P
 rw[hn] at e
 refine yG h0 h1 ⟨q*a-f*q0+f*n*b-f*q1*b-q*g1*b+f*n*c-f*q2*c-q*g2*c+f*n-f*q3-q*g3,?_⟩
 rw[e0,e1,e2,e3]
 have e':n*f=1+P*q:=by lia
 clear e0 e1 e2 e3 e hn
 grind
theorem ic(f0 f1 f2 f3 a b c:Int):cB [f0,f1,f2,f3] [a,b,c]=f0*a+f1*b+f2*c+f3:=by
 simp[cB,aJ]
theorem rJ{s:List Int}(h:s.length=3):∃a b c,s=[a,b,c]:=by
 match s,h with
 | [a,b,c],_=>exact⟨a,b,c,rfl⟩
theorem Ob{s:List Int}(h:s.length=4):∃a b c d,s=[a,b,c,d]:=by
 match s,h with
 | [a,b,c,d],_=>exact⟨a,b,c,d,rfl⟩
theorem rK{P a b c:Int}:dN P [a,b,c]↔(0<=a/\a<P)/\(0<=b/\b<P)/\(0<=c/\c<P):=by
 simp[dN,bJ]
def iJ(P n:Int)(x:Nat)(f:List Int):List Int:=(f.map λg=>(P-g)*n%P).set x n
theorem F9{P:Int}(hp:0<P){x:Nat}{f s:List Int}(hs:dN P s):dN P ((Item.set x f).go P s):=by
 obtain⟨h1,h2⟩:=hs
 refine⟨by simp[Item.go,h1],λv hv=>?_⟩
 rw[Item.go] at hv
 rcases Dj hv with z | z
 ·exact h2 v z
 ·rw[z];exact⟨kn hp,ko hp⟩
theorem Oc{P n:Int}{x:Nat}{f s:List Int}(hx:x<3)(hf:f.length=4)(hn:n*(f[x]?).getD 0%P=1)(hs:dN P s) :
 (Item.set x (iJ P n x f)).go P ((Item.set x f).go P s)=s/\(Item.set x f).go P ((Item.set x (iJ P n x f)).go P s)=s:=by
 obtain⟨a,b,c,rfl⟩:=rJ hs.1
 obtain⟨f0,f1,f2,f3,rfl⟩:=Ob hf
 obtain⟨⟨a0,a1⟩,⟨b0,b1⟩,⟨c0,c1⟩⟩:=rK.mp hs
 match x,hx with
 | 0,_ =>
   have gm:n*f0%P=1:=hn
   have u:∀(g:List Int) (a:Int),(Item.set ((0:Nat):Int) g).go P [a,b,c]=[cB g [a,b,c]%P,b,c]:=λg a=>by rw[Item.go];rfl
   have v:iJ P n 0 [f0,f1,f2,f3]=[n,(P-f1)*n%P,(P-f2)*n%P,(P-f3)*n%P]:=rfl
   rw[v,u,u,u,u,ic,ic,ic,ic,F6 gm a0 a1,F8 gm a0 a1]
   exact⟨rfl,rfl⟩
 | 1,_ =>
   have gm:n*f1%P=1:=hn
   have u:∀(g:List Int) (b:Int),(Item.set ((1:Nat):Int) g).go P [a,b,c]=[a,cB g [a,b,c]%P,c]:=λg a=>by rw[Item.go];rfl
   have v:iJ P n 1 [f0,f1,f2,f3]=[(P-f0)*n%P,n,(P-f2)*n%P,(P-f3)*n%P]:=rfl
   have h1:=F6 (g1:=f0) (g2:=f2) (g3:=f3) (b:=a) (c:=c) gm b0 b1
   have h2:=F8 (g1:=f0) (g2:=f2) (g3:=f3) (b:=a) (c:=c) gm b0 b1
   rw[v,u,u,u,u,ic,ic,ic,ic,oX (f0*a) (f1*b),oX ((P-f0)*n%P*a),oX ((P-f0)*n%P*a) (n*b),h1,oX (f0*a),h2]
   exact⟨rfl,rfl⟩
 | 2,_ =>
   have gm:n*f2%P=1:=hn
   have u:∀(g:List Int) (c:Int),(Item.set ((2:Nat):Int) g).go P [a,b,c]=[a,b,cB g [a,b,c]%P]:=λg a=>by rw[Item.go];rfl
   have v:iJ P n 2 [f0,f1,f2,f3]=[(P-f0)*n%P,(P-f1)*n%P,n,(P-f3)*n%P]:=rfl
   have h1:=F6 (g1:=f0) (g2:=f1) (g3:=f3) (b:=a) (c:=b) gm c0 c1
   have h2:=F8 (g1:=f0) (g2:=f1) (g3:=f3) (b:=a) (c:=b) gm c0 c1
   have s1:∀p q r:Int,p+q+r=r+p+q:=λp q r=>by lia
   rw[v,u,u,u,u,ic,ic,ic,ic,s1 (f0*a) (f1*b) (f2*c),s1 ((P-f0)*n%P*a),s1 ((P-f0)*n%P*a) ((P-f1)*n%P*b) (n*c),h1,s1 (f0*a) (f1*b),h2]
   exact⟨rfl,rfl⟩
def jA(x k:Nat)(n:Int):Item:=.set x ((([0,0,0,0]:List Int).set x 1).set k n)
structure XR (mk:Int->Int->Int->List Int):Prop where
 ok:∀P x y z,dN P (mk x y z)↔(0<=x/\x<P)/\(0<=y/\y<P)/\(0<=z/\z<P)
 inj:∀x y z x' y' z',mk x y z=mk x' y' z'->x=x'/\y=y'/\z=z'
 all:∀s:List Int,s.length=3->∃x y z,s=mk x y z
def kU(b:Nat×Nat×Nat)(n0 n1 n2:Int):List Item:=[jA b.1 b.2.1 n0,jA b.2.1 b.2.2 n1,jA b.2.2 3 n2]
theorem XS{b:Nat×Nat×Nat}(hb:b∈[(0,1,2),(0,2,1),(1,0,2),(1,2,0),(2,0,1),(2,1,0)]):∃mk,XR mk/\∀P n0 n1 n2 x y z,Item.cb P (kU b n0 n1 n2) (mk x y z)=mk ((x+n0*y)%P) ((y+n1*z)%P) ((z+n2)%P):=by
 have go:∀(P:Int) (x k:Nat) (n:Int) (s:List Int),(jA x k n).go P s=s.set x (cB ((([0,0,0,0]:List Int).set x 1).set k n) s%P):=λP x k n s=>by unfold jA;rw[Item.go];rfl
 simp only[fF,gN,or_false] at hb
 rcases hb with rfl | rfl | rfl | rfl | rfl | rfl
 ·refine⟨λx y z=>[x,y,z],⟨λP x y z=>rK,λx y z x' y' z' h=>by simpa using h,λs h=>rJ h⟩,λP n0 n1 n2 x y z=>?_⟩
  simp only[kU,Item.cb,go,Ao,Ap,ic]
  simp
 ·refine⟨λx y z=>[x,z,y],⟨λP x y z=>rK.trans (by grind),λx y z x' y' z' h=>by simp at h;lia,λs h=>let ⟨a,b,c,e⟩:=rJ h;⟨a,c,b,e⟩⟩,λP n0 n1 n2 x y z=>?_⟩
  simp only[kU,Item.cb,go,Ao,Ap,ic]
  simp[oX]
 ·refine⟨λx y z=>[y,x,z],⟨λP x y z=>rK.trans (by grind),λx y z x' y' z' h=>by simp at h;lia,λs h=>let ⟨a,b,c,e⟩:=rJ h;⟨b,a,c,e⟩⟩,λP n0 n1 n2 x y z=>?_⟩
  simp only[kU,Item.cb,go,Ao,Ap,ic]
  simp[oX]
 ·refine⟨λx y z=>[z,x,y],⟨λP x y z=>rK.trans (by grind),λx y z x' y' z' h=>by simp at h;lia,λs h=>let ⟨a,b,c,e⟩:=rJ h;⟨b,c,a,e⟩⟩,λP n0 n1 n2 x y z=>?_⟩
  simp only[kU,Item.cb,go,Ao,Ap,ic]
  simp[oX]
 ·refine⟨λx y z=>[y,z,x],⟨λP x y z=>rK.trans (by grind),λx y z x' y' z' h=>by simp at h;lia,λs h=>let ⟨a,b,c,e⟩:=rJ h;⟨c,a,b,e⟩⟩,λP n0 n1 n2 x y z=>?_⟩
  simp only[kU,Item.cb,go,Ao,Ap,ic]
  simp[oX]
 ·refine⟨λx y z=>[z,y,x],⟨λP x y z=>rK.trans (by grind),λx y z x' y' z' h=>by simp at h;lia,λs h=>let ⟨a,b,c,e⟩:=rJ h;⟨c,b,a,e⟩⟩,λP n0 n1 n2 x y z=>?_⟩
  simp only[kU,Item.cb,go,Ao,Ap,ic]
  simp[oX]
def jX:Nat->Int
 | 0=>0
 | k+1=>jX k+k
def pK:Nat->Int
 | 0=>0
 | k+1=>pK k+jX k
theorem Od(A B n P:Int):(A%P+n*(B%P))%P=(A+n*B)%P:=by
 rw[JP,JQ,Int.emod_emod,Int.emod_emod,<-JQ,<-JP]
theorem Oe{f:List Int->List Int}{mk:Int->Int->Int->List Int}{P n0 n1 n2:Int}(h:∀x y z,f (mk x y z)=mk ((x+n0*y)%P) ((y+n1*z)%P) ((z+n2)%P)){x y z:Int}(hx:0<=x/\x<P)(hy:0<=y/\y<P)(hz:0<=z/\z<P) :
 ∀k,Nat.repeat f k (mk x y z)=mk ((x+k*n0*y+jX k*n0*n1*z+pK k*n0*n1*n2)%P) ((y+k*n1*z+jX k*n1*n2)%P) ((z+k*n2)%P)
 | 0=>by
   show mk x y z=_
   simp[jX,pK,jg hx.1 hx.2,jg hy.1 hy.2,jg hz.1 hz.2]
 | k+1=>by
   show f (Nat.repeat f k (mk x y z))=_
   rw[Oe h hx hy hz k,h,Od,Od,Int.emod_add_emod]
   have e1:x+k*n0*y+jX k*n0*n1*z+pK k*n0*n1*n2+n0*(y+k*n1*z+jX k*n1*n2)=x+((k+1:Nat):Int)*n0*y+jX (k+1)*n0*n1*z+pK (k+1)*n0*n1*n2:=by
    rw[jX,pK];push_cast;grind
   have e2:y+k*n1*z+jX k*n1*n2+n1*(z+k*n2)=y+((k+1:Nat):Int)*n1*z+jX (k+1)*n1*n2:=by
    rw[jX];push_cast;grind
   have e3:z+k*n2+n2=z+((k+1:Nat):Int)*n2:=by push_cast;grind
   rw[e1,e2,e3]
theorem Of{P z u:Int}(hz:0<=z/\z<P)(h:(z+u)%P=z):P∣u:=by
 have h1:=An (z+u) P
 rw[h] at h1
 exact⟨(z+u)/P,by lia⟩
structure rL (P:Int) (due:Nat):Prop where
 k1:P∣(due:Int)
 k2:P∣jX due
 k3:P∣pK due
 pos:1<P
 no:∀k:Nat,0<k->k<due->∀n0 n1 n2:Int,0<n0->n0<P->0<n1->n1<P->0<n2->n2<P->P∣k*n2->P∣jX k/\¬P∣pK k*n0*n1*n2/\P∣(k:Int)
theorem XT{P:Int}{due:Nat}(D:rL P due){b:Nat×Nat×Nat}(hb:b∈[(0,1,2),(0,2,1),(1,0,2),(1,2,0),(2,0,1),(2,1,0)]){n0 n1 n2:Int}(a0:0<n0)(b0:n0<P)(a1:0<n1)(b1:n1<P)(a2:0<n2)(b2:n2<P):i5 P due (Item.cb P (kU b n0 n1 n2)):=by
 obtain⟨mk,M,Og⟩:=XS hb
 have hP:0<P:=by have:=D.pos;lia
 have m0:∀u:Int,0<=u%P/\u%P<P:=λu=>⟨JR _ (by lia),JS _ hP⟩
 refine⟨λs hs=>?_,λs hs=>?_⟩
 ·obtain⟨x,y,z,rfl⟩:=M.all s hs.1
  rw[Og]
  exact(M.ok _ _ _ _).mpr ⟨m0 _,m0 _,m0 _⟩
 ·obtain⟨x,y,z,rfl⟩:=M.all s hs.1
  obtain⟨hx,hy,hz⟩:=(M.ok _ _ _ _).mp hs
  have rep:=Oe (f:=Item.cb P (kU b n0 n1 n2)) (Og P n0 n1 n2) hx hy hz
  refine⟨?_,λk k0 k1 e=>?_⟩
  ·rw[rep due]
   obtain⟨q1,e1⟩:=D.k1
   obtain⟨q2,e2⟩:=D.k2
   obtain⟨q3,e3⟩:=D.k3
   rw[yG hx.1 hx.2 ⟨q1*n0*y+q2*n0*n1*z+q3*n0*n1*n2,by rw[e1,e2,e3];grind⟩,yG hy.1 hy.2 ⟨q1*n1*z+q2*n1*n2,by rw[e1,e2];grind⟩,yG hz.1 hz.2 ⟨q1*n2,by rw[e1];grind⟩]
  ·rw[rep k] at e
   obtain⟨ex,ey,ez⟩:=M.inj _ _ _ _ _ _ e
   have d1:=Of hz ez
   obtain⟨⟨q2,e2⟩,hn,⟨q1,e1⟩⟩:=D.no k k0 k1 n0 n1 n2 a0 b0 a1 b1 a2 b2 d1
   refine hn ?_
   have d2:P∣(k*n0*y+jX k*n0*n1*z+pK k*n0*n1*n2):=Of hx (by rw[<-ex];congr 1;grind)
   obtain⟨q,eq⟩:=d2
   rw[e1,e2] at eq
   exact⟨q-q1*n0*y-q2*n0*n1*z,by grind⟩
theorem BQ{p:Nat}(h:∀k,k<p->∀n,n<p->0<k->0<n->(k*n)%p≠0){k:Nat}{n:Int}(k0:0<k)(k1:k<p)(n0:0<n)(n1:n<p):¬(p:Int)∣k*n:=λd=>by
 obtain⟨m,rfl⟩:=qF (Sk n0)
 have d':p∣k*m:=by
  have:(p:Int)∣((k*m:Nat):Int):=by rw[Dq];exact d
  exact Int.natCast_dvd_natCast.mp this
 exact h k k1 m (by lia) k0 (by lia) (Sh d')
theorem XU:rL 5 5:=⟨by decide,by decide,by decide,by decide,λk k0 k1 n0 n1 n2 _ _ _ _ a2 b2 d=>absurd d (BQ (p:=5) (by decide) k0 k1 a2 b2)⟩
theorem XW:rL 7 7:=⟨by decide,by decide,by decide,by decide,λk k0 k1 n0 n1 n2 _ _ _ _ a2 b2 d=>absurd d (BQ (p:=7) (by decide) k0 k1 a2 b2)⟩
theorem XX:rL 11 11:=⟨by decide,by decide,by decide,by decide,λk k0 k1 n0 n1 n2 _ _ _ _ a2 b2 d=>absurd d (BQ (p:=11) (by decide +kernel) k0 k1 a2 b2)⟩
theorem XY:rL 13 13:=⟨by decide,by decide,by decide,by decide,λk k0 k1 n0 n1 n2 _ _ _ _ a2 b2 d=>absurd d (BQ (p:=13) (by decide +kernel) k0 k1 a2 b2)⟩
theorem XZ:rL 3 9:=by
 refine⟨by decide,by decide,by decide,by decide,λk k0 k1 n0 n1 n2 a0 b0 a1 b1 a2 b2 d=>?_⟩
 have hn:∀n:Int,0<n->n<3->n=1∨n=2:=λn h1 h2=>by lia
 have hk:k=1∨k=2∨k=3∨k=4∨k=5∨k=6∨k=7∨k=8:=by lia
 rcases hn n0 a0 b0 with rfl | rfl<;>rcases hn n1 a1 b1 with rfl | rfl<;>rcases hn n2 a2 b2 with rfl | rfl<;>rcases hk with rfl | rfl | rfl | rfl | rfl | rfl | rfl | rfl<;>first | (revert d;decide) | decide
theorem X0{P:Int}(h:P=3∨P=5∨P=7∨P=11∨P=13):∃due:Nat,(due:Int)=(if P=3 then 9 else P)/\rL P due/\due<=13/\1<=due:=by
 rcases h with rfl | rfl | rfl | rfl | rfl
 ·exact⟨9,by decide,XZ,by decide,by decide⟩
 ·exact⟨5,by decide,XU,by decide,by decide⟩
 ·exact⟨7,by decide,XW,by decide,by decide⟩
 ·exact⟨11,by decide,XX,by decide,by decide⟩
 ·exact⟨13,by decide,XY,by decide,by decide⟩
local macro_rules | `(tactic| walk_at "evs") => wkL " L3.z9d L3.z5h L3.z5g L3.s_on L3.z4p L3.z5j L3.z5x L3.z6a L3.z5s L3.z4s L3.z6b L3.z0n"
inductive Out (q:Int):Int->Int->Prop
 | stop {n:Int}:n%q≠0->Out q n n
 | step {n y:Int}:n%q=0->Out q (n/q) y->Out q n y
theorem yH{n q:Int}(h1:1<=n)(h2:2<=q)(h:n%q=0):n=q*(n/q)/\1<=n/q/\2*(n/q)<=n:=by
 have e1:n=q*(n/q):=by have:=An n q;lia
 generalize n/q=x at *
 have x0:0<x:=by
  rcases Dk 0 x with z | z | z
  ·exact z
  ·rw[<-z] at e1;simp at e1;lia
  ·have:q*x<0:=R_ (by lia) z
   lia
 have:2*x<=q*x:=JX h2 (by lia)
 exact⟨e1,by lia,by lia⟩
theorem Oh{q:Int}(h2:2<=q):∀(m:Nat) (n:Int),1<=n->n<(m:Int)->∃y,Out q n y
 | 0,n,h1,h=>by lia
 | m+1,n,h1,h=>by
   by_cases z:n%q=0
   ·obtain⟨_,x1,x2⟩:=yH h1 h2 z
    obtain⟨y,hy⟩:=Oh h2 m (n/q) x1 (by lia)
    exact⟨y,.step z hy⟩
   ·exact⟨n,.stop z⟩
theorem Out.facts{q n y:Int}(h:Out q n y):1<=n->2<=q->1<=y/\y<=n/\y%q≠0/\∀e:Int,y%e=0->n%e=0:=by
 induction h with
 | stop z=>exact λh1 h2=>⟨h1,Dr _,z,λe he=>he⟩
 | step z _ ih =>
   intro h1 h2
   obtain⟨e1,x1,x2⟩:=yH h1 h2 z
   obtain⟨a,b,c,d⟩:=ih x1 h2
   refine⟨a,by lia,c,λe he=>?_⟩
   have:=d e he
   rw[e1]
   exact uR (a6d (uQ this))
theorem Out.less{q n y:Int}(h:Out q n y)(h1:1<=n)(h2:2<=q)(hz:n%q=0):2*y<=n:=by
 cases h with
 | stop z=>exact absurd hz z
 | step z h =>
   obtain⟨_,x1,x2⟩:=yH h1 h2 z
   have:=(h.facts x1 h2).2.1
   lia
theorem Oi{n x:Int}{m:Nat}(h:n<2^m)(h1:1<=x)(hx:2*x<=n):∃k,m=k+1/\x<2^k:=by
 cases m with
 | zero=>rw[xk] at h;lia
 | succ k=>rw[ly] at h;exact⟨k,rfl,by lia⟩
theorem X1{q y:Int}(h2:2<=q)(hq:q<=100000000){gc:G->R Bool}{gb:G->R Fl}{Γx:Int->G}(hc:∀x,gc (Γx x) = .ok (x%q==0))(hb:∀x,gb (Γx x) = .ok (.nx (Γx (x/q)))) :
 ∀(k m:Nat) (n:Int),m<k->1<=n->n<2^m->Out q n y->dh gc gb k (Γx n) = .ok (.nx (Γx y)):=by
 intro k m n hk h1 hm ho
 refine pB (λm Γ=>∃x,Γ=Γx x/\1<=x/\x<2^m/\Out q x y) (λr=>r = .ok (.nx (Γx y))) ?_ k m (Γx n) hk ⟨n,rfl,h1,hm,ho⟩
 rintro m Γ ⟨x,rfl,x1,xm,xo⟩
 cases xo with
 | stop z=>exact .inl ⟨by rw[hc];simp[z],rfl⟩
 | step z h =>
   obtain⟨_,y1,y2⟩:=yH x1 h2 z
   obtain⟨m',rfl,rB⟩:=Oi xm y1 y2
   exact .inr ⟨by rw[hc];simp[z],.inl ⟨_,m',by lia,.inl (hb x),_,rfl,y1,rB,h⟩⟩
theorem X2{n q y:Int}(h1:1<=n)(hn:n<2^60)(h2:2<=q)(hq:q<=100000000)(ho:Out q n y):FK [.int n,.int q] = .ok (.int y):=by
 refine c8 rfl ?_
 delta NZ
 refine dU (Γ':=[.ro (.int y),.ro (.int q)]) ?_ (cR (by walk_at "evs"))
 exact X1 (Γx:=λx=>[.ro (.int x),.ro (.int q)]) h2 hq (λx=>by walk_at "evs") (λx=>gQ (by walk_at "evs")) 100 60 n (by lia) h1 hn ho
inductive iK:Int->Int->List Int->Prop
 | one {l:Int}:iK 1 l []
 | more {n l q y:Int} {qs:List Int}:2<=n->l<q->i4 n q->Out q n y->iK y q qs->iK n l (q::qs)
theorem F_:∀(m:Nat) (n l:Int),1<=n->n<(m:Int)->(∀e:Int,2<=e->n%e=0->l<e)->∃qs,iK n l qs
 | 0,n,l,h1,h,_=>by lia
 | m+1,n,l,h1,h,hl=>by
   by_cases z:n=1
   ·subst z;exact⟨[],.one⟩
   ·obtain⟨q,hq⟩:∃q,i4 n q:=by
     have H:∀(k:Nat),(k:Int)+2<=n->(∃q,i4 n q)∨∀e:Int,2<=e->e<(k:Int)+2->n%e≠0:=by
      intro k
      induction k with
      | zero=>intro _;exact .inr λe a b=>by lia
      | succ k ih =>
        intro hk
        rcases ih (by lia) with w | w
        ·exact .inl w
        ·by_cases hz:n%((k:Int)+2)=0
         ·exact .inl ⟨(k:Int)+2,.inr ⟨by lia,by lia,hz,w⟩⟩
         ·refine .inr λe a b=>?_
          by_cases he:e=(k:Int)+2
          ·rw[he];exact hz
          ·exact w e a (by lia)
     obtain⟨k,hk⟩:=qF (show 0<=n-2 by lia)
     rcases H k (by lia) with w | w
     ·exact w
     ·exact⟨n,.inr ⟨by lia,by lia,Int.emod_self,λe a b=>w e a (by lia)⟩⟩
    rcases hq with ⟨w,_⟩ | ⟨q1,q2,q3,q4⟩
    ·exact absurd w z
    obtain⟨y,hy⟩:=Oh q1 (m+1) n h1 h
    obtain⟨y1,y2,y3,y4⟩:=hy.facts h1 q1
    have a_:=hy.less h1 q1 q3
    obtain⟨qs,Ga⟩:=F_ m y q y1 (by lia) (λe e1 e2=>by
     have e3:=y4 e e2
     rcases Dk e q with w | w | w
     ·exact absurd e3 (q4 e e1 w)
     ·rw[w] at e2;exact absurd e2 y3
     ·exact w)
    exact⟨q::qs,.more (by lia) (hl q q1 q3) (.inr ⟨q1,q2,q3,q4⟩) hy Ga⟩
theorem iK.len{n l:Int}{qs:List Int}(h:iK n l qs):∀m:Nat,n<2^m->qs.length<=m:=by
 induction h with
 | one=>intro m _;exact iT m
 | more h2 _ hq ho _ ih =>
   intro m hm
   rcases hq with ⟨w,_⟩ | ⟨q1,q2,q3,q4⟩
   ·lia
   obtain⟨y1,_⟩:=ho.facts (by lia) q1
   obtain⟨k,rfl,hk⟩:=Oi hm y1 (ho.less (by lia) q1 q3)
   have:=ih k hk
   rw[de];lia
theorem i4.two{n q:Int}(h:i4 n q)(hn:2<=n):2<=q/\q<=n/\n%q=0/\∀e:Int,2<=e->e<q->n%e≠0:=by
 rcases h with ⟨w,_⟩ | h
 ·lia
 ·exact h
theorem i4.uniq{n a b:Int}(ha:i4 n a)(hb:i4 n b):a=b:=by
 rcases ha with ⟨w,v⟩ | ⟨a1,a2,a3,a4⟩
 ·rcases hb with ⟨_,v'⟩ | ⟨b1,b2,b3,b4⟩
  ·lia
  ·lia
 ·rcases hb with ⟨w,_⟩ | ⟨b1,b2,b3,b4⟩
  ·lia
  ·rcases Dk a b with z | z | z
   ·exact absurd a3 (b4 a a1 z)
   ·exact z
   ·exact absurd b3 (a4 b b1 z)
theorem X3{n q:Int}(h1:1<=n)(h2:n<=100000000)(h:i4 n q):BG [.int n] = .ok (.int q):=by
 obtain⟨q',h',e⟩:=Xq h1 h2
 rw[e,h'.uniq h]
theorem X4(l:List D)(d:D):bX (l++[d]) (-1)=some d:=by
 rw[VB (by lia) (by rw[fD];simp;lia)]
 rw[show((-1:Int)+((l++[d]).length:Nat)).toNat=l.length by rw[fD];simp;lia]
 simp
theorem yI{n:Int}{qs:List Int}(h1:1<=n)(h2:n<=100000000)(hf:iK n 1 qs):FL [.int n] = .ok (qs.map D.int):=by
 refine ot rfl ?_
 delta N1
 refine fw (ds:=[]) (by walk_at "evs") ?_
 refine dU (Γ':=[.ro (.int 1),.own (qs.map D.int)]) ?_ rfl
 have hl:=hf.len 27 (by lia)
 refine pB (λm Γ=>∃x l acc rest,Γ=[.ro (.int x),.own (acc.map D.int)]/\1<=x/\x<=100000000/\iK x l rest/\acc++rest=qs/\rest.length=m) (λr=>r = .ok (.nx [.ro (.int 1),.own (qs.map D.int)])) ?_ 100 qs.length _ (by lia) ⟨n,1,[],qs,rfl,h1,h2,hf,rfl,rfl⟩
 rintro m Γ ⟨x,l,acc,rest,rfl,x1,x2,xf,rfl,rfl⟩
 have rM:acc.length<=27:=by rw[fD] at hl;lia
 cases xf with
 | one =>
   refine .inl ⟨by walk_at "evs";rfl,by rw[lu]⟩
 | more z lt hq ho hr =>
   rename_i q y Oj
   obtain⟨q1,q2,q3,q4⟩:=hq.two z
   obtain⟨y1,y2,y3,y4⟩:=ho.facts x1 q1
   have ed:=X3 x1 x2 hq
   have ew:=X2 x1 (by lia) q1 (by lia) ho
   have e1:decide (x>1)=true:=decide_eq_true (by lia)
   refine .inr ⟨by walk_at "evs";rw[e1],.inl ⟨[.ro (.int y),.own ((acc++[q]).map D.int)],Oj.length,by rw[de];lia,.inl ?_,y,q,acc++[q],Oj,rfl,y1,by lia,hr,by rw[uG];rfl,rfl⟩⟩
   refine dU (rh (d:=.int q) rfl (by walk_at "evs";simp only[ed];walk_at "evs") (by rw[bu];lia)) ?_
   show aX 0 _ [.ro (.int x),.own (acc.map D.int++[.int q])]=_
   rw[lx]
   refine gQ (d:=.int y) ?_
   have el:=X4 (acc.map D.int) (.int q)
   walk_at "evs"
   simp only[el]
   walk_at "evs"
   simp only[ew]
   walk_at "evs"
theorem i4.prime{n q:Int}(h:i4 n q)(hn:2<=n):∀e:Int,2<=e->e<q->q%e≠0:=λe e1 e2 z=>by
 obtain⟨q1,q2,q3,q4⟩:=h.two hn
 refine q4 e e1 e2 (uR (Int.dvd_trans (uQ z) (uQ q3)))
def ig(q:Int):Prop:=2<=q/\∀e:Int,2<=e->e<q->q%e≠0
theorem Ol{q a b:Int}(hq:ig q)(h:q∣a*b):q∣a∨q∣b:=by
 by_cases ha:q∣a
 ·exact .inl ha
 refine .inr ?_
 have h1:q.natAbs∣a.natAbs*b.natAbs:=by rw[<-Int.natAbs_mul];exact Int.natAbs_dvd_natAbs.mpr h
 refine Int.natAbs_dvd_natAbs.mp (a6a ?_ h1)
 show uP q.natAbs a.natAbs=1
 have g1:=Sf q.natAbs a.natAbs
 have g2:=Sg q.natAbs a.natAbs
 have q2:=hq.1
 have g3:=xl (by lia) g1
 have g0:uP q.natAbs a.natAbs≠0:=λz=>by have:=(Nat.gcd_eq_zero_iff.mp z).1;lia
 generalize uP q.natAbs a.natAbs=g at *
 by_cases w:g=q.natAbs
 ·rw[w] at g2
  exact absurd (Int.natAbs_dvd_natAbs.mp g2) ha
 by_cases w2:2<=g
 ·refine absurd (uR ?_) (hq.2 g (by lia) (by lia))
  have:(g:Int)∣(q.natAbs:Int):=Int.natCast_dvd_natCast.mpr g1
  rwa [show(q.natAbs:Int)=q by lia] at this
 ·lia
theorem X5{p q:Int}(hp:ig p)(hq:ig q)(h:p∣q):p=q:=by
 have h1:=Aq (by have:=hq.1;lia) h
 by_cases e:p=q
 ·exact e
 ·exact absurd (uR h) (hq.2 p hp.1 (by lia))
theorem Out.other{q n y p:Int}(h:Out q n y)(hq:ig q)(hp:ig p)(ne:p≠q):p∣n->p∣y:=by
 induction h with
 | stop _=>exact id
 | @step n y z _ ih =>
   intro hd
   have e1:n=q*(n/q):=by have:=An n q;lia
   rw[e1] at hd
   rcases Ol hp hd with w | w
   ·exact absurd (X5 hp hq w) ne
   ·exact ih w
theorem iK.prime{n l:Int}{qs:List Int}(h:iK n l qs):∀q∈qs,ig q/\q∣n/\q<=n:=by
 induction h with
 | one=>intro q hq;simp at hq
 | @more n l q y qs h2 _ hl ho _ ih =>
   obtain⟨q1,q2,q3,q4⟩:=hl.two h2
   obtain⟨y1,y2,y3,y4⟩:=ho.facts (by lia) q1
   intro p hp
   rcases List.mem_cons.mp hp with e | e
   ·rw[e];exact⟨⟨q1,hl.prime h2⟩,uQ q3,q2⟩
   ·obtain⟨a,b,c⟩:=ih p e
    exact⟨a,uQ (y4 p (uR b)),by lia⟩
theorem iK.mem{n l:Int}{qs:List Int}(h:iK n l qs):∀q,ig q->q∣n->q∈qs:=by
 induction h with
 | one =>
   intro q hq hd
   have:=Aq (by lia) hd
   have:=hq.1
   lia
 | @more n l q y qs h2 _ hl ho _ ih =>
   obtain⟨q1,q2,q3,q4⟩:=hl.two h2
   intro p hp hd
   by_cases e:p=q
   ·rw[e];exact bB
   ·exact bL _ (ih p hp (ho.other ⟨q1,hl.prime h2⟩ hp e hd))
theorem X6{n:Int}(h:2<=n):∃q,ig q/\q∣n:=by
 obtain⟨qs,hf⟩:=F_ (n.toNat+1) n 1 (by lia) (by lia) (λe a b=>by lia)
 cases hf with
 | one=>lia
 | @more _ _ q y qs h2 _ hl _ _ =>
   obtain⟨q1,q2,q3,q4⟩:=hl.two h2
   exact⟨q,⟨q1,hl.prime h2⟩,uQ q3⟩
def ij(l:Int):Nat->Int
 | 0=>1
 | k+1=>(l+1)*ij (l+1) k
theorem Gb:∀(k:Nat) {l:Int},0<=l->1<=ij l k
 | 0,l,_=>Dr 1
 | k+1,l,h=>by
   have:=Gb k (l:=l+1) (by lia)
   have h2:1*1<=(l+1)*ij (l+1) k:=kG (by lia) this (by lia) (by lia)
   rw[ij];lia
theorem Om:∀(k:Nat) {l l':Int},0<=l->l<=l'->ij l k<=ij l' k
 | 0,_,_,_,_=>Dr 1
 | k+1,l,l',h,h'=>by
   have:=Gb k (l:=l+1) (by lia)
   exact kG (by lia) (Om k (by lia) (by lia)) (by lia) (by lia)
theorem Oo:∀(k:Nat) {l:Int},0<=l->ij l k<=ij l (k+1)
 | 0,l,h=>by rw[ij,ij,ij];lia
 | k+1,l,h=>by
   rw[ij,ij]
   exact Sl (Oo k (by lia)) (by lia)
theorem Out.X7{q n y:Int}(h:Out q n y)(h1:1<=n)(h2:2<=q)(hz:n%q=0):q*y<=n:=by
 cases h with
 | stop z=>exact absurd hz z
 | step z h =>
   obtain⟨e,x1,x2⟩:=yH h1 h2 z
   have:=(h.facts x1 h2).2.1
   have:=Sl this (show 0<=q by lia)
   lia
theorem iK.rise{n l:Int}{qs:List Int}(h:iK n l qs):1<=l->ij l qs.length<=n:=by
 induction h with
 | one=>intro _;exact Dr 1
 | @more n l q y qs h2 lt hl ho hf ih =>
   intro l1
   obtain⟨q1,q2,q3,q4⟩:=hl.two h2
   have h3:=ho.X7 (by lia) q1 q3
   have h4:=ih (by lia)
   have h5:=Om qs.length (l:=l+1) (l':=q) (by lia) (by lia)
   have h6:=Gb qs.length (l:=l+1) (by lia)
   rw[de,ij]
   have:(l+1)*ij (l+1) qs.length<=q*y:=kG (by lia) (by lia) (by lia) (by lia)
   lia
theorem iK.Oq{n:Int}{qs:List Int}(h:iK n 1 qs)(hn:n<=100000000):qs.length<=10:=by
 rcases cG 10 qs.length with z | z
 ·exfalso
  have h1:=h.rise (by lia)
  have h2:∀k,ij 1 11<=ij 1 (11+k):=by
   intro k
   induction k with
   | zero=>exact Dr _
   | succ k ih=>exact Ka ih (Oo (11+k) (by lia))
  have h3:=h2 (qs.length-11)
  rw[show 11+(qs.length-11)=qs.length by lia] at h3
  have h4:ij 1 11=479001600:=by decide
  lia
 ·exact z
structure pL (p:Nat->Prop):Prop where
 zero:p 0
 add:∀{a b:Nat},p a->p b->p (a+b)
 sub:∀{a b:Nat},p a->p b->b<=a->p (a-b)
theorem pL.mul{p:Nat->Prop}(H:pL p){a:Nat}(h:p a):∀k,p (a*k)
 | 0=>H.zero
 | k+1=>H.add (H.mul h k) h
theorem pL.mod{p:Nat->Prop}(H:pL p){a b:Nat}(ha:p a)(hb:p b):p (a%b):=by
 have e:a%b=a-b*(a/b):=by have:=J_ a b;lia
 rw[e]
 exact H.sub ha (H.mul hb _) (Nat.mul_div_le a b)
theorem pL.gcd{p:Nat->Prop}(H:pL p):∀(a b:Nat),p a->p b->p (uP a b):=by
 intro a b
 induction a,b using Nat.gcd.induction with
 | H0 n=>intro _ h;rw[Nat.gcd_zero_left];exact h
 | H1 m n _ ih=>intro h1 h2;rw[Nat.gcd_rec];exact ih (H.mod h2 h1) h1
theorem pL.least{p:Nat->Prop}(H:pL p){r:Nat}(h1:1<=r)(pr:p r)(hq:∀q:Nat,ig q->q∣r->¬p (r/q)){k:Nat}(hk:p k):r∣k:=by
 have hg:=H.gcd r k pr hk
 have g1:=Sf r k
 have g2:=Sg r k
 generalize uP r k=g at *
 by_cases e:g=r
 ·rw[<-e];exact g2
 obtain⟨c,rfl⟩:=g1
 have c1:c≠1:=λz=>e (by rw[z,Kb])
 have c0:c≠0:=λz=>by rw[z,Sd] at h1;lia
 obtain⟨q,q1,q2⟩:=X6 (n:=(c:Int)) (by lia)
 obtain⟨q',rfl⟩:=qF (show 0<=q by have:=q1.1;lia)
 have q3:q'∣c:=Int.natCast_dvd_natCast.mp q2
 obtain⟨b,rfl⟩:=q3
 have q0:0<q':=by have:=q1.1;lia
 refine absurd (H.mul hg b) ?_
 have e2:g*(q'*b)/q'=g*b:=by rw[show g*(q'*b)=q'*(g*b) by rw[Kc],Kd _ q0]
 rw[<-e2]
 exact hq q' q1 ⟨g*b,Kc _ _ _⟩
end L3
namespace L3
open PySem
local macro_rules | `(tactic| walk_at "evs") => wkL " L3.z9d L3.z5h L3.z5g L3.s_on L3.z4p L3.z5j L3.z5x L3.z6a L3.z5s L3.z4s L3.z6b L3.z0n L3.dInt L3.y9x L3.y9t L3.x3d L3.Item.d L3.Item.ds_map L3.y9w L3.x4b L3.x4c L3.y9r L3.y3i L3.y3n L3.gZip L3.y7z L3.x6x L3.y0y L3.y3u L3.w0d L3.D.isNon L3.z8m"
section
variable {P:Int}{m:Nat}{t:List (List Int)}{s:List Int}
theorem eD(hp:1<P)(ht:b8 P m t)(hs:s.length=m)(a b:Nat):au P m t (au P m t s a) b=au P m t s (a+b):=(Wt hp ht hs a b).symm
theorem Gd(hp:1<P)(ht:b8 P m t)(hs:s.length=m)(so:bJ P s):pL λk=>au P m t s k=s where
 zero:=BI hs so
 add {a b} h1 h2:=by rw[<-eD hp ht hs,h1,h2]
 sub {a b} h1 h2 hb:=by
  have:=eD hp ht hs b (a-b)
  rw[h2,show b+(a-b)=a by lia,h1] at this
  exact this
theorem tN{k n:Nat}(p1:3<=P)(p2:P<=9973)(hm:m<=3)(ht:b8 P m t)(hs:s.length=m)(so:bJ P s)(hk:k<=150)(hn:n<2^k):rH [.int P,.lst ((cC P m t k).map aU),.int n,aq s] = .ok (aq (au P m t s n)):=by
 refine c8 rfl ?_
 delta NX
 have hp:1<P:=by lia
 have er:=vM (P:=P) (m:=m) (n:=n) (k:=k) (t:=t) (by lia)
 have nt:=vI (cC P m t k)
 have Wy:D.bI ((eY n k).map λj=>aU (bw P m t (2^j)))=true:=vh λj _=>mR _
 refine pC (ds:=(eY n k).map λj=>aU (bw P m t (2^j))) (λi Γ=>∃x4,Γ=[.ro (.int P),.ro (.lst ((cC P m t k).map aU)),.ro (.int n),.ro (aq (au P m t s (gR ((eY n k).take i)))),x4]) ?_ ⟨_,by rw[Sm,gR,BI hs so];rfl⟩ ?_ ?_
 ·walk_at "evs"
  simp only[er]
  walk_at "evs"
 ·rintro i d Γ hd ⟨x4,rfl⟩
  obtain⟨j,hj,rfl⟩:=MN hd
  have et:=pE (P:=P) (ts:=bw P m t (2^j)) (ss:=au P m t s (gR ((eY n k).take i))) (by lia) (by lia) (by rw[f7 hp ht];exact iH hp ht _) (by rw[f7 hp ht];lia)
  have e2:bT P (bw P m t (2^j)) (au P m t s (gR ((eY n k).take i)))=au P m t s (gR ((eY n k).take (i+1))):=by
   rw[MO hj,<-eD hp ht hs];rfl
  rw[e2] at et
  refine .nx (gQ (d:=aq (au P m t s (gR ((eY n k).take (i+1))))) ?_) ⟨_,rfl⟩
  have nr:=z0n (au P m t s (gR ((eY n k).take (i+1))))
  simp only[aU,aq] at et nr ⊢
  walk_at "evs"
  simp only[et]
  walk_at "evs"
 ·rintro Γ ⟨x4,rfl⟩
  refine cR ?_
  rw[bu,uI,E8,a5n hn]
  walk_at "evs"
theorem X8{k W:Nat}(p1:3<=P)(p2:P<=9973)(hm:m<=3)(ht:b8 P m t)(hs:s.length=m)(so:bJ P s)(hk:k<=150)(hW:W<2^k){L:List Int}{q:Nat}(q1:2<=q)(q2:q<=100000000){pre:List Int}{n:Nat}(n1:1<=n)(nW:n<=W)(pn:au P m t s n=s)(qU:∀q':Nat,(q':Int)∈pre->q'∣n->¬au P m t s (n/q')=s) :
 ∃n',1<=n'/\n'<=n/\n'∣n/\au P m t s n'=s/\(∀q':Nat,(q':Int)∈(q:Int)::pre->q'∣n'->¬au P m t s (n'/q')=s) /\
  dh (xR (gT (ao eV (ao df (gV 2) (gV 5)) (gC (.int 0)))) (gT (ao eV (aH rH (ae (gV 0) (ae (gV 1) (ae (ao hJ (gV 2) (gV 5)) (ae (gV 4) az))))) (gV 4)))) (aX 2 (aG (ao hJ (gV 2) (gV 5)))) 200 [.ro (.int P),.ro (.lst ((cC P m t k).map aU)),.ro (.int n),.ro (.lst (L.map D.int)),.ro (aq s),.ro (.int q)] = .ok (.nx [.ro (.int P),.ro (.lst ((cC P m t k).map aU)),.ro (.int n'),.ro (.lst (L.map D.int)),.ro (aq s),.ro (.int q)]):=by
 have hp:1<P:=by lia
 have H:=Gd hp ht hs so
 refine pB (λz Γ=>∃x:Nat,Γ=[.ro (.int P),.ro (.lst ((cC P m t k).map aU)),.ro (.int x),.ro (.lst (L.map D.int)),.ro (aq s),.ro (.int q)]/\1<=x/\x<=n/\x∣n/\x<2^z/\au P m t s x=s/\∀q':Nat,(q':Int)∈pre->q'∣x->¬au P m t s (x/q')=s)
  (λr=>∃n',1<=n'/\n'<=n/\n'∣n/\au P m t s n'=s/\(∀q':Nat,(q':Int)∈(q:Int)::pre->q'∣n'->¬au P m t s (n'/q')=s)/\r = .ok (.nx [.ro (.int P),.ro (.lst ((cC P m t k).map aU)),.ro (.int n'),.ro (.lst (L.map D.int)),.ro (aq s),.ro (.int q)])) ?_ 200 150 _ (by lia) ⟨n,rfl,n1,a7 _,⟨1,(Kb _).symm⟩,C7 nW (cI hW (Nat.pow_le_pow_right (by lia) hk)),pn,qU⟩
 rintro z Γ ⟨x,rfl,x1,xn,xd,xz,px,hx⟩
 have ec:=tN (s:=s) (n:=x/q) p1 p2 hm ht hs so hk (C7 (Sn x q) (by lia))
 have em:(x:Int)%(q:Int)=((x%q:Nat):Int):=rfl
 have ed:(x:Int)/(q:Int)=((x/q:Nat):Int):=rfl
 have nt:=vI (cC P m t k)
 have nr:=z0n s
 by_cases h1:x%q=0
 ·have b1:((x:Int)%(q:Int)==0)=true:=by rw[em,h1];rfl
  have hd:q∣x:=Nat.dvd_of_mod_eq_zero h1
  obtain⟨y,rfl⟩:=hd
  have q0:0<q:=by lia
  have ey:q*y/q=y:=Kd y q0
  by_cases h2:au P m t s (q*y/q)=s
  ·have y1:1<=y:=by
    rcases sF y with w | w
    ·rw[w,Sd] at x1;lia
    ·exact w
   have yle:2*y<=q*y:=uS y q1
   obtain⟨z',rfl⟩:∃z',z=z'+1:=by
    cases z with
    | zero=>rw[Ak] at xz;lia
    | succ z'=>exact⟨z',rfl⟩
   refine .inr ⟨?_,.inl ⟨[.ro (.int P),.ro (.lst ((cC P m t k).map aU)),.ro (.int ((y:Nat):Int)),.ro (.lst (L.map D.int)),.ro (aq s),.ro (.int q)],z',by lia,.inl ?_,y,rfl,y1,by lia,So ⟨q,sC _ _⟩ xd,by rw[Al] at xz;lia,by rw[ey] at h2;exact h2,λq' mV iX w=>?_⟩⟩
   ·walk_at "evs"
    simp only[b1]
    walk_at "evs"
    rw[ed]
    simp only[ec]
    walk_at "evs"
    simp only[h2]
    walk_at "evs"
    simp
   ·refine gQ ?_
    walk_at "evs"
    rw[ed,ey]
   ·obtain⟨c,rfl⟩:=iX
    have Ot:0<q':=by
     rcases sF q' with w2 | w2
     ·rw[w2,R8] at y1;lia
     ·exact w2
    refine hx q' mV ⟨q*c,Kc _ _ _⟩ ?_
    rw[Kd c Ot] at w
    rw[show q*(q'*c)=q'*(c*q) by rw[Kc,sC q c],Kd _ Ot]
    exact H.mul w q
  ·refine .inl ⟨?_,q*y,x1,xn,xd,px,λq' mV iX=>?_,rfl⟩
   ·walk_at "evs"
    simp only[b1]
    walk_at "evs"
    rw[ed]
    simp only[ec]
    walk_at "evs"
    simp[h2]
   ·rcases List.mem_cons.mp mV with e | e
    ·have:q'=q:=by lia
     rw[this];exact h2
    ·exact hx q' e iX
 ·have b1:((x:Int)%(q:Int)==0)=false:=by rw[em];simp;lia
  refine .inl ⟨?_,x,x1,xn,xd,px,λq' mV iX=>?_,rfl⟩
  ·walk_at "evs"
   simp only[b1]
   walk_at "evs"
  ·rcases List.mem_cons.mp mV with e | e
   ·have:q'=q:=by lia
    rw[this] at iX
    exact absurd (Sh iX) h1
   ·exact hx q' e iX
theorem yJ{k W:Nat}(p1:3<=P)(p2:P<=9973)(hm:m<=3)(ht:b8 P m t)(hs:s.length=m)(so:bJ P s)(hk:k<=150)(hW:W<2^k)(W1:1<=W)(pW:au P m t s W=s){L:List Int}(hL:∀q∈L,2<=q/\q<=100000000) :
 ∃r:Nat,1<=r/\r<=W/\r∣W/\au P m t s r=s/\(∀q:Nat,(q:Int)∈L->q∣r->¬au P m t s (r/q)=s)/\FQ [.int P,.lst ((cC P m t k).map aU),.int W,.lst (L.map D.int),aq s] = .ok (.int r):=by
 suffices h:∃r:Nat,(1<=r/\r<=W/\r∣W/\au P m t s r=s/\(∀q:Nat,(q:Int)∈L->q∣r->¬au P m t s (r/q)=s))/\FP (gr 6 [.int P,.lst ((cC P m t k).map aU),.int W,.lst (L.map D.int),aq s]) = .ok (.rt (.int r)) by
  obtain⟨r,⟨a,b,c,d,e⟩,g⟩:=h
  exact⟨r,a,b,c,d,e,c8 rfl g⟩
 delta FP
 obtain⟨Γ',e,n,x5,rfl,h1,h2,h3,h4,h5⟩:=vo (gb:=dh (xR (gT (ao eV (ao df (gV 2) (gV 5)) (gC (.int 0)))) (gT (ao eV (aH rH (ae (gV 0) (ae (gV 1) (ae (ao hJ (gV 2) (gV 5)) (ae (gV 4) az))))) (gV 4)))) (aX 2 (aG (ao hJ (gV 2) (gV 5)))) 200) (i:=5)
  (λi Γ=>∃(n:Nat) (x5:En),Γ=[.ro (.int P),.ro (.lst ((cC P m t k).map aU)),.ro (.int n),.ro (.lst (L.map D.int)),.ro (aq s),x5]/\1<=n/\n<=W/\n∣W/\au P m t s n=s/\∀q:Nat,(q:Int)∈L.take i->q∣n->¬au P m t s (n/q)=s) (L.map D.int) 0 [.ro (.int P),.ro (.lst ((cC P m t k).map aU)),.ro (.int W),.ro (.lst (L.map D.int)),.ro (aq s),.no] ⟨W,_,rfl,W1,a7 _,⟨1,(Kb _).symm⟩,pW,λq hq=>by simp at hq⟩ (λj d Γ hd hI=>by
    obtain⟨n,x5,rfl,h1,h2,h3,h4,h5⟩:=hI
    rw[cm] at hd
    cases hj:L[j]? with
    | none=>rw[hj] at hd;cases hd
    | some q =>
      rw[hj] at hd
      injection hd with hd
      subst hd
      obtain⟨q1,q2⟩:=hL q (fV hj)
      obtain⟨q',rfl⟩:=qF (show 0<=q by lia)
      rw[fE] at h5
      obtain⟨n',a1,a2,a3,a4,a5,a6⟩:=X8 (L:=L) (q:=q') (pre:=L.take j) (n:=n) p1 p2 hm ht hs so hk hW (by lia) (by lia) h1 h2 h4 h5
      refine⟨_,.inl a6,n',_,rfl,a1,by lia,So a3 h3,a4,λz hz=>a5 z ?_⟩
      rw[fE,Am,hj] at hz
      rcases List.mem_append.mp hz with w | w
      ·exact bL _ w
      ·simp at w;rw[w];exact bB)
 refine⟨n,⟨h1,h2,h3,h4,λq hq=>h5 q ?_⟩,?_⟩
 ·rw[fE,bu,uI];exact hq
 ·refine ye (ds:=L.map D.int) (by walk_at "evs") e (cR ?_)
  walk_at "evs"
theorem yK{k r W:Nat}(p1:3<=P)(p2:P<=9973)(hm:m<=3)(ht:b8 P m t)(hs:s.length=m)(so:bJ P s)(k1:1<=k)(hk:k<=150)(hW:r<2^k)(hr:au P m t s (m+r)=au P m t s m) :
 ∃i:Nat,i<=m/\au P m t s (i+r)=au P m t s i/\(∀j,j<i->¬au P m t s (j+r)=au P m t s j)/\FT [.int P,.lst ((cC P m t k).map aU),.int r,aq s] = .ok (.int i):=by
 have hp:1<P:=by lia
 have nt:=vI (cC P m t k)
 suffices h:∃i:Nat,(i<=m/\au P m t s (i+r)=au P m t s i/\(∀j,j<i->¬au P m t s (j+r)=au P m t s j))/\FR (gr 5 [.int P,.lst ((cC P m t k).map aU),.int r,aq s]) = .ok (.rt (.int i)) by
  obtain⟨i,⟨a,b,c⟩,g⟩:=h
  exact⟨i,a,b,c,c8 rfl g⟩
 delta FR
 have key:∃i:Nat,(i<=m/\au P m t s (i+r)=au P m t s i/\(∀j,j<i->¬au P m t s (j+r)=au P m t s j))/\dh (gT (ao iG (aH rH (ae (gV 0) (ae (gV 1) (ae (gV 2) (ae (gV 3) az))))) (gV 3))) (aE (aX 3 (aG (aH ox (ae (gV 0) (ae (ao aL (gV 1) (gC (.int 0))) (ae (gV 3) az)))))) (aX 4 (aG (ao b7 (gV 4) (gC (.int 1)))))) 10 [.ro (.int P),.ro (.lst ((cC P m t k).map aU)),.ro (.int r),.ro (aq s),.ro (.int 0)] = .ok (.nx [.ro (.int P),.ro (.lst ((cC P m t k).map aU)),.ro (.int r),.ro (aq (au P m t s i)),.ro (.int i)]):=by
  refine pB (λz Γ=>∃i:Nat,Γ=[.ro (.int P),.ro (.lst ((cC P m t k).map aU)),.ro (.int r),.ro (aq (au P m t s i)),.ro (.int i)]/\i+z=m/\∀j,j<i->¬au P m t s (j+r)=au P m t s j)
   (λx=>∃i:Nat,(i<=m/\au P m t s (i+r)=au P m t s i/\(∀j,j<i->¬au P m t s (j+r)=au P m t s j))/\x = .ok (.nx [.ro (.int P),.ro (.lst ((cC P m t k).map aU)),.ro (.int r),.ro (aq (au P m t s i)),.ro (.int i)])) ?_ 10 m _ (by lia) ⟨0,by rw[BI hs so];rfl,by lia,λj hj=>by lia⟩
  rintro z Γ ⟨i,rfl,hz,hj⟩
  have ec:=tN (s:=au P m t s i) (n:=r) p1 p2 hm ht (f7 hp ht i) (pH (by lia) i) hk hW
  rw[eD hp ht hs] at ec
  have nr:=z0n (au P m t s i)
  by_cases h:au P m t s (i+r)=au P m t s i
  ·refine .inl ⟨?_,i,⟨by lia,h,hj⟩,rfl⟩
   walk_at "evs"
   simp only[ec]
   walk_at "evs"
   simp[h]
  ·have zi:z≠0:=λw=>by
    rw[show i=m by lia] at h
    exact h hr
   refine .inr ⟨?_,.inl ⟨[.ro (.int P),.ro (.lst ((cC P m t k).map aU)),.ro (.int r),.ro (aq (au P m t s (i+1))),.ro (.int ((i+1:Nat):Int))],z-1,by lia,.inl ?_,i+1,rfl,by lia,λj rA=>?_⟩⟩
   ·walk_at "evs"
    simp only[ec]
    walk_at "evs"
    simp[h]
   ·have et:=pE (P:=P) (ts:=bw P m t (2^0)) (ss:=au P m t s i) (by lia) (by lia) (by rw[f7 hp ht];exact iH hp ht _) (by rw[f7 hp ht];lia)
    have e2:bT P (bw P m t (2^0)) (au P m t s i)=au P m t s (i+1):=by
     rw[<-eD hp ht hs];rfl
    rw[e2] at et
    have e0:bX ((cC P m t k).map aU) 0=some (aU (bw P m t (2^0))):=by
     rw[show(0:Int)=((0:Nat):Int) from rfl,mK,cm]
     unfold cC
     rw[cm,oW (by lia)];rfl
    have Ou:=z0n (au P m t s (i+1))
    refine cE (d:=aq (au P m t s (i+1))) ?_ (gQ ?_)
    ·simp only[aU,aq] at et e0 Ou ⊢
     walk_at "evs"
     simp only[e0]
     walk_at "evs"
     simp only[et]
     walk_at "evs"
    ·walk_at "evs"
     rw[Sj];rfl
   ·rcases cG j i with w | w
    ·exact hj j w
    ·rw[show j=i by lia];exact h
 obtain⟨i,hi,e⟩:=key
 refine⟨i,hi,?_⟩
 refine cE (d:=.int 0) (by walk_at "evs") (dU e (cR ?_))
 walk_at "evs"
end
def gz(P:Int):Nat->Int
 | 0=>1
 | j+1=>gz P j*P+1
theorem Ov(P:Int):∀j,(P-1)*gz P j=P^(j+1)-1
 | 0=>by rw[gz,lq,fE,ly,xk,nP]
 | j+1=>by
   have h:=Ov P j
   rw[gz,ly P (j+1),uJ,<-e_,h]
   grind
theorem Ow{P:Int}(p1:3<=P)(p2:P<=9973){j:Nat}(hj:j<3):1<=gz P j/\gz P j<=100000000:=by
 have hc:j=0∨j=1∨j=2:=by lia
 rcases hc with rfl | rfl | rfl
 ·simp only[gz];lia
 ·simp only[gz];lia
 ·simp only[gz]
  have h1:(1*P+1)*P<=9974*9973:=kG (by lia) p2 (by lia) (by lia)
  have h2:1*1<=(1*P+1)*P:=kG (by lia) (by lia) (by lia) (by lia)
  lia
def fH(P:Int)(m:Nat):List Int:=(P-1)::(bK m).map (gz P)
def fI(P:Int)(m e:Nat):List Int:=fH P m++dD e P
theorem Ox{P:Int}{m:Nat}(p1:3<=P)(p2:P<=9973)(m3:m<=3):∀x∈fH P m,1<=x/\x<=100000000:=λx hx=>by
 rcases List.mem_cons.mp hx with e | e
 ·lia
 ·obtain⟨j,hj,rfl⟩:=List.mem_map.mp e
  exact Ow p1 p2 (by have:=List.mem_range.mp hj;lia)
theorem X9{P:Int}{m e:Nat}(p1:3<=P)(p2:P<=9973)(m3:m<=3):∀x∈fI P m e,1<=x/\x<=100000000:=λx hx=>by
 rcases List.mem_append.mp hx with h | h
 ·exact Ox p1 p2 m3 x h
 ·rw[(List.mem_replicate.mp h).2];lia
theorem Oy(P:Int)(m e:Nat):(fI P m e).length=m+1+e:=by unfold fI fH;simp;lia
theorem X_{P:Int}{m:Nat}(p1:3<=P)(p2:P<=9973)(m1:1<=m)(m3:m<=3):∃e:Nat,e<=2/\(m:Int)+1<=P^e/\BO [.int P,.int m] = .ok ((fI P m e).map D.int):=by
 have key:∃(e:Nat) (x4 x5:En),(e<=2/\(m:Int)+1<=P^e)/\dh (gT (ao qY (gV 5) (ao b7 (gV 1) (gC (.int 1))))) (aE (gP 2 (aG (gV 0))) (aX 5 (aG (ao cX (gV 5) (gV 0))))) 10 [.ro (.int P),.ro (.int m),.own ((fH P m).map D.int),.ro (.int (gz P m)),x4,.ro (.int 1)] = .ok (.nx [.ro (.int P),.ro (.int m),.own ((fI P m e).map D.int),.ro (.int (gz P m)),x4,x5])/\BO [.int P,.int m] = .ok ((fI P m e).map D.int):=by
  have wh:∀x4,∃(e:Nat) (x5:En),(e<=2/\(m:Int)+1<=P^e)/\dh (gT (ao qY (gV 5) (ao b7 (gV 1) (gC (.int 1))))) (aE (gP 2 (aG (gV 0))) (aX 5 (aG (ao cX (gV 5) (gV 0))))) 10 [.ro (.int P),.ro (.int m),.own ((fH P m).map D.int),.ro (.int (gz P m)),x4,.ro (.int 1)] = .ok (.nx [.ro (.int P),.ro (.int m),.own ((fI P m e).map D.int),.ro (.int (gz P m)),x4,x5]):=by
   intro x4
   refine pB (λz Γ=>∃e:Nat,Γ=[.ro (.int P),.ro (.int m),.own ((fI P m e).map D.int),.ro (.int (gz P m)),x4,.ro (.int (P^e))]/\e+z=2)
    (λr=>∃(e:Nat) (x5:En),(e<=2/\(m:Int)+1<=P^e)/\r = .ok (.nx [.ro (.int P),.ro (.int m),.own ((fI P m e).map D.int),.ro (.int (gz P m)),x4,x5])) ?_ 10 2 _ (by lia) ⟨0,by unfold fI;simp,rfl⟩
   rintro z Γ ⟨e,rfl,hz⟩
   by_cases h:P^e<(m:Int)+1
   ·have e1:decide (P^e<(m:Int)+1)=true:=decide_eq_true h
    have he:e<2:=by
     rcases cG e 2 with w | w
     ·exact w
     ·have:e=2:=by lia
      subst this
      have:3*3<=P^2:=by rw[ly,ly,xk,nP];exact kG p1 p1 (by lia) (by lia)
      lia
    have pe:(P^e).natAbs<=9973:=by
     have hc:e=0∨e=1:=by lia
     rcases hc with rfl | rfl
     ·simp
     ·rw[ly,xk,nP];lia
    refine .inr ⟨by walk_at "evs";rw[e1],.inl ⟨[.ro (.int P),.ro (.int m),.own ((fI P m (e+1)).map D.int),.ro (.int (gz P m)),x4,.ro (.int (P^(e+1)))],z-1,by lia,.inl ?_,e+1,rfl,by lia⟩⟩
    refine dU (rh (d:=.int P) rfl (by walk_at "evs") (by rw[bu,Oy];lia)) ?_
    show aX 5 _ [.ro (.int P),.ro (.int m),.own ((fI P m e).map D.int++[.int P]),.ro (.int (gz P m)),x4,.ro (.int (P^e))]=_
    have ep:(fI P m e).map D.int++[D.int P]=(fI P m (e+1)).map D.int:=by
     unfold fI;rw[List.replicate_succ',<-uG];simp
    rw[ep]
    refine gQ ?_
    rw[ly]
    walk_at "evs"
   ·have e1:decide (P^e<(m:Int)+1)=false:=decide_eq_false h
    exact .inl ⟨by walk_at "evs";rw[e1],e,_,⟨by lia,by lia⟩,rfl⟩
  have fr:∃x4,dG (aE (gP 2 (aG (gV 3))) (aX 3 (aG (ao b7 (ao cX (gV 3) (gV 0)) (gC (.int 1)))))) 4 (fq 0 m) [.ro (.int P),.ro (.int m),.own [.int (P-1)],.ro (.int 1),.no,.no] = .ok (.nx [.ro (.int P),.ro (.int m),.own ((fH P m).map D.int),.ro (.int (gz P m)),x4,.no]):=by
   obtain⟨Γ',e,x4,rfl⟩:=vo (gb:=aE (gP 2 (aG (gV 3))) (aX 3 (aG (ao b7 (ao cX (gV 3) (gV 0)) (gC (.int 1)))))) (i:=4) (λj Γ=>∃x4,Γ=[.ro (.int P),.ro (.int m),.own ((fH P j).map D.int),.ro (.int (gz P j)),x4,.no]) (fq 0 m) 0 [.ro (.int P),.ro (.int m),.own [.int (P-1)],.ro (.int 1),.no,.no] ⟨_,rfl⟩ (λj d Γ hd hI=>by
    obtain⟨x4,rfl⟩:=hI
    obtain⟨hj,rfl⟩:=yr hd
    rw[fE]
    obtain⟨g1,g2⟩:=Ow (P:=P) (j:=j) p1 p2 (by lia)
    refine⟨[.ro (.int P),.ro (.int m),.own ((fH P (j+1)).map D.int),.ro (.int (gz P (j+1))),.ro (.int (0+(j:Int))),.no],.inl ?_,_,rfl⟩
    refine dU (rh (d:=.int (gz P j)) rfl (by walk_at "evs") (by unfold fH;simp;lia)) ?_
    show aX 3 _ [.ro (.int P),.ro (.int m),.own ((fH P j).map D.int++[.int (gz P j)]),.ro (.int (gz P j)),.ro (.int (0+(j:Int))),.no]=_
    have ep:(fH P j).map D.int++[D.int (gz P j)]=(fH P (j+1)).map D.int:=by
     unfold fH;rw[uK];simp
    rw[ep]
    refine gQ ?_
    rw[gz]
    walk_at "evs")
   rw[fE,oo] at e
   exact⟨x4,e⟩
  obtain⟨x4,e4⟩:=fr
  obtain⟨e,x5,he,ew⟩:=wh x4
  refine⟨e,x4,x5,he,ew,ot rfl ?_⟩
  delta NY
  refine fw (ds:=[.int (P-1)]) (by have nl:D.bI [D.int (P-1)]=true:=lD [P-1];walk_at "evs") ?_
  refine cE (d:=.int 1) (by walk_at "evs") ?_
  refine ye (ds:=fq 0 m) (by walk_at "evs") e4 ?_
  refine cE (d:=.int 1) (by walk_at "evs") ?_
  exact dU ew rfl
 obtain⟨e,_,_,⟨h1,h2⟩,_,h3⟩:=key
 exact⟨e,h1,h2,h3⟩
theorem BR:∀(a b:List Int),bx (a++b)=bx a*bx b
 | [],b=>by rw[JW,bx,nP]
 | x::a,b=>by rw[R6,bx,bx,BR a b,e_]
theorem BS:∀(l:List Int),(∀x∈l,1<=x/\x<=100000000)->1<=bx l/\bx l<=100000000^l.length
 | [],_=>by rw[bx];simp
 | x::l,h=>by
   obtain⟨h1,h2⟩:=h x bB
   obtain⟨h3,h4⟩:=BS l λy hy=>h y (bL _ hy)
   rw[bx,de,ly,j_ x]
   refine⟨?_,kG h4 h2 (by lia) (Ka (by lia) h4)⟩
   have:=kG h3 h1 (by lia) (by lia)
   lia
theorem Oz{x:Int}:∀{l:List Int},x∈l->x∣bx l
 | y::l,h=>by
   rw[bx]
   rcases List.mem_cons.mp h with e | e
   ·rw[e];exact Int.dvd_mul_right _ _
   ·exact a6d (Oz e)
theorem Ge{q:Int}(hq:ig q):∀{l:List Int},q∣bx l->∃x∈l,q∣x
 | [],h=>by
   have:=Aq (by rw[bx];lia) h
   rw[bx] at this
   have:=hq.1
   lia
 | y::l,h=>by
   rw[bx] at h
   rcases Ol hq h with w | w
   ·exact⟨y,bB,w⟩
   ·obtain⟨x,hx,hd⟩:=Ge hq w
    exact⟨x,bL _ hx,hd⟩
theorem yL{l:List Int}(hl:l.length<=6)(hb:∀x∈l,1<=x/\x<=100000000):FO [.lst (l.map D.int)] = .ok (.int (bx l)):=by
 refine c8 rfl ?_
 delta N3
 refine cE (d:=.int 1) (by walk_at "evs") ?_
 refine pC (ds:=l.map D.int) (λi Γ=>∃x2,Γ=[.ro (.lst (l.map D.int)),.ro (.int (bx (l.take i))),x2]) (by walk_at "evs") ⟨_,rfl⟩ ?_ ?_
 ·rintro i d Γ hd ⟨x2,rfl⟩
  rw[cm] at hd
  cases hi:l[i]? with
  | none=>rw[hi] at hd;cases hd
  | some x =>
    rw[hi] at hd
    injection hd with hd
    subst hd
    obtain⟨h1,h2⟩:=hb x (fV hi)
    obtain⟨h3,h4⟩:=BS (l.take i) λy hy=>hb y (Df hy)
    have h5:bx (l.take i)<=100000000^6:=by
     have hi6:(l.take i).length<=6:=by rw[mj];lia
     have hc:(l.take i).length=0∨(l.take i).length=1∨(l.take i).length=2∨(l.take i).length=3∨(l.take i).length=4∨(l.take i).length=5∨(l.take i).length=6:=by lia
     rcases hc with e | e | e | e | e | e | e<;>rw[e] at h4<;>refine Ka h4 (by decide)
    have e1:bx (l.take (i+1))=bx (l.take i)*x:=by
     rw[Am,hi,BR]
     show _*(x*1)=_
     rw[lq]
    have fit:x_ (bx (l.take i)) x:=⟨LX (by lia),LX (by lia)⟩
    refine .nx (gQ (d:=.int (bx (l.take (i+1)))) ?_) ⟨_,rfl⟩
    rw[e1]
    walk_at "evs"
 ·rintro Γ ⟨x2,rfl⟩
  rw[bu,uI]
  exact cR (by walk_at "evs")
noncomputable def BU(x:Int):List Int:=Classical.epsilon λqs=>iK x 1 qs
theorem yM{x:Int}(h:1<=x):iK x 1 (BU x):=Classical.epsilon_spec (F_ (x.toNat+1) x 1 h (by lia) (λe a b=>by lia))
noncomputable def jB(l:List Int):List Int:=(l.map BU).flatten
theorem BV:∀(l:List Int),(∀x∈l,1<=x/\x<=100000000)->(jB l).length<=10*l.length
 | [],_=>by simp[jB]
 | x::l,h=>by
   obtain⟨h1,h2⟩:=h x bB
   have h3:=(yM h1).Oq h2
   have h4:=BV l λy hy=>h y (bL _ hy)
   unfold jB at *
   rw[cJ,w0,fD,de]
   lia
theorem BW{l:List Int}(hb:∀x∈l,1<=x/\x<=100000000){q:Int}:q∈jB l↔ig q/\∃x∈l,q∣x:=by
 unfold jB
 rw[List.mem_flatten]
 constructor
 ·rintro⟨qs,Ga,hq⟩
  obtain⟨x,hx,rfl⟩:=List.mem_map.mp Ga
  obtain⟨a,b,_⟩:=(yM (hb x hx).1).prime q hq
  exact⟨a,x,hx,b⟩
 ·rintro⟨hq,x,hx,hd⟩
  exact⟨_,List.mem_map.mpr ⟨x,hx,rfl⟩,(yM (hb x hx).1).mem q hq hd⟩
theorem yN{l:List Int}(hl:l.length<=6)(hb:∀x∈l,1<=x/\x<=100000000):FN [.lst (l.map D.int)] = .ok ((fu (jB l)).map D.int):=by
 refine ot rfl ?_
 delta N2
 refine fw (ds:=[]) (by walk_at "evs") ?_
 have hlen:=BV l hb
 refine pC (ds:=l.map D.int) (λi Γ=>∃x2,Γ=[.ro (.lst (l.map D.int)),.own ((jB (l.take i)).map D.int),x2]) (by walk_at "evs") ⟨_,rfl⟩ ?_ ?_
 ·rintro i d Γ hd ⟨x2,rfl⟩
  rw[cm] at hd
  cases hi:l[i]? with
  | none=>rw[hi] at hd;cases hd
  | some x =>
    rw[hi] at hd
    injection hd with hd
    subst hd
    obtain⟨h1,h2⟩:=hb x (fV hi)
    have ep:=yI h1 h2 (yM h1)
    have h3:=(yM h1).Oq h2
    have h4:=BV (l.take i) λy hy=>hb y (Df hy)
    have h5:(l.take i).length<=6:=by rw[mj];lia
    have e1:jB (l.take (i+1))=jB (l.take i)++BU x:=by
     unfold jB
     rw[Am,hi];simp
    refine .nx (VY (ds:=(jB (l.take i)).map D.int) (es:=(BU x).map D.int) rfl (by walk_at "evs";simp only[ep];walk_at "evs") (by rw[bu,bu];lia)) ⟨_,by rw[e1,lx];rfl⟩
 ·rintro Γ ⟨x2,rfl⟩
  rw[bu,uI]
  exact Bq (VZ (ns:=jB l) (by walk_at "evs") (by lia))
structure gU (P:Int) (m:Nat) (t:List (List Int)) (s:List Int) (i r:Nat) (L:List Int):Prop where
 tail:i<=m
 pos:1<=r
 bound:r<2^150
 comes:au P m t s (i+r)=au P m t s i
 first:∀j,j<i->¬au P m t s (j+r)=au P m t s j
 least:∀j k,au P m t s (j+k)=au P m t s j->r∣k
 up:L.Pairwise (·<·)
 prime:∀q∈L,ig q/\q<=100000000/\q∣(r:Int)
 all:∀q,ig q->q∣(r:Int)->q∈L
theorem Yb{P:Int}{p m e:Nat}(ep:P=p)(p1:3<=P):∃M:Nat,bx (fI P m e)=((M*p^e:Nat):Int)/\∀k,1<=k->k<=m->(p^k-1)∣M:=by
 have hr:∀e,bx (dD e P)=P^e:=λe=>by
  induction e with
  | zero=>rw[Ke,bx,xk]
  | succ e ih=>rw[oU,bx,ih,ly,j_]
 have gn:∀j,1<=gz P j:=λj=>by
  induction j with
  | zero=>rw[gz];lia
  | succ j ih =>
    have:1*1<=gz P j*P:=kG ih (by lia) (by lia) (by lia)
    rw[gz];lia
 have hh:1<=bx (fH P m):=by
  have:∀l:List Int,(∀x∈l,1<=x)->1<=bx l:=λl=>by
   induction l with
   | nil=>intro _;rw[bx];lia
   | cons x l ih =>
     intro h
     have h1:=h x bB
     have h2:=ih λy hy=>h y (bL _ hy)
     have:1*1<=x*bx l:=kG h1 h2 (by lia) (by lia)
     rw[bx];lia
  refine this _ λx hx=>?_
  rcases List.mem_cons.mp hx with h | h
  ·lia
  ·obtain⟨j,_,rfl⟩:=List.mem_map.mp h
   exact gn j
 obtain⟨M,hM⟩:=qF (show 0<=bx (fH P m) by lia)
 refine⟨M,?_,λk k1 k2=>?_⟩
 ·unfold fI
  rw[BR,hr,hM,Dq,Di,ep]
 ·refine Int.natCast_dvd_natCast.mp ?_
  have e1:((p^k-1:Nat):Int)=P^k-1:=by
   have:=Si (n:=k) (show 0<p by lia)
   rw[Int.natCast_sub this,Di,ep];rfl
  rw[e1]
  obtain⟨j,rfl⟩:∃j,k=j+1:=⟨k-1,by lia⟩
  rw[<-Ov,show((M:Nat):Int)=bx (fH P m) from hM.symm]
  unfold fH
  rw[bx]
  exact Int.mul_dvd_mul (Int.dvd_refl _) (Oz (List.mem_map.mpr ⟨j,List.mem_range.mpr (by lia),rfl⟩))
theorem vX{P:Int}{m:Nat}{t:List (List Int)}{s:List Int}(hD:fx P=false)(p1:3<=P)(p2:P<=9973)(m1:1<=m)(m3:m<=3)(ht:b8 P m t)(hs:s.length=m)(so:bJ P s):∃i r L,gU P m t s i r L/\yE [.int P,aU t,aq s] = .ok (.tup [.int ((i:Nat):Int),.int ((r:Nat):Int),.lst (L.map D.int)]):=by
 have hp:1<P:=by lia
 obtain⟨p,ep⟩:=qF (show 0<=P by lia)
 obtain⟨e,e2,eP,Yc⟩:=X_ (m:=m) p1 p2 m1 m3
 obtain⟨M,hW,hM⟩:=Yb (m:=m) (e:=e) ep p1
 have hb:=X9 (m:=m) (e:=e) p1 p2 m3
 have hl:(fI P m e).length<=6:=by rw[Oy];lia
 have OA:=yL hl hb
 have Yd:=yN hl hb
 obtain⟨w1,w2⟩:=BS (fI P m e) hb
 rw[hW] at OA w1 w2
 generalize OB:M*p^e=W at *
 have W1:1<=W:=by lia
 have Wb:W<2^150:=by
  have h0:(W:Int)=bx (fH P m)*bx (dD e P):=by rw[<-hW,<-BR];rfl
  obtain⟨a1,a2⟩:=BS (fH P m) (Ox p1 p2 m3)
  have a3:bx (fH P m)<=100000000^4:=by
   have hc:(fH P m).length=2∨(fH P m).length=3∨(fH P m).length=4:=by unfold fH;simp;lia
   rcases hc with e | e | e<;>rw[e] at a2<;>refine Ka a2 (by decide)
  have a4:bx (dD e P)<=9973*9973/\0<=bx (dD e P):=by
   have hc:e=0∨e=1∨e=2:=by lia
   rcases hc with rfl | rfl | rfl
   ·rw[Ke,bx];lia
   ·rw[oU,Ke,bx,bx];lia
   ·rw[oU,oU,Ke,bx,bx,bx,lq]
    exact⟨kG p2 p2 (by lia) (by lia),a6e (by lia) (by lia)⟩
  have a5:(W:Int)<=100000000^4*(9973*9973):=by rw[h0];exact kG a3 a4.1 a4.2 (by lia)
  lia
 have mW:m<=W:=by
  have h6:0<p^e:=Si (by lia)
  have h7:M≠0:=λz=>by rw[z,R8] at OB;lia
  have h8:1*p^e<=M*p^e:=uS _ (by lia)
  have h9:((p^e:Nat):Int)=P^e:=by rw[Di,ep]
  lia
 have el:=vL p1 p2 m3 ht Wb
 have hk:=E4 Wb
 have OC:W<2^dW W:=by
  have:=MJ W
  have h2:=uT W (R5 (dW W))
  lia
 have k1:1<=dW W:=by
  rcases sF (dW W) with z | z
  ·rw[z,Ak] at OC;lia
  ·exact z
 have hu:=f7 (s:=s) hp ht m
 have uo:=pH (m:=m) (t:=t) (s:=s) (show 0<P by lia) m
 have eu:=tN (s:=s) (n:=m) p1 p2 m3 ht hs so hk (by lia)
 have OD:=λn hn=>XM (s:=s) (j:=e) (M:=M) ep hD p1 p2 m3 ht hs hM (by
  have h9:((p^e:Nat):Int)=P^e:=by rw[Di,ep]
  lia) n hn
 rw[OB] at OD
 have pW:au P m t (au P m t s m) W=au P m t s m:=by rw[eD hp ht hs];exact OD m (a7 m)
 have hL:∀q∈fu (jB (fI P m e)),2<=q/\q<=100000000:=λq hq=>by
  obtain⟨a,x,hx,hd⟩:=(BW hb).mp (vw.mp hq)
  have:=Aq (by have:=(hb x hx).1;lia) hd
  exact⟨a.1,by have:=(hb x hx).2;lia⟩
 obtain⟨r,r1,rW,rd,pr,hr,er⟩:=yJ (s:=au P m t s m) p1 p2 m3 ht hu uo hk OC W1 pW hL
 rw[eD hp ht hs] at pr
 obtain⟨i,i1,i2,i3,ei⟩:=yK (s:=s) (W:=W) p1 p2 m3 ht hs so k1 hk (show r<2^dW W by lia) pr
 have H:=Gd hp ht hu uo
 have Ye:∀k,au P m t (au P m t s m) k=au P m t s m->r∣k:=λk b9=>by
  refine H.least r1 (by rw[eD hp ht hs];exact pr) (λq q1 q2=>hr q ?_ q2) b9
  refine vw.mpr ((BW hb).mpr ⟨q1,Ge q1 ?_⟩)
  rw[hW]
  exact Int.natCast_dvd_natCast.mpr (So q2 rd)
 refine⟨i,r,(fu (jB (fI P m e))).filter (λq=>(r:Int)%q==0),⟨i1,r1,by lia,i2,i3,λj k vY=>?_,(EH _).filter _,λq hq=>?_,λq q1 q2=>?_⟩,?_⟩
 ·refine Ye k ?_
  have h1:∀n,au P m t (au P m t s m) (r*n)=au P m t s m:=λn=>H.mul (by rw[eD hp ht hs];exact pr) n
  have h2:au P m t s (m+r*j)=au P m t s m:=by rw[<-eD hp ht hs];exact h1 j
  have h3:j<=m+r*j:=by
   have:1*j<=r*j:=uS j r1
   lia
  have h4:au P m t s (m+r*j+k)=au P m t s (m+r*j):=by
   rw[show m+r*j+k=(j+k)+(m+r*j-j) by lia,<-eD hp ht hs,vY,eD hp ht hs,show j+(m+r*j-j)=m+r*j by lia]
  rw[eD hp ht hs]
  have h5:=h4
  rw[<-eD hp ht hs,h2,eD hp ht hs] at h5
  exact h5
 ·obtain⟨h1,h2⟩:=List.mem_filter.mp hq
  obtain⟨a,_⟩:=(BW hb).mp (vw.mp h1)
  exact⟨a,(hL q h1).2,uQ (by simpa using h2)⟩
 ·refine List.mem_filter.mpr ⟨vw.mpr ((BW hb).mpr ⟨q1,Ge q1 ?_⟩),by simpa using uR q2⟩
  rw[hW]
  exact Int.dvd_trans q2 (Int.natCast_dvd_natCast.mpr rd)
 ·refine c8 rfl ?_
  delta N4
  have nt:=vI (cC P m t (dW W))
  have nr:=z0n s
  have Ou:=z0n (au P m t s m)
  have tl:((t.length:Nat):Int)=(m:Int):=by rw[ht.1]
  refine cE (d:=.int (m:Int)) (by simp only[aU];walk_at "evs";rw[tl]) ?_
  refine fw (ds:=(fI P m e).map D.int) (by walk_at "evs";simp only[Yc];walk_at "evs") ?_
  refine cE (d:=.int (W:Int)) (by walk_at "evs";simp only[OA];walk_at "evs") ?_
  refine fw (ds:=(fu (jB (fI P m e))).map D.int) (by walk_at "evs";simp only[Yd];walk_at "evs") ?_
  refine fw (ds:=(cC P m t (dW W)).map aU) (by walk_at "evs";simp only[el];walk_at "evs") ?_
  refine cE (d:=.int (r:Int)) (by walk_at "evs";simp only[eu];walk_at "evs";simp only[er];walk_at "evs") ?_
  refine cR ?_
  have Yg:∀l:List Int,l.filterMap (λq=>if ((r:Int)%q==0)=true then some (D.int q) else none)=(l.filter (λq=>(r:Int)%q==0)).map D.int:=λl=>by
   induction l with
   | nil=>rfl
   | cons x l ih =>
     rw[wV,a5o]
     cases h:((r:Int)%x==0) with
     | true=>simp only[if_true,cJ];rw[ih]
     | false=>simp only[gM,if_false];exact ih
  have fl:=BV _ hb
  have sl:∀l:List Int,(fu l).length<=l.length:=λl=>by
   induction l with
   | nil=>exact a7 _
   | cons x l ih =>
     have:∀y:List Int,(mO x y).length<=y.length+1:=λy=>by
      induction y with
      | nil=>simp[mO]
      | cons z y ih=>unfold mO;split<;>simp;split<;>simp;exact ih
     rw[fu,de]
     have:=this (fu l)
     lia
  have AM:=sl (jB (fI P m e))
  walk_at "evs"
  simp only[ei]
  walk_at "evs"
  rw[VL (k:=D.int) (h:=λq=>if ((r:Int)%q==0)=true then some (D.int q) else none) (λq hq=>?_),Yg]
  ·walk_at "evs"
  ·have q0:=(hL q hq).1
   walk_at "evs"
   cases h:((r:Int)%q==0) with
   | true=>walk_at "evs"
   | false=>rfl
theorem yO{P:Int}{m:Nat}{its:List Item}{s:List Int}(hD:fx P=false)(p1:3<=P)(p2:P<=9973)(m1:1<=m)(m3:m<=3)(hd:Item.kQ its<=3)(ho:Item.eB P m its)(hs:s.length=m)(so:bJ P s):∃i r L,gU P m (Item.tabs P m its) s i r L/\BP [.int P,.int m,.tup (its.map Item.d),aq s] = .ok (.tup [.int ((i:Nat):Int),.int ((r:Nat):Int),.lst (L.map D.int)]):=by
 obtain⟨i,r,L,h,e⟩:=vX hD p1 p2 m1 m3 (Item.tabs_ok (by lia) its ho) hs so
 refine⟨i,r,L,h,c8 rfl (cR ?_)⟩
 have et:=tJ (P:=P) (m:=m) p1 p2 m3 12 its (by lia) ho
 have nt:=z5j (Item.tabs P m its)
 walk_at "evs"
 simp only[et]
 walk_at "evs"
 simp only[e]
theorem OE:∀(N:Nat) (f:Nat->Nat),(∀i,i<=N->f i<N)->∃i j,i<j/\j<=N/\f i=f j
 | 0,f,h=>absurd (h 0 (a7 0)) (jK _)
 | N+1,f,h=>by
   by_cases q:∃i,i<=N/\f i=f (N+1)
   ·obtain⟨i,h1,h2⟩:=q
    exact⟨i,N+1,by lia,by lia,h2⟩
   ·have q':∀i,i<=N->f i≠f (N+1):=λi h1 h2=>q ⟨i,h1,h2⟩
    obtain⟨i,j,h1,h2,h3⟩:=OE N (λi=>if f i=N then f (N+1) else f i) (λi hi=>by
     have a:=h i (by lia)
     have b:=h (N+1) (by lia)
     have c:=q' i hi
     show(if f i=N then f (N+1) else f i)<N
     split<;>lia)
    have a1:=q' i (by lia)
    have a2:=q' j (by lia)
    refine⟨i,j,h1,by lia,?_⟩
    have yP:(if f i=N then f (N+1) else f i)=(if f j=N then f (N+1) else f j):=h3
    split at yP<;>split at yP<;>lia
def gv(P:Int):List Int->Int
 | []=>0
 | x::xs=>x+P*gv P xs
theorem OF{P:Int}(hp:0<P):∀{l:List Int},bJ P l->0<=gv P l/\gv P l<P^l.length
 | [],_=>by simp[gv]
 | x::xs,h=>by
   obtain⟨a,b⟩:=OF hp (l:=xs) λn hn=>h n (bL _ hn)
   obtain⟨c,d⟩:=h x bB
   have e:0<=P*gv P xs:=a6e (by lia) a
   have f:P*(gv P xs+1)<=P*P^xs.length:=Sl (by lia) (by lia)
   rw[uJ,lq] at f
   rw[gv,de,ly,j_ (P^xs.length)]
   lia
theorem OG{P:Int}(hp:0<P):∀{a b:List Int},a.length=b.length->bJ P a->bJ P b->gv P a=gv P b->a=b
 | [],[],_,_,_,_=>rfl
 | [],_::_,h,_,_,_=>by simp at h
 | _::_,[],h,_,_,_=>by simp at h
 | x::xs,y::ys,h,ha,hb,e=>by
   rw[gv,gv] at e
   obtain⟨x0,x1⟩:=ha x bB
   obtain⟨y0,y1⟩:=hb y bB
   have ex:x=y:=by
    have h1:=congrArg (·%P) e
    simp only[a6c] at h1
    rwa [jg x0 x1,jg y0 y1] at h1
   subst ex
   have e2:gv P xs=gv P ys:=Int.eq_of_mul_eq_mul_left (by lia) (show P*gv P xs=P*gv P ys by lia)
   rw[OG hp (by simpa using h) (λn hn=>ha n (bL _ hn)) (λn hn=>hb n (bL _ hn)) e2]
section
variable {P:Int}{m:Nat}{t:List (List Int)}{s:List Int}{i r:Nat}{L:List Int}
theorem gU.short(H:gU P m t s i r L)(hp:1<P)(ht:b8 P m t):(r:Int)<=P^m:=by
 rcases Dl (P^m) (r:Int) with q | q
 ·exfalso
  have hP:0<P^m:=Int.pow_pos (by lia)
  obtain⟨N,eN⟩:=qF (show 0<=P^m by lia)
  have bd:=λn=>OF (P:=P) (by lia) (pH (m:=m) (t:=t) (s:=s) (show 0<P by lia) n)
  obtain⟨a,b,h1,h2,h3⟩:=OE N (λn=>(gv P (au P m t s n)).toNat) (λn _=>by
   have:=bd n
   rw[f7 hp ht,eN] at this
   show(gv P (au P m t s n)).toNat<N
   lia)
  have yP:(gv P (au P m t s a)).toNat=(gv P (au P m t s b)).toNat:=h3
  have e1:gv P (au P m t s a)=gv P (au P m t s b):=by
   have:=bd a
   have:=bd b
   lia
  have e2:=OG (P:=P) (by lia) (by rw[f7 hp ht,f7 hp ht]) (pH (by lia) a) (pH (by lia) b) e1
  have:=xl (by lia) (H.least a (b-a) (by rw[show a+(b-a)=b by lia,e2]))
  lia
 ·exact q
theorem gU.turns(H:gU P m t s i r L)(hp:1<P)(ht:b8 P m t)(hs:s.length=m):∀(c n:Nat),i<=n->au P m t s (n+r*c)=au P m t s n
 | 0,n,_=>rfl
 | c+1,n,h=>by
   have h1:au P m t s (n+r)=au P m t s n:=by
    have:=eD hp ht hs (i+r) (n-i)
    rw[H.comes,eD hp ht hs,show i+(n-i)=n by lia,show i+r+(n-i)=n+r by lia] at this
    exact this.symm
   rw[Nat.mul_succ,show n+(r*c+r)=n+r*c+r by lia]
   have h2:=H.turns hp ht hs c n h
   rw[<-eD hp ht hs,h2,eD hp ht hs,h1]
theorem gU.down(H:gU P m t s i r L)(hp:1<P)(ht:b8 P m t)(hs:s.length=m){n:Nat}(h:i<=n):au P m t s (i+(n-i)%r)=au P m t s n:=by
 have h1:=H.turns hp ht hs ((n-i)/r) (i+(n-i)%r) (by lia)
 have h2:=J_ (n-i) r
 rw[show i+(n-i)%r+r*((n-i)/r)=n by lia] at h1
 exact h1.symm
variable {g:List Int}
theorem gU.off(H:gU P m t s i r L)(hp:1<P)(ht:b8 P m t)(hs:s.length=m)(h0:∀a,a<=i->au P m t s a≠g)(h1:au P m t g r≠g)(n:Nat):au P m t s n≠g:=λz=>by
 rcases cG i n with q | q
 ·refine h1 ?_
  have:=H.turns hp ht hs 1 n (by lia)
  rw[Kb,<-eD hp ht hs,z] at this
  exact this
 ·exact h0 n q z
theorem Yh(k M:Nat)(hM:1<=M):k<=(k+M-1)/M*M/\(k+M-1)/M*M<k+M:=by
 have h1:=J_ (k+M-1) M
 have h2:=uT (k+M-1) (show 0<M by lia)
 rw[sC M] at h1
 lia
theorem gU.lands(H:gU P m t s i r L)(hp:1<P)(ht:b8 P m t)(hs:s.length=m){M:Nat}(hM:1<=M){k:Nat}(k1:0<k)(k2:k<r)(e:au P m t s (i+k)=g):∃l j,1<=l/\l<=(r+M-1)/M/\j<M/\l*M=k+j/\au P m t g j=au P m t s (i+l*M):=by
 obtain⟨a,b⟩:=Yh k M hM
 refine⟨(k+M-1)/M,(k+M-1)/M*M-k,Nat.div_pos (by lia) (by lia),Nat.div_le_div_right (by lia),by lia,by lia,?_⟩
 rw[<-e,eD hp ht hs,show i+k+((k+M-1)/M*M-k)=i+(k+M-1)/M*M by lia]
theorem gU.apart(H:gU P m t s i r L)(hp:1<P)(ht:b8 P m t)(hs:s.length=m){M:Nat}(hM:1<=M)(h0:∀a,a<=i->au P m t s a≠g)(h1:∀l j,1<=l->l<=(r+M-1)/M->j<M->au P m t g j≠au P m t s (i+l*M))(n:Nat):au P m t s n≠g:=λz=>by
 rcases cG i n with q | q
 ·have e:=H.down hp ht hs (n:=n) (by lia)
  rw[z] at e
  have k2:=uT (n-i) (show 0<r from H.pos)
  have k1:0<(n-i)%r:=by
   rcases sF ((n-i)%r) with w | w
   ·rw[w] at e;exact absurd e (h0 i (a7 i))
   ·exact w
  obtain⟨l,j,a,b,c,_,d⟩:=H.lands hp ht hs hM k1 k2 e
  exact h1 l j a b c d
 ·exact h0 n q z
theorem gU.found(H:gU P m t s i r L)(hp:1<P)(ht:b8 P m t)(hs:s.length=m)(hg:g.length=m)(go:bJ P g){M:Nat}(hM:1<=M)(hr:M<=r)(h0:∀a,a<=i->au P m t s a≠g)(h1:au P m t g r=g)
 {l j:Nat} (l1:1<=l) (jM:j<M) (e:au P m t g j=au P m t s (i+l*M)) (fl:∀l' j',1<=l'->l'<l->j'<M->au P m t g j'≠au P m t s (i+l'*M)) (fj:∀j',j'<j->au P m t g j'≠au P m t s (i+l*M)) :
 ∃n:Nat,i+l*M=n+j/\n<=i+r/\au P m t s n=g/\∀a,a<n->au P m t s a≠g:=by
 have r1:=H.pos
 have hl:M<=l*M:=by have:=uS M l1;lia
 have G:=Gd hp ht hg go
 have e1:au P m t s (i+l*M+(r*j-j))=g:=by
  have hj:j<=r*j:=by have:=uS j r1;lia
  rw[<-eD hp ht hs,<-e,eD hp ht hg,show j+(r*j-j)=r*j by lia]
  exact G.mul h1 j
 have e2:=H.down hp ht hs (n:=i+l*M+(r*j-j)) (by lia)
 rw[e1] at e2
 have k2:=uT (i+l*M+(r*j-j)-i) (show 0<r from r1)
 have k1:0<(i+l*M+(r*j-j)-i)%r:=by
  rcases sF ((i+l*M+(r*j-j)-i)%r) with w | w
  ·rw[w] at e2;exact absurd e2 (h0 i (a7 i))
  ·exact w
 generalize (i+l*M+(r*j-j)-i)%r=k at e2 k1 k2
 have ej:∀b,au P m t g b=au P m t s (i+k+b):=λb=>by rw[<-e2,eD hp ht hs]
 have dv:∀a b,a<=b->au P m t s a=au P m t s b->r∣b-a:=λa b h z=>H.least a (b-a) (by rw[show a+(b-a)=b by lia,z])
 obtain⟨l0,j0,a0,_,c0,d0,f0⟩:=H.lands hp ht hs hM k1 k2 e2
 have ll:l<=l0:=by
  rcases cG l0 l with w | w
  ·exact absurd f0 (fl l0 j0 a0 w c0)
  ·exact w
 have lM:l*M<=l0*M:=uS M ll
 have kl:k<=l*M:=by
  rcases cG (l*M) k with w | w
  ·have:=xl (by lia) (dv (i+l*M) (i+k+j) (by lia) (by rw[<-ej,e]))
   lia
  ·exact w
 have jl:j<=l*M-k:=by
  rcases cG (l*M-k) j with w | w
  ·exact absurd (by rw[ej,show i+k+(l*M-k)=i+l*M by lia]) (fj (l*M-k) w)
  ·exact w
 have jz:l*M-k-j=0:=by
  rcases sF (l*M-k-j) with w | w
  ·exact w
  ·have:=xl (by lia) (dv (i+k+j) (i+l*M) (by lia) (by rw[<-ej,e]))
   lia
 refine⟨i+k,by lia,by lia,e2,λa ha z=>?_⟩
 rcases cG i a with w | w
 ·have:=xl (by lia) (dv a (i+k) (by lia) (by rw[e2,z]))
  lia
 ·exact h0 a w z
end
end L3
namespace L3
open PySem
local macro_rules | `(tactic| walk_at "evs") => wkL " L3.z9d L3.z5h L3.z5g L3.s_on L3.z4p L3.z5j L3.z5x L3.z6a L3.z5s L3.z4s L3.z6b L3.z0n L3.dInt L3.y9x L3.y9t L3.x3d L3.Item.d L3.Item.ds_map L3.y9w L3.x4b L3.x4c L3.y9r L3.y3i L3.y3n L3.gZip L3.y7z L3.x6x L3.y0y L3.y3u L3.w0d L3.D.isNon L3.z8m L3.z9j L3.x1m"
theorem OH(n:Nat)(l:List (List Int)):D.lay (n+2) (.lst (l.map aq))=true:=by
 rw[LK,qD]
 rintro d hd
 obtain⟨x,_,rfl⟩:=List.mem_map.mp hd
 exact z5s n x
theorem OI(l:List (List Int))(x:List Int):mP (aq x) (.lst (l.map aq)) = .ok (.bl (decide (x∈l))):=by
 have e:((l.map aq).any λy=>bF y (aq x))=decide (x∈l):=by
  rw[List.any_map,a6f,a5j,decide_eq_true_iff]
  constructor
  ·rintro⟨y,hy,h⟩
   have:y=x:=by simpa [z4s] using h
   exact this ▸ hy
  ·intro h
   exact⟨x,h,by simp[z4s]⟩
 unfold mP
 rw[<-e]
 exact eU ⟨z5s 39 x,OH 38 l⟩
theorem OJ(x:List Int):∀(l:List (List Int)),x∈l->∃j,(l.map aq).findIdx? (λy=>bF y (aq x))=some j/\l[j]? = some x/\∀j',j'<j->l[j']? ≠ some x
 | [],h=>by simp at h
 | y::l,h=>by
   by_cases q:y=x
   ·subst q
    refine⟨0,?_,rfl,λj' h=>absurd h (jK _)⟩
    rw[cJ,Kf,z4s]
    simp
   ·have hm:x∈l:=by
     rcases List.mem_cons.mp h with w | w
     ·exact absurd w.symm q
     ·exact w
    obtain⟨j,a,b,c⟩:=OJ x l hm
    refine⟨j+1,?_,by simpa using b,λj' h=>?_⟩
    ·rw[cJ,Kf,z4s,a]
     simp[q]
    ·cases j' with
     | zero=>simpa using q
     | succ j'=>simpa using c j' (by lia)
theorem OK{l:List (List Int)}{x:List Int}(h:x∈l)(hl:l.length<=100000):∃j:Nat,td (l.map aq) (aq x) = .ok (.int (j:Int))/\l[j]? = some x/\∀j',j'<j->l[j']? ≠ some x:=by
 obtain⟨j,a,b,c⟩:=OJ x l h
 refine⟨j,?_,b,c⟩
 unfold td
 rw[a]
 exact eU ⟨z5s 39 x,OH 38 l,by rw[bu];exact hl⟩
section
variable {P:Int}{m:Nat}{t:List (List Int)}{s:List Int}
def cj(P:Int)(m:Nat)(t:List (List Int))(s:List Int)(n:Nat):List (List Int):=(bK n).map (au P m t s)
theorem BX{n j:Nat}(h:j<n):(cj P m t s n)[j]? = some (au P m t s j):=by
 unfold cj
 rw[cm,oW h]
 rfl
theorem OL{n j:Nat}{x:List Int}(h:(cj P m t s n)[j]? = some x):j<n/\x=au P m t s j:=by
 have hj:j<n:=by
  have:=(List.getElem?_eq_some_iff.mp h).1
  simpa [cj] using this
 rw[BX hj] at h
 exact⟨hj,(iQ h).symm⟩
theorem Gf{n:Nat}{x:List Int}:x∈cj P m t s n↔∃j,j<n/\au P m t s j=x:=by
 unfold cj
 rw[uO]
 exact⟨λ⟨j,h,e⟩=>⟨j,List.mem_range.mp h,e⟩,λ⟨j,h,e⟩=>⟨j,List.mem_range.mpr h,e⟩⟩
theorem Yi(n:Nat):(cj P m t s n).map aq++[aq (au P m t s n)]=(cj P m t s (n+1)).map aq:=by
 unfold cj
 rw[uK,lx,lx]
 rfl
theorem Gg(n:Nat):(cj P m t s n).length=n:=by simp[cj]
theorem tO{n:Nat}(p1:3<=P)(p2:P<=9973)(hm:m<=3)(ht:b8 P m t)(hs:s.length=m)(so:bJ P s)(hn:n<=90000):yC [.int P,aU t,aq s,.int n] = .ok ((cj P m t s n).map aq):=by
 have hp:1<P:=by lia
 refine ot rfl ?_
 delta NT
 refine fw (ds:=[]) (by walk_at "evs") ?_
 refine pC (ds:=fq 0 n) (λj Γ=>j<=n/\∃x,Γ=[.ro (.int P),.ro (aU t),.ro (aq (au P m t s j)),.ro (.int n),.own ((cj P m t s j).map aq),x]) (by walk_at "evs") ⟨iT n,.no,by rw[BI hs so];rfl⟩ ?_ ?_
 ·rintro j d Γ hd ⟨hj,x,rfl⟩
  have rA:j<n:=by
   have:=(List.getElem?_eq_some_iff.mp hd).1
   rwa [oo] at this
  have et:=pE (P:=P) (ts:=t) (ss:=au P m t s j) (by lia) (by lia) (by rw[f7 hp ht];exact ht) (by rw[f7 hp ht];lia)
  rw[<-Nt hp ht hs] at et
  have n1:=z0n (au P m t s j)
  have n2:=z0n (au P m t s (j+1))
  refine .nx (dU (Γ':=[.ro (.int P),.ro (aU t),.ro (aq (au P m t s j)),.ro (.int n),.own ((cj P m t s (j+1)).map aq),.ro d]) ((rh (d:=aq (au P m t s j)) rfl (by walk_at "evs") (by rw[bu,Gg];lia)).trans (by rw[<-Yi];rfl)) (gQ (d:=aq (au P m t s (j+1))) ?_)) ⟨rA,_,rfl⟩
  simp only[aU,aq] at et n2 ⊢
  walk_at "evs"
  simp only[et]
  walk_at "evs"
 ·rintro Γ ⟨hj,x,rfl⟩
  rw[oo]
  exact EJ rfl
theorem Yj{r:Nat}(r1:1<=r)(r2:r<=10000):∃M:Nat,1<=M/\M<=100/\M<=r/\r<=M*M/\(M-1)*(M-1)<r/\FJ [.int r] = .ok (.int M):=by
 have key:∃M:Nat,1<=M/\M<=100/\r<=M*M/\(M-1)*(M-1)<r/\dh (gT (ao qY (ao cX (gV 1) (gV 1)) (gV 0))) (aX 1 (aG (ao b7 (gV 1) (gC (.int 1))))) 200 [.ro (.int r),.ro (.int 0)] = .ok (.nx [.ro (.int r),.ro (.int M)]):=by
  refine pB (λz Γ=>∃x:Nat,Γ=[.ro (.int r),.ro (.int x)]/\x+z=101/\(1<=x->(x-1)*(x-1)<r)) (λq=>∃M:Nat,1<=M/\M<=100/\r<=M*M/\(M-1)*(M-1)<r/\q = .ok (.nx [.ro (.int r),.ro (.int M)])) ?_ 200 101 _ (by lia) ⟨0,rfl,rfl,λh=>absurd h (by lia)⟩
  rintro z Γ ⟨x,rfl,hx,hl⟩
  have xm:(x:Int)*(x:Int)=((x*x:Nat):Int):=(Dq x x).symm
  have a9j:x<=101:=by lia
  by_cases h:x*x<r
  ·have xb:x<100:=by
    rcases cG x 100 with w | w
    ·exact w
    ·have:=a6b w w
     lia
   have b1:decide ((x:Int)*(x:Int)<(r:Int))=true:=decide_eq_true (by rw[xm];lia)
   have e1:(x:Int)+1=((x+1:Nat):Int):=by lia
   refine .inr ⟨by walk_at "evs";rw[b1],.inl ⟨_,z-1,by lia,.inl (gQ (d:=.int ((x+1:Nat):Int)) (by walk_at "evs";rw[e1])),x+1,rfl,by lia,λ_=>by simpa using h⟩⟩
  ·have b1:decide ((x:Int)*(x:Int)<(r:Int))=false:=decide_eq_false (by rw[xm];lia)
   have x1:1<=x:=by
    rcases sF x with w | w
    ·rw[w] at h;lia
    ·exact w
   have xb:x<=100:=by
    rcases cG x 101 with w | w
    ·lia
    ·have:=hl x1
     rw[show x-1=100 by lia] at this
     lia
   exact .inl ⟨by walk_at "evs";rw[b1],x,x1,xb,by lia,hl x1,rfl⟩
 obtain⟨M,a,b,c,d,e⟩:=key
 refine⟨M,a,b,?_,c,d,c8 rfl ?_⟩
 ·obtain⟨k,rfl⟩:∃k,M=k+1:=⟨M-1,by lia⟩
  rw[Nat.add_sub_cancel] at d
  rcases sF k with w | w
  ·lia
  ·have:=uS k w
   lia
 ·delta NV
  refine cE (d:=.int 0) (by walk_at "evs") ?_
  refine dU e (cR ?_)
  walk_at "evs"
def fy(P:Int)(m:Nat)(t:List (List Int))(e:List Int)(M c:Nat):List (List Int):=(bK c).map λj=>au P m t e ((j+1)*M)
theorem Yk{e:List Int}{M c j:Nat}{x:List Int}(h:(fy P m t e M c)[j]? = some x):j<c/\x=au P m t e ((j+1)*M):=by
 have hj:j<c:=by
  have:=(List.getElem?_eq_some_iff.mp h).1
  simpa [fy] using this
 unfold fy at h
 rw[cm,oW hj] at h
 exact⟨hj,(iQ h).symm⟩
theorem Yl{e:List Int}{M c j:Nat}(hj:j<c):(fy P m t e M c)[j]? = some (au P m t e ((j+1)*M)):=by
 unfold fy
 rw[cm,oW hj]
 rfl
theorem Ym{M r:Nat}(p1:3<=P)(p2:P<=9973)(hm:m<=3)(ht:b8 P m t)(hs:s.length=m)(so:bJ P s)(M1:1<=M)(M2:M<=100)(r2:r<=10000):FI [.int P,aU t,.int M,.int r,aq s] = .ok ((fy P m t s M ((r+M-1)/M)).map aq):=by
 have hp:1<P:=by lia
 refine ot rfl ?_
 delta NU
 have er:=tI (n:=M) p1 p2 hm ht (by lia)
 have nt:=mR (bw P m t M)
 refine cE (d:=aU (bw P m t M)) (by walk_at "evs";simp only[er];walk_at "evs") ?_
 refine Bq ?_
 have OM:=iH hp ht M
 have et:=pE (P:=P) (ts:=bw P m t M) (ss:=s) (by lia) (by lia) (by rw[hs];exact OM) (by lia)
 have ef:bT P (bw P m t M) s=au P m t s M:=rfl
 rw[ef] at et
 have hd:(r+M-1)/M<=90000:=fB (Sn _ _) (by lia)
 have ew:=tO (P:=P) (m:=m) (t:=bw P m t M) (s:=au P m t s M) (n:=(r+M-1)/M) p1 p2 hm OM (f7 hp ht M) (pH (by lia) M) hd
 have ez:cj P m (bw P m t M) (au P m t s M) ((r+M-1)/M)=fy P m t s M ((r+M-1)/M):=by
  unfold cj fy
  refine uL λj _=>?_
  show bT P (bw P m (bw P m t M) j) _=_
  rw[MH hp ht,show bT P (bw P m t (M*j)) (au P m t s M)=au P m t (au P m t s M) (M*j) from rfl,eD hp ht hs,Nat.succ_mul,sC j M,C5]
 rw[ez] at ew
 have e1:((r:Int)+(M:Int)-1)/(M:Int)=(((r+M-1)/M:Nat):Int):=by
  rw[show(r:Int)+(M:Int)-1=((r+M-1:Nat):Int) by lia];rfl
 simp only[aU,aq] at et ew ⊢
 walk_at "evs"
 simp only[et]
 walk_at "evs"
 rw[e1]
 simp only[ew]
 exact eU (lT _)
end
theorem ON{gb:G->R Fl}{i j:Nat}{I:G->Prop}{A:Nat->D->Prop}{B:Nat->D->D->Prop}:∀{xs:List D} {k:Nat} {Γ:G},I Γ->(∀(n:Nat) (a:D) (Γ:G),xs[n]? = some a->I Γ->(A (k+n) a/\∃Γ',gb ((Γ.set i (.ro (.int ((k+n:Nat):Int)))).set j (.ro a)) = .ok (.nx Γ')/\I Γ')∨∃v,B (k+n) a v/\gb ((Γ.set i (.ro (.int ((k+n:Nat):Int)))).set j (.ro a)) = .ok (.rt v))->((∀(n:Nat) (a:D),xs[n]? = some a->A (k+n) a)/\∃Γ',gu gb i j (dS k xs) Γ = .ok (.nx Γ')/\I Γ')∨∃(n:Nat) (a v:D),xs[n]? = some a/\(∀(n':Nat) (a':D),n'<n->xs[n']? = some a'->A (k+n') a')/\B (k+n) a v/\gu gb i j (dS k xs) Γ = .ok (.rt v)
 | [],k,Γ,h,_=>.inl ⟨λn a e=>by simp at e,Γ,rfl,h⟩
 | x::xs,k,Γ,h,q=>by
   rcases q 0 x Γ rfl h with ⟨r,Γ',e1,i1⟩ | ⟨v,r,e1⟩
   ·simp only[nO] at r e1
    rcases ON (xs:=xs) (k:=k+1) i1 (λn b Γ hb hI=>by have:=q (n+1) b Γ (by simpa using hb) hI;rw[show k+(n+1)=k+1+n by lia] at this;exact this) with ⟨r2,z⟩ | ⟨n,a,v,h1,h2,h3,z⟩
    ·refine .inl ⟨λn a ha=>?_,?_⟩
     ·cases n with
      | zero=>simp at ha;subst ha;simpa using r
      | succ n=>rw[show k+(n+1)=k+1+n by lia];exact r2 n a (by simpa using ha)
     ·rw[dS,gu,e1];exact z
    ·refine .inr ⟨n+1,a,v,by simpa using h1,λn' a' hn ha=>?_,by rw[show k+(n+1)=k+1+n by lia];exact h3,by rw[dS,gu,e1];exact z⟩
     cases n' with
     | zero=>simp at ha;subst ha;simpa using r
     | succ n'=>rw[show k+(n'+1)=k+1+n' by lia];exact h2 n' a' (by lia) (by simpa using ha)
   ·simp only[nO] at r e1
    exact .inr ⟨0,x,v,rfl,λn' _ hn=>absurd hn (jK _),by simpa using r,by rw[dS,gu,e1]⟩
theorem Yn(n:Nat):D.lay n (.str (cU "after"))=true:=by rw[A9];decide +kernel
section
variable {P:Int}{m:Nat}{t:List (List Int)}{s g:List Int}{i r:Nat}{L:List Int}
def Told(P:Int)(m:Nat)(t:List (List Int))(s g:List Int)(i r:Nat)(d:D):Prop :=
 (∃n:Nat,d = .tup [.str (cU "after"),.int n]/\n<=i+r/\au P m t s n=g/\∀a,a<n->au P m t s a≠g) ∨
 ((∀n,au P m t s n≠g)/\au P m t g r≠g/\d = .tup [.str (cU "off"),.int i,.int r]) ∨
 ((∀n,au P m t s n≠g)/\au P m t g r=g/\∃M:Nat,1<=M/\M<=100/\r<=M*M/\(M-1)*(M-1)<r/\(∀x,x∈fy P m t (au P m t s i) M ((r+M-1)/M)->¬x∈cj P m t g M) /\
   d = .tup [.str (cU "apart"),.int i,.int r,.lst ((cj P m t g M).map aq),.lst ((fy P m t (au P m t s i) M ((r+M-1)/M)).map aq)])
theorem yQ(H:gU P m t s i r L)(p1:3<=P)(p2:P<=9973)(hm:m<=3)(ht:b8 P m t)(hs:s.length=m)(hg:g.length=m)(go:bJ P g)(r2:r<=10000)(h0:∀a,a<=i->au P m t s a≠g)(h1:au P m t g r=g) :
 ∃d,Told P m t s g i r d/\yD [.int P,aU t,.int i,.int r,aq (au P m t s i),aq g] = .ok d:=by
 have hp:1<P:=by lia
 obtain⟨M,M1,M2,Mr,M3,M4,em⟩:=Yj H.pos r2
 have en:=tO (P:=P) (m:=m) (t:=t) (s:=g) (n:=M) p1 p2 hm ht hg go (by lia)
 have ef:=Ym (P:=P) (m:=m) (t:=t) (s:=au P m t s i) (M:=M) (r:=r) p1 p2 hm ht (f7 hp ht i) (pH (by lia) i) M1 M2 r2
 have n1:=lT (cj P m t g M)
 have n2:=lT (fy P m t (au P m t s i) M ((r+M-1)/M))
 have fz:∀{j:Nat} {x:List Int},(fy P m t (au P m t s i) M ((r+M-1)/M))[j]? = some x->j<(r+M-1)/M/\x=au P m t s (i+(j+1)*M):=λh=>by
  obtain⟨a,b⟩:=Yk h
  exact⟨a,by rw[b,eD hp ht hs]⟩
 have im:=H.tail
 have body:∀(k:Nat) (x:List Int),k<=20000->(¬x∈cj P m t g M/\(cy (gT (ao mP (gV 10) (gV 7))) (br (cq (ae (gC (.str "after")) (ae (ao kg (ao b7 (gV 2) (ao cX (gV 9) (gV 6))) (z9j (gV 7) (gV 10))) az)))) cQ) ([.ro (.int P),.ro (aU t),.ro (.int i),.ro (.int r),.ro (aq (au P m t s i)),.ro (aq g),.ro (.int M),.own ((cj P m t g M).map aq),.ro (.lst ((fy P m t (au P m t s i) M ((r+M-1)/M)).map aq)),.ro (.int (k:Int)),.ro (aq x)]) = .ok (.nx ([.ro (.int P),.ro (aU t),.ro (.int i),.ro (.int r),.ro (aq (au P m t s i)),.ro (aq g),.ro (.int M),.own ((cj P m t g M).map aq),.ro (.lst ((fy P m t (au P m t s i) M ((r+M-1)/M)).map aq)),.ro (.int (k:Int)),.ro (aq x)]))) ∨
  ∃j:Nat,(cj P m t g M)[j]? = some x/\(∀j',j'<j->(cj P m t g M)[j']? ≠ some x)/\(cy (gT (ao mP (gV 10) (gV 7))) (br (cq (ae (gC (.str "after")) (ae (ao kg (ao b7 (gV 2) (ao cX (gV 9) (gV 6))) (z9j (gV 7) (gV 10))) az)))) cQ) ([.ro (.int P),.ro (aU t),.ro (.int i),.ro (.int r),.ro (aq (au P m t s i)),.ro (aq g),.ro (.int M),.own ((cj P m t g M).map aq),.ro (.lst ((fy P m t (au P m t s i) M ((r+M-1)/M)).map aq)),.ro (.int (k:Int)),.ro (aq x)]) = .ok (.rt (.tup [.str (cU "after"),.int ((i:Int)+(k:Int)*(M:Int)-(j:Int))])):=λk x hk=>by
  have ei:=OI (cj P m t g M) x
  have nx:=z0n x
  by_cases q:x∈cj P m t g M
  ·obtain⟨j,e,a,b⟩:=OK q (by rw[Gg];lia)
   refine .inr ⟨j,a,b,oq ?_ (cR ?_)⟩
   ·rw[decide_eq_true q] at ei
    walk_at "evs"
    simp only[ei]
    walk_at "evs"
   ·walk_at "evs"
    simp only[e]
    walk_at "evs"
  ·refine .inl ⟨q,tp ?_⟩
   rw[decide_eq_false q] at ei
   walk_at "evs"
   simp only[ei]
   walk_at "evs"
 have loop:=ON (gb:=(cy (gT (ao mP (gV 10) (gV 7))) (br (cq (ae (gC (.str "after")) (ae (ao kg (ao b7 (gV 2) (ao cX (gV 9) (gV 6))) (z9j (gV 7) (gV 10))) az)))) cQ)) (i:=9) (j:=10) (I:=λΓ=>∃x9 BY,Γ=[.ro (.int P),.ro (aU t),.ro (.int i),.ro (.int r),.ro (aq (au P m t s i)),.ro (aq g),.ro (.int M),.own ((cj P m t g M).map aq),.ro (.lst ((fy P m t (au P m t s i) M ((r+M-1)/M)).map aq)),x9,BY]) (A:=λ_ d=>∃x,d=aq x/\¬x∈cj P m t g M)
  (B:=λk d v=>∃(x:List Int) (j:Nat),d=aq x/\(cj P m t g M)[j]? = some x/\(∀j',j'<j->(cj P m t g M)[j']? ≠ some x)/\v = .tup [.str (cU "after"),.int ((i:Int)+(k:Int)*(M:Int)-(j:Int))])
  (xs:=(fy P m t (au P m t s i) M ((r+M-1)/M)).map aq) (k:=1) (Γ:=[.ro (.int P),.ro (aU t),.ro (.int i),.ro (.int r),.ro (aq (au P m t s i)),.ro (aq g),.ro (.int M),.own ((cj P m t g M).map aq),.ro (.lst ((fy P m t (au P m t s i) M ((r+M-1)/M)).map aq)),.no,.no]) ⟨_,_,rfl⟩ (by
  rintro n a Γ ha ⟨x9,BY,rfl⟩
  rw[cm] at ha
  obtain⟨x,hx,rfl⟩:=Option.map_eq_some_iff.mp ha
  obtain⟨hn,_⟩:=fz hx
  have hc:(r+M-1)/M<=10100:=fB (Sn _ _) (by lia)
  rcases body (1+n) x (by lia) with ⟨q,e⟩ | ⟨j,q1,q2,e⟩
  ·exact .inl ⟨⟨x,rfl,q⟩,_,e,_,_,rfl⟩
  ·exact .inr ⟨_,⟨x,j,rfl,q1,q2,rfl⟩,e⟩)
 have start:∀d,aE (yb 8 (vt 9 10 (x1m (dt 8)) (cy (gT (ao mP (gV 10) (gV 7))) (br (cq (ae (gC (.str "after")) (ae (ao kg (ao b7 (gV 2) (ao cX (gV 9) (gV 6))) (z9j (gV 7) (gV 10))) az)))) cQ))) (br (cq (ae (gC (.str "apart")) (ae (gV 2) (ae (gV 3) (ae (gV 7) (ae (gV 8) az))))))) [.ro (.int P),.ro (aU t),.ro (.int i),.ro (.int r),.ro (aq (au P m t s i)),.ro (aq g),.ro (.int M),.own ((cj P m t g M).map aq),.own ((fy P m t (au P m t s i) M ((r+M-1)/M)).map aq),.no,.no] = .ok (.rt d) ->
  yD [.int P,aU t,.int i,.int r,aq (au P m t s i),aq g] = .ok d:=λd h=>by
  refine c8 rfl ?_
  delta NW
  refine cE (d:=.int M) (by walk_at "evs";simp only[em];walk_at "evs") ?_
  refine fw (ds:=(cj P m t g M).map aq) (by walk_at "evs";simp only[en];walk_at "evs") ?_
  refine fw (ds:=(fy P m t (au P m t s i) M ((r+M-1)/M)).map aq) (by walk_at "evs";simp only[ef];walk_at "evs") ?_
  exact h
 have fr:vv 8 [.ro (.int P),.ro (aU t),.ro (.int i),.ro (.int r),.ro (aq (au P m t s i)),.ro (aq g),.ro (.int M),.own ((cj P m t g M).map aq),.own ((fy P m t (au P m t s i) M ((r+M-1)/M)).map aq),.no,.no]=[.ro (.int P),.ro (aU t),.ro (.int i),.ro (.int r),.ro (aq (au P m t s i)),.ro (aq g),.ro (.int M),.own ((cj P m t g M).map aq),.ro (.lst ((fy P m t (au P m t s i) M ((r+M-1)/M)).map aq)),.no,.no]:=rfl
 have get:∀l,1<=l->l<=(r+M-1)/M->(fy P m t (au P m t s i) M ((r+M-1)/M))[l-1]? = some (au P m t s (i+l*M)):=λl a b=>by
  rw[Yl (by lia),eD hp ht hs,show l-1+1=l by lia]
 rcases loop with ⟨hA,Γ',eL,x9,BY,rfl⟩ | ⟨n,a,v,hx,hA,⟨x,j,rfl,q1,q2,rfl⟩,eL⟩
 ·have OO:∀x,x∈fy P m t (au P m t s i) M ((r+M-1)/M)->¬x∈cj P m t g M:=λx hx=>by
   obtain⟨n,hn⟩:=J3 hx
   obtain⟨x',e,q⟩:=hA n (aq x) (by rw[cm,hn];rfl)
   rw[ym e]
   exact q
  refine⟨_,.inr (.inr ⟨H.apart hp ht hs M1 h0 λl j a b c z=>?_,h1,M,M1,M2,M3,M4,OO,rfl⟩),start _ ?_⟩
  ·refine OO _ (fV (get l a b)) (Gf.mpr ⟨j,c,z⟩)
  ·refine dU (Γ':=[.ro (.int P),.ro (aU t),.ro (.int i),.ro (.int r),.ro (aq (au P m t s i)),.ro (aq g),.ro (.int M),.own ((cj P m t g M).map aq),.ro (.lst ((fy P m t (au P m t s i) M ((r+M-1)/M)).map aq)),x9,BY]) ?_ (cR ?_)
   ·unfold yb vt
    rw[fr]
    walk_at "evs"
    exact eL
   ·walk_at "evs"
 ·rw[cm] at hx
  obtain⟨y,hy,ey⟩:=Option.map_eq_some_iff.mp hx
  obtain rfl:=ym ey
  obtain⟨hn,e1⟩:=fz hy
  obtain⟨jM,e2⟩:=OL q1
  obtain⟨n0,a1,a2,a3,a4⟩:=H.found hp ht hs hg go M1 Mr h0 h1 (l:=1+n) (j:=j) (by lia) jM (by rw[<-e2,e1,C5 n 1]) (λl' j' b1 b2 b3 z=>by
   obtain⟨x',e3,q⟩:=hA (l'-1) (aq (au P m t s (i+l'*M))) (by lia) (by rw[cm,get l' b1 (by lia)];rfl)
   rw[<-ym e3] at q
   exact q (Gf.mpr ⟨j',b3,z⟩)) (λj' b1 z=>q2 j' b1 (by rw[BX (by lia),z,e1,C5 n 1]))
  refine⟨_,.inl ⟨n0,rfl,a2,a3,a4⟩,start _ (tj ?_)⟩
  have ev:(i:Int)+((1+n:Nat):Int)*(M:Int)-(j:Int)=(n0:Int):=by
   rw[<-Dq];lia
  rw[ev] at eL
  unfold yb vt
  rw[fr]
  walk_at "evs"
  exact eL
theorem OP{its:List Item}(hD:fx P=false)(p1:3<=P)(p2:P<=9973)(m1:1<=m)(m3:m<=3)(hd:Item.kQ its<=3)(ho:Item.eB P m its)(hs:s.length=m)(so:bJ P s)(hg:g.length=m)(go:bJ P g) :
 ∃(i r:Nat) (L:List Int),gU P m (Item.tabs P m its) s i r L/\yE [.int P,aU (Item.tabs P m its),aq s] = .ok (.tup [.int (i:Int),.int (r:Int),.lst (L.map D.int)])/\(r<=10000->∃d,Told P m (Item.tabs P m its) s g i r d/\vV [.int P,.int m,.tup (its.map Item.d),aq s,aq g] = .ok d):=by
 have hp:1<P:=by lia
 have ht:=Item.tabs_ok hp its ho
 have et:=tJ (P:=P) (m:=m) p1 p2 m3 12 its (by lia) ho
 generalize Item.tabs P m its=t at *
 obtain⟨i,r,L,H,eR⟩:=vX hD p1 p2 m1 m3 ht hs so
 refine⟨i,r,L,H,eR,λr2=>?_⟩
 have im:=H.tail
 have r1:=H.pos
 have ew:=tO (P:=P) (m:=m) (t:=t) (s:=s) (n:=i+1) p1 p2 m3 ht hs so (by lia)
 have er:=tI (n:=r) p1 p2 m3 ht (by lia)
 have eg:=pE (P:=P) (ts:=bw P m t r) (ss:=g) (by lia) (by lia) (by rw[hg];exact iH hp ht r) (by lia)
 have Yo:bT P (bw P m t r) g=au P m t g r:=rfl
 rw[Yo] at eg
 have nI:=By its
 have nt:=mR t
 have nw:=lT (cj P m t s (i+1))
 have ns:=z0n s
 have ng:=z0n g
 have e1:(i:Int)+1=((i+1:Nat):Int):=by lia
 have b1:decide ((r:Int)>10000)=false:=decide_eq_false (by lia)
 have start:∀d,(aE (cy (gT (ao mP (gV 4) (gV 9))) (br (cq (ae (gC (.str "after")) (ae (z9j (gV 9) (gV 4)) az)))) cQ)
 (aE (cy (gT (ao iG (aH ox (ae (gV 0) (ae (aH vJ (ae (gV 0) (ae (gV 5) (ae (gV 8) az)))) (ae (gV 4) az)))) (gV 4))) (br (cq (ae (gC (.str "off")) (ae (gV 7) (ae (gV 8) az))))) cQ)
 (br (z8m yD (ae (dt 0) (ae (dt 5) (ae (dt 7) (ae (dt 8) (ae (aG (ao aL (gV 9) (gV 7))) (ae (dt 4) az)))))))))) [.ro (.int P),.ro (.int m),.ro (.tup (its.map Item.d)),.ro (aq s),.ro (aq g),.ro (aU t),.ro (.tup [.int (i:Int),.int (r:Int),.lst (L.map D.int)]),.ro (.int i),.ro (.int r),.own ((cj P m t s (i+1)).map aq)] = .ok (.rt d)->vV [.int P,.int m,.tup (its.map Item.d),aq s,aq g] = .ok d:=λd h=>by
  refine c8 rfl ?_
  delta N5
  refine cE (d:=aU t) (by walk_at "evs";simp only[et];walk_at "evs") ?_
  refine cE (d:=.tup [.int (i:Int),.int (r:Int),.lst (L.map D.int)]) (by walk_at "evs";simp only[eR]) ?_
  refine cE (d:=.int (i:Int)) (by walk_at "evs") ?_
  refine cE (d:=.int (r:Int)) (by walk_at "evs") ?_
  refine mQ (by walk_at "evs";rw[b1]) ?_
  refine fw (ds:=(cj P m t s (i+1)).map aq) (by walk_at "evs";rw[e1];simp only[ew];walk_at "evs") ?_
  exact h
 have ei:=OI (cj P m t s (i+1)) g
 by_cases q:g∈cj P m t s (i+1)
 ·obtain⟨j,e,a,b⟩:=OK q (by rw[Gg];lia)
  obtain⟨jn,e3⟩:=OL a
  refine⟨_,.inl ⟨j,rfl,by lia,e3.symm,λa ha z=>b a ha (by rw[BX (by lia),z])⟩,start _ (tj (oq ?_ (cR ?_)))⟩
  ·rw[decide_eq_true q] at ei
   walk_at "evs"
   simp only[ei]
   walk_at "evs"
  ·walk_at "evs"
   simp only[e]
   walk_at "evs"
 ·have h0:∀a,a<=i->au P m t s a≠g:=λa ha z=>q (Gf.mpr ⟨a,by lia,z⟩)
  rw[decide_eq_false q] at ei
  have OQ:(cy (gT (ao mP (gV 4) (gV 9))) (br (cq (ae (gC (.str "after")) (ae (z9j (gV 9) (gV 4)) az)))) cQ) [.ro (.int P),.ro (.int m),.ro (.tup (its.map Item.d)),.ro (aq s),.ro (aq g),.ro (aU t),.ro (.tup [.int (i:Int),.int (r:Int),.lst (L.map D.int)]),.ro (.int i),.ro (.int r),.own ((cj P m t s (i+1)).map aq)] = .ok (.nx [.ro (.int P),.ro (.int m),.ro (.tup (its.map Item.d)),.ro (aq s),.ro (aq g),.ro (aU t),.ro (.tup [.int (i:Int),.int (r:Int),.lst (L.map D.int)]),.ro (.int i),.ro (.int r),.own ((cj P m t s (i+1)).map aq)]):=tp (by
   walk_at "evs"
   simp only[ei]
   walk_at "evs")
  by_cases q2:au P m t g r=g
  ·obtain⟨d,hT,eO⟩:=yQ H p1 p2 m3 ht hs hg go r2 h0 q2
   refine⟨d,hT,start _ (dU OQ (mQ ?_ (cR ?_)))⟩
   ·rw[q2] at eg
    simp only[aU,aq] at er eg ⊢
    walk_at "evs"
    simp only[er]
    walk_at "evs"
    simp only[eg]
    walk_at "evs"
    try simp
   ·have Yp:bX ((cj P m t s (i+1)).map aq) (i:Int)=some (aq (au P m t s i)):=by
     rw[mK,cm,BX (by lia)]
     rfl
    have nsi:=z0n (au P m t s i)
    walk_at "evs"
    simp only[Yp]
    walk_at "evs"
    simp only[eO]
  ·refine⟨_,.inr (.inl ⟨H.off hp ht hs h0 q2,q2,rfl⟩),start _ (dU OQ (tj (oq ?_ (cR ?_))))⟩
   ·simp only[aU,aq] at er eg ⊢
    walk_at "evs"
    simp only[er]
    walk_at "evs"
    simp only[eg]
    walk_at "evs"
    try simp[q2]
    rw[eU ⟨xU 39 _,xU 39 _⟩]
    rfl
   ·walk_at "evs"
theorem BZ{its:List Item}(hD:fx P=false)(p1:3<=P)(p2:P<=9973)(m1:1<=m)(m3:m<=3)(hP:P^m<=10000)(hd:Item.kQ its<=3)(ho:Item.eB P m its)(hs:s.length=m)(so:bJ P s)(hg:g.length=m)(go:bJ P g) :
 ∃i r L d,gU P m (Item.tabs P m its) s i r L/\r<=10000/\Told P m (Item.tabs P m its) s g i r d/\vV [.int P,.int m,.tup (its.map Item.d),aq s,aq g] = .ok d:=by
 have hp:1<P:=by lia
 obtain⟨i,r,L,H,_,h⟩:=OP hD p1 p2 m1 m3 hd ho hs so hg go
 have r2:r<=10000:=by have:=H.short hp (Item.tabs_ok hp its ho);lia
 obtain⟨d,hT,e⟩:=h r2
 exact⟨i,r,L,d,H,r2,hT,e⟩
end
theorem OR{P:Int}{its:List Item}{s:List Int}(hp:1<P)(ho:Item.eB P 3 its)(hs:dN P s)(k:Nat):au P 3 (Item.tabs P 3 its) s k=Nat.repeat (Item.cb P its) k s :=
 (F4 (f:=Item.cb P its) hp (Item.tabs_ok hp its ho) (λs h1 h2=>Item.F5 hp its ho h1 h2) hs.1 hs.2 k).symm
theorem Gh{α:Type}(f:α->α)(s:α)(a:Nat):∀b,Nat.repeat f (a+b) s=Nat.repeat f b (Nat.repeat f a s)
 | 0=>rfl
 | b+1=>congrArg f (Gh f s a b)
theorem i5.apart{P:Int}{due:Nat}{f:List Int->List Int}(h:i5 P due f){s:List Int}(hs:dN P s){a b:Nat}(mX:a<b)(hb:b<due):Nat.repeat f b s≠Nat.repeat f a s:=λe=>by
 have h2:=(h.2 _ (vW h.1 hs a)).2 (b-a) (by lia) (by lia)
 rw[<-Gh,show a+(b-a)=b by lia] at h2
 exact h2 e
theorem OS{P:Int}{due:Nat}{its:List Item}{s:List Int}{i r:Nat}{L:List Int}(hp:1<P)(ho:Item.eB P 3 its)(hs:dN P s)(h:i5 P due (Item.cb P its))(d1:1<=due)(H:gU P 3 (Item.tabs P 3 its) s i r L)(hP:ig P)(hd:P∣(due:Int))(hq:∀q,ig q->q∣(due:Int)->q=P) :
 i=0/\r=due/\L=[P]:=by
 have st:=OR hp ho hs
 have hr:r∣due:=H.least 0 due (by rw[fE,st,st];exact(h.2 s hs).1)
 have hle:r<=due:=xl (by lia) hr
 have vZ:¬r<due:=λz=>by
  have hc:=H.comes
  rw[st,st,Gh] at hc
  exact(h.2 _ (vW h.1 hs i)).2 r H.pos z hc
 have er:r=due:=by lia
 have ei:i=0:=by
  rcases sF i with z | z
  ·exact z
  ·refine absurd ?_ (H.first 0 z)
   rw[fE,er,st,st]
   exact(h.2 s hs).1
 subst er
 refine⟨ei,rfl,?_⟩
 have all:∀q∈L,q=P:=λq mV=>let ⟨a,_,c⟩:=H.prime q mV;hq q a c
 have hm:=H.all P hP hd
 have eE:=H.up
 match L,hm,eE,all with
 | [q],hm,_,all=>rw[all q bB]
 | q::q'::L,_,eE,all =>
   have h1:=(List.pairwise_cons.mp eE).1 q' bB
   rw[all q bB,all q' (bL _ bB)] at h1
   exact absurd h1 (Int.lt_irrefl _)
theorem OT{P:Int}(h:P=3∨P=5∨P=7∨P=11∨P=13):ig P/\fx P=false:=by
 rcases h with rfl | rfl | rfl | rfl | rfl
 ·refine⟨⟨by decide,λe h1 h2=>?_⟩,by decide +kernel⟩
  have:e=2:=by lia
  subst this;decide
 ·refine⟨⟨by decide,λe h1 h2=>?_⟩,by decide +kernel⟩
  have:e=2∨e=3∨e=4:=by lia
  rcases this with rfl | rfl | rfl<;>decide
 ·refine⟨⟨by decide,λe h1 h2=>?_⟩,by decide +kernel⟩
  have:e=2∨e=3∨e=4∨e=5∨e=6:=by lia
  rcases this with rfl | rfl | rfl | rfl | rfl<;>decide
 ·refine⟨⟨by decide,λe h1 h2=>?_⟩,by decide +kernel⟩
  have:e=2∨e=3∨e=4∨e=5∨e=6∨e=7∨e=8∨e=9∨e=10:=by lia
  rcases this with rfl | rfl | rfl | rfl | rfl | rfl | rfl | rfl | rfl<;>decide
 ·refine⟨⟨by decide,λe h1 h2=>?_⟩,by decide +kernel⟩
  have:e=2∨e=3∨e=4∨e=5∨e=6∨e=7∨e=8∨e=9∨e=10∨e=11∨e=12:=by lia
  rcases this with rfl | rfl | rfl | rfl | rfl | rfl | rfl | rfl | rfl | rfl | rfl<;>decide
theorem Yq{P q:Int}(hP:ig P)(hq:ig q)(d:q∣P):q=P:=by
 have h1:q<=P:=Aq (by have:=hP.1;lia) d
 rcases Int.lt_or_eq_of_le h1 with z | z
 ·exact absurd (uR d) (hP.2 q hq.1 z)
 ·exact z
theorem OU{P:Int}{due:Nat}(h:P=3∨P=5∨P=7∨P=11∨P=13)(e:(due:Int)=(if P=3 then 9 else P))(q:Int)(hq:ig q)(d:q∣(due:Int)):q=P:=by
 rw[e] at d
 by_cases z:P=3
 ·subst z
  rw[if_pos rfl] at d
  have h1:q<=9:=Aq (by decide) d
  have h2:=hq.1
  have:q=2∨q=3∨q=4∨q=5∨q=6∨q=7∨q=8∨q=9:=by lia
  rcases this with rfl | rfl | rfl | rfl | rfl | rfl | rfl | rfl
  ·exact absurd d (by decide)
  ·rfl
  ·exact absurd d (by decide)
  ·exact absurd d (by decide)
  ·exact absurd d (by decide)
  ·exact absurd d (by decide)
  ·exact absurd d (by decide)
  ·exact absurd (show(9:Int)%3=0 by decide) (hq.2 3 (by decide) (by decide))
 ·rw[if_neg z] at d
  exact Yq (OT h).1 hq d
theorem Yr{P:Int}{due k:Nat}{its:List Item}{s:List Int}{d:D}(hp:1<P)(ho:Item.eB P 3 its)(hs:dN P s)(h:i5 P due (Item.cb P its))(hk:k<due)(T:Told P 3 (Item.tabs P 3 its) s (Nat.repeat (Item.cb P its) k s) 0 due d):d = .tup [.str (cU "after"),.int k]:=by
 have st:=OR hp ho hs
 obtain⟨n,rfl,_,n2,n3⟩:=T.resolve_right λhT=>by
  have never:∀a,au P 3 (Item.tabs P 3 its) s a≠Nat.repeat (Item.cb P its) k s:=by
   rcases hT with ⟨h,_⟩ | ⟨h,_⟩<;>exact h
  exact absurd (st k) (never k)
 have e:n=k:=by
  rcases uN n k with z | z | z
  ·rw[st] at n2
   exact absurd n2.symm (h.apart hs z hk)
  ·exact z
  ·exact absurd (st k) (n3 k z)
 rw[e]
theorem Ys:∀(ks:List (List Int)),ks.Nodup->∀k,(k∈fG ks↔k∈ks)/\(fG ks).length=ks.length:=by
 intro ks
 induction h:ks.length generalizing ks with
 | zero=>intro _ k;rw[List.length_eq_zero_iff.mp h];exact⟨Iff.rfl,rfl⟩
 | succ n ih =>
   intro hn k
   have hd:ks≠[]:=λz=>by rw[z] at h;cases h
   obtain⟨xs,x,rfl⟩:∃xs x,ks=xs++[x]:=⟨_,_,(a6g hd).symm⟩
   have hl:xs.length=n:=by simpa using h
   obtain⟨n1,n2,n3⟩:=List.nodup_append.mp hn
   have Gi:=ih xs hl n1
   have nx:x ∉ fG xs:=λz=>n3 x ((Gi x).1.mp z) x bB rfl
   rw[Bp,if_neg nx]
   refine⟨?_,by rw[de,(Gi x).2]⟩
   rw[fF,(Gi k).1,JV,nN]
   exact Or.comm
theorem Yt{P:Int}{due:Nat}{f:List Int->List Int}(h:i5 P due f){s:List Int}(hs:dN P s)(d1:1<=due):(fG ((bK (due+1)).map λk=>Nat.repeat f k s)).length=due:=by
 have vN:((bK due).map λk=>Nat.repeat f k s).Nodup:=by
  rw[List.nodup_iff_pairwise_ne,Sr]
  refine(a6h).imp_of_mem λ{a b} ha hb mX e=>?_
  exact h.apart hs mX (List.mem_range.mp hb) e.symm
 have hm:=Ys _ vN
 rw[uK,lx,cJ,wY,Bp,if_pos]
 ·rw[(hm s).2,bu,Dh]
 ·rw[(hm _).1,(h.2 s hs).1]
  exact List.mem_map.mpr ⟨0,List.mem_range.mpr d1,rfl⟩
theorem Gj{n k:Nat}(h:k<n):hG n (k:Int)=some k:=by
 unfold hG
 rw[if_pos (by lia),if_pos (by lia),mq]
theorem Gk{x k:Nat}{n:Int}(hx:x<4)(hk:k<4):yF [.int x,.int k,.int n] = .ok (jA x k n).d:=by
 refine c8 rfl ?_
 delta N7
 refine fw (ds:=([0,0,0,0]:List Int).map D.int) (by walk_at "evs") ?_
 refine dU (yd (j:=(x:Int)) (n:=x) (d:=.int 1) (ds:=([0,0,0,0]:List Int).map D.int) rfl (by walk_at "evs") (by walk_at "evs") (Gj (by simpa using hx))) ?_
 refine dU (yd (j:=(k:Int)) (n:=k) (d:=.int n) (ds:=(([0,0,0,0]:List Int).map D.int).set x (.int 1)) rfl (by walk_at "evs") (by walk_at "evs") (Gj (by simpa using hk))) ?_
 refine cR ?_
 have e:((([0,0,0,0]:List Int).map D.int).set x (.int 1)).set k (.int n)=((([0,0,0,0]:List Int).set x 1).set k n).map D.int:=by rw[De,De]
 have nl:=lD ((([0,0,0,0]:List Int).set x 1).set k n)
 show cq _ [_,_,_,.own (((([0,0,0,0]:List Int).map D.int).set x (.int 1)).set k (.int n))]=_
 rw[e]
 walk_at "evs"
 rfl
theorem Yu{P:Int}(h:P=3∨P=5∨P=7∨P=11∨P=13){v:Int}(v0:0<v)(v1:v<P):∃n:Nat,(1+(n:Int))<P/\(1+(n:Int))*v%P=1:=by
 obtain⟨m,rfl⟩:=qF (Sk v0)
 have key:∀p:Nat,(∀m,m<p->0<m->∃n,n<p-1/\(1+n)*m%p=1)->∀m:Nat,0<(m:Int)->(m:Int)<p->1<p->∃n:Nat,(1+(n:Int))<p/\(1+(n:Int))*m%p=1:=λp hp m a b c=>by
  obtain⟨n,n1,n2⟩:=hp m (by lia) (by lia)
  refine⟨n,by lia,?_⟩
  have:(((1+n)*m%p:Nat):Int)=1:=by rw[n2];rfl
  rw[a5q,Dq,Sj] at this
  exact this
 rcases h with rfl | rfl | rfl | rfl | rfl
 ·exact key 3 (by decide) m v0 v1 (by decide)
 ·exact key 5 (by decide) m v0 v1 (by decide)
 ·exact key 7 (by decide) m v0 v1 (by decide)
 ·exact key 11 (by decide +kernel) m v0 v1 (by decide)
 ·exact key 13 (by decide +kernel) m v0 v1 (by decide)
theorem Yv{gs:G->R (List D)}{Γ:G}{d:D}{ds:List D}(h:gs Γ = .ok (d::ds))(hn:d.cH=true):aG (ao aL (gL gs) (gC (.int 0))) Γ = .ok d:=by
 have e:bX (d::ds) 0=some d:=by rw[fN (by lia)];rfl
 unfold aG ao gL gC
 simp only[h,R.eQ,aL,e]
 rw[eU hn]
def Gm(P:Int)(x:Nat)(f:List Int):Prop:=x<3/\f.length=4/\bJ P f/\0<(f[x]?).getD 0
theorem Yw{P:Int}(h5:P=3∨P=5∨P=7∨P=11∨P=13){x:Nat}{f:List Int}(hg:Gm P x f):∃n:Int,0<n/\n<P/\n*(f[x]?).getD 0%P=1/\FV [.int P,(Item.set x f).d] = .ok (Item.set x (iJ P n x f)).d:=by
 obtain⟨hx,hf,ho,OV⟩:=hg
 have i6:x<f.length:=by lia
 have OW:(f[x]?).getD 0=f[x]:=by rw[cf i6];rfl
 have OX:(f[x]?).getD 0<P:=by rw[OW];exact(ho _ (mw i6)).2
 have hP:3<=P/\P<=13:=by lia
 have rq:bX (f.map D.int) (x:Int)=some (.int ((f[x]?).getD 0)):=by
  rw[fN (by lia),cm,mq,OW,cf i6];rfl
 obtain⟨m,m1,m2⟩:=Yu h5 OV OX
 generalize hv:(f[x]?).getD 0=v at *
 have v8:m∈(bK (P-1).toNat).filter λ(n:Nat)=>(1+(n:Int))*v%P==1:=List.mem_filter.mpr ⟨List.mem_range.mpr (by lia),by simpa using m2⟩
 have es:dg (Bj (gC (.int 1)) (gV 0)) (pA (gT (ao eV (ao df (ao cX (gV 0) (ao aL (ao aL (gV 2) (gC (.int 2))) (gV 3))) (gV 1)) (gC (.int 1)))) (aG (gV 0))) [.ro (.int P),.ro (Item.set x f).d,.ro (.int (x:Int)),.no,.no] = .ok (((bK (P-1).toNat).filter λ(n:Nat)=>(1+(n:Int))*v%P==1).map λ(n:Nat)=>D.int (1+(n:Int))):=by
  walk_at "evs"
  unfold fq
  rw[Ni (q:=λ(n:Nat)=>(1+(n:Int))*v%P==1) (h:=λ(n:Nat)=>D.int (1+(n:Int)))]
  intro k hk
  have hk:=List.mem_range.mp hk
  simp only[jv,rq]
  walk_at "evs"
  split<;>rfl
 cases tP:(bK (P-1).toNat).filter λ(n:Nat)=>(1+(n:Int))*v%P==1 with
 | nil=>rw[tP] at v8;exact absurd v8 gN
 | cons k0 ks =>
   rw[tP] at es
   have yR:k0∈(bK (P-1).toNat).filter λ(n:Nat)=>(1+(n:Int))*v%P==1:=by rw[tP];exact bB
   obtain⟨g1,g2⟩:=List.mem_filter.mp yR
   have g1:=List.mem_range.mp g1
   have g2:(1+(k0:Int))*v%P=1:=by simpa using g2
   refine⟨1+(k0:Int),by lia,by lia,g2,c8 rfl ?_⟩
   delta N8
   refine cE (d:=.int (x:Int)) (by walk_at "evs") ?_
   refine cE (d:=.int (1+(k0:Int))) (Yv es rfl) ?_
   have bl:∀g∈f,0<=g/\g<P:=ho
   refine fw (ds:=(f.map λg=>(P-g)*(1+(k0:Int))%P).map D.int) ?_ ?_
   ·have nf:=lD f
    have fl:(f.map D.int).length<=100000:=by rw[bu];lia
    walk_at "evs"
    simp only[jv]
    walk_at "evs"
    rw[ka,mL (k:=D.int) (h:=λg=>D.int ((P-g)*(1+(k0:Int))%P))]
    ·rfl
    ·intro g hg
     have:=bl g hg
     have ff:=LI (i:=P-g) (j:=1+(k0:Int)) (qX (by lia))
     walk_at "evs"
   ·refine dU (yd (j:=(x:Int)) (n:=x) (d:=.int (1+(k0:Int))) (ds:=(f.map λg=>(P-g)*(1+(k0:Int))%P).map D.int) rfl (by walk_at "evs") (by walk_at "evs") (Gj (by simpa using i6))) ?_
    refine cR ?_
    have e:((f.map λg=>(P-g)*(1+(k0:Int))%P).map D.int).set x (.int (1+(k0:Int)))=(iJ P (1+(k0:Int)) x f).map D.int:=by unfold iJ;rw[<-De]
    have nl:=lD (iJ P (1+(k0:Int)) x f)
    show cq _ [_,_,_,_,.own (((f.map λg=>(P-g)*(1+(k0:Int))%P).map D.int).set x (.int (1+(k0:Int))))]=_
    rw[e]
    walk_at "evs"
    rfl
theorem Yx{c m P:Int}(p1:3<=P)(p2:P<=13):∃(x:Nat) (f:List Int),FX [.int c,.int m,.int P] = .ok (Item.set x f).d/\Gm P x f:=by
 have hl:=ET P 4 m
 have ho:=EU (P:=P) (by lia) 4 m
 have Xd:=kn (w:=c) (P:=3) (by lia)
 have hx1:=ko (w:=c) (P:=3) (by lia)
 generalize hf:kq P 4 m=f at hl ho
 obtain⟨x,ex⟩:∃x:Nat,c%3=(x:Int):=⟨(c%3).toNat,by lia⟩
 have hx:x<f.length:=by lia
 have B0:x<3:=by lia
 have start:∀u r,u [.ro (.int c),.ro (.int m),.ro (.int P),.ro (.int x),.ro (aq f)]=r->aE (aX 3 (aG (ao df (gV 0) (gC (.int 3))))) (aE (aX 4 (aG (aH vA (ae (gV 1) (ae (gV 2) (ae (gC (.int 4)) az)))))) u) [.ro (.int c),.ro (.int m),.ro (.int P),.no,.no]=r:=λu r h=>by
  refine cE (d:=.int x) (by walk_at "evs";rw[ex]) (cE (d:=aq f) (by walk_at "evs";rw[<-hf];rfl) h)
 have rq:bX (f.map D.int) (x:Int)=some (.int (f[x]'hx)):=by
  rw[fN (by lia),cm,mq,cf hx];rfl
 by_cases hz:(f[x]'hx==0)=true
 ·have OV:=kn (w:=c/3) (P:=P-1) (by lia)
  have OX:=ko (w:=c/3) (P:=P-1) (by lia)
  obtain⟨g,eg,gl,go,gx⟩:=Wo (v:=1+c/3%(P-1)) hx ho (by lia) (by lia)
  refine⟨x,g,c8 rfl ?_,B0,by lia,go,by rw[gx];show 0<1+c/3%(P-1);lia⟩
  unfold FW
  refine start _ _ (L5 (Γ':=[.ro (.int c),.ro (.int m),.ro (.int P),.ro (.int x),.ro (aq g)]) ?_ ?_ ?_)
  ·walk_at "evs"
   simp only[aq,aL,rq]
   walk_at "evs"
   simp only[hz]
  ·refine(gQ (d:=aq g) ?_).trans rfl
   have Gn:(x:Int)+1=((x+1:Nat):Int):=rfl
   have hlen:f.length<=4:=by lia
   walk_at "evs"
   simp only[aq,xV,R.eQ]
   rw[Gn,Eu,Et,<-Dp,<-Dn]
   have lt:(f.take x).length<=4:=by rw[mj];lia
   have ld:(f.drop (x+1)).length<=4:=by rw[wX];lia
   have e2:(f.take x).map D.int++(D.int (1+c/3%(P-1))::(f.drop (x+1)).map D.int)=g.map D.int:=by rw[<-eg];simp
   have n2:=xQ g
   walk_at "evs"
   rw[e2]
   walk_at "evs"
  ·exact cR (by walk_at "evs")
 ·have hp:=(ho _ (mw hx)).1
  have Yy:(f[x]'hx==0)=false:=by simpa using hz
  have hnz:f[x]≠0:=by simpa using hz
  have OY:0<(f[x]?).getD 0:=by rw[cf hx,xj];lia
  refine⟨x,f,c8 rfl ?_,B0,by lia,ho,OY⟩
  unfold FW
  refine start _ _ (mQ ?_ ?_)
  ·walk_at "evs"
   simp only[aq,aL,rq]
   walk_at "evs"
   simp only[Yy]
  ·exact cR (by walk_at "evs")
theorem Yz{gb:G->R Fl}{i j k:Nat}{a b c:D}{ds:List D}{Γ Γ':G}(h:gb (((Γ.set i (.ro a)).set j (.ro b)).set k (.ro c)) = .ok (.nx Γ')):fX gb i j k (.tup [a,b,c]::ds) Γ=fX gb i j k ds Γ':=by
 conv=>lhs;unfold fX
 rw[h]
def pM(P:Int)(its:List Item):Prop:=∀a∈its,∃(x:Nat) (f:List Int),a = .set x f/\x<3/\f.length=4/\bJ P f
theorem pM.eB{P:Int}{its:List Item}(h:pM P its):Item.eB P 3 its:=Item.yu.mpr λa ha=>by
 obtain⟨x,f,rfl,h1,h2,h3⟩:=h a ha
 simp only[Item.ok]
 exact⟨by lia,by lia,by lia,h3⟩
theorem OZ{P:Int}(p1:3<=P)(p2:P<=13){q:En}:∀(its:List Item) (s:List Int) (x3 x4 x5 x6:En),pM P its->dN P s->∃y3 y4 y5 y6,fX
 (aE (aX 6 (aG (ao b7 (ao aL (gV 5) (gC (.int 3))) (aH jT (ae (gL (dg (fW (gC (.int 3))) (eh (aG (ao cX (ao aL (gV 6) (gV 0)) (ao aL (gV 3) (gV 0))))))) az)))))
 (aX 2 (aG (ao b7 (ao b7 (lI (gV 2) lG (lH (gV 4))) (cq (ae (ao df (gV 6) (gV 0)) az))) (lI (gV 2) (lH (ao b7 (gV 4) (gC (.int 1)))) lG))))) 3 4 5 (its.map Item.d) [.ro (.int P),q,.ro (aq s),x3,x4,x5,x6] = .ok (.nx [.ro (.int P),q,.ro (aq (Item.cb P its s)),y3,y4,y5,y6])
 | [],s,x3,x4,x5,x6,_,_=>⟨x3,x4,x5,x6,by rw[Item.cb];rfl⟩
 | a::its,s,x3,x4,x5,x6,h,hs=>by
   obtain⟨x,f,rfl,h1,h2,h3⟩:=h a bB
   have tQ:=F9 (P:=P) (by lia) (x:=x) (f:=f) hs
   obtain⟨y3,y4,y5,y6,e⟩:=OZ p1 p2 (q:=q) its ((Item.set x f).go P s) (.ro (.str "set")) (.ro (.int x)) (.ro (aq f)) (.ro (.int (cB f s))) (λb hb=>h b (bL _ hb)) tQ
   refine⟨y3,y4,y5,y6,?_⟩
   rw[Item.cb,<-e]
   obtain⟨a,b,c,rfl⟩:=rJ hs.1
   obtain⟨f0,f1,f2,f3,rfl⟩:=Ob h2
   obtain⟨⟨a0,a1⟩,⟨b0,b1⟩,⟨c0,c1⟩⟩:=rK.mp hs
   show fX _ 3 4 5 (.tup [.str "set",.int x,aq [f0,f1,f2,f3]]::its.map Item.d) _=_
   have on4:(0<=f0/\f0<P)/\(0<=f1/\f1<P)/\(0<=f2/\f2<P)/\(0<=f3/\f3<P):=by simpa [bJ] using h3
   have m0:=A6 (i:=f0) (j:=a) (qX (by lia))
   have m1:=A6 (i:=f1) (j:=b) (qX (by lia))
   have m2:=A6 (i:=f2) (j:=c) (qX (by lia))
   refine Yz (cE (d:=.int (cB [f0,f1,f2,f3] [a,b,c])) ?_ ((gQ (d:=aq ((Item.set x [f0,f1,f2,f3]).go P [a,b,c])) ?_).trans ?_))
   ·have ec:dg (fW (gC (.int 3))) (eh (aG (ao cX (ao aL (gV 6) (gV 0)) (ao aL (gV 3) (gV 0))))) [.ro (.int P),q,.ro (aq [a,b,c]),.ro (.str "set"),.ro (.int x),.ro (aq [f0,f1,f2,f3]),x6] = .ok (([f0*a,f1*b,f2*c]:List Int).map D.int):=by
     have r3:fq 0 3=[.int 0,.int 1,.int 2]:=rfl
     have af:∀(u0 u1 u2:D) (r:List D),bX (u0::u1::u2::r) 0=some u0/\bX (u0::u1::u2::r) 1=some u1/\bX (u0::u1::u2::r) 2=some u2:=λu0 u1 u2 r=>⟨by rw[fN (by lia)];rfl,by rw[fN (by lia)];rfl,by rw[fN (by lia)];rfl⟩
     walk_at "evs"
     rw[r3]
     simp only[jv,vm,Bk,cJ,wY,(af _ _ _ _).1,(af _ _ _ _).2.1,(af _ _ _ _).2.2]
     walk_at "evs"
    have e2:aH jT (ae (gL (dg (fW (gC (.int 3))) (eh (aG (ao cX (ao aL (gV 6) (gV 0)) (ao aL (gV 3) (gV 0))))))) az) [.ro (.int P),q,.ro (aq [a,b,c]),.ro (.str "set"),.ro (.int x),.ro (aq [f0,f1,f2,f3]),x6] = .ok (.int (f0*a+(f1*b+(f2*c+0)))):=by
     unfold aH ae gL az
     simp only[ec,R.eQ,LR]
     rfl
    have e3:ao aL (gV 5) (gC (.int 3)) [.ro (.int P),q,.ro (aq [a,b,c]),.ro (.str "set"),.ro (.int x),.ro (aq [f0,f1,f2,f3]),x6] = .ok (.int f3):=rfl
    have e4:ao b7 (ao aL (gV 5) (gC (.int 3))) (aH jT (ae (gL (dg (fW (gC (.int 3))) (eh (aG (ao cX (ao aL (gV 6) (gV 0)) (ao aL (gV 3) (gV 0))))))) az)) [.ro (.int P),q,.ro (aq [a,b,c]),.ro (.str "set"),.ro (.int x),.ro (aq [f0,f1,f2,f3]),x6] = .ok (.int (cB [f0,f1,f2,f3] [a,b,c])):=by
     rw[show ao b7 (ao aL (gV 5) (gC (.int 3))) (aH jT (ae (gL (dg (fW (gC (.int 3))) (eh (aG (ao cX (ao aL (gV 6) (gV 0)) (ao aL (gV 3) (gV 0))))))) az)) [.ro (.int P),q,.ro (aq [a,b,c]),.ro (.str "set"),.ro (.int x),.ro (aq [f0,f1,f2,f3]),x6]=(ao aL (gV 5) (gC (.int 3)) [.ro (.int P),q,.ro (aq [a,b,c]),.ro (.str "set"),.ro (.int x),.ro (aq [f0,f1,f2,f3]),x6]>>=λu=>aH jT (ae (gL (dg (fW (gC (.int 3))) (eh (aG (ao cX (ao aL (gV 6) (gV 0)) (ao aL (gV 3) (gV 0))))))) az) [.ro (.int P),q,.ro (aq [a,b,c]),.ro (.str "set"),.ro (.int x),.ro (aq [f0,f1,f2,f3]),x6]>>=λv=>b7 u v) from rfl,e3,R.eQ,e2,R.eQ,ic]
     show R.ok (D.int (f3+(f0*a+(f1*b+(f2*c+0)))))=_
     rw[show f3+(f0*a+(f1*b+(f2*c+0)))=f0*a+f1*b+f2*c+f3 by lia]
    show(ao b7 (ao aL (gV 5) (gC (.int 3))) (aH jT (ae (gL (dg (fW (gC (.int 3))) (eh (aG (ao cX (ao aL (gV 6) (gV 0)) (ao aL (gV 3) (gV 0))))))) az)) [.ro (.int P),q,.ro (aq [a,b,c]),.ro (.str "set"),.ro (.int x),.ro (aq [f0,f1,f2,f3]),x6]>>=λd=>R.guard (d.cH=true) (.ok d))=_
    rw[e4,R.eQ,eU (xP _)]
   ·have Gn:(x:Int)+1=((x+1:Nat):Int):=rfl
    rw[Item.go,mq]
    generalize cB [f0,f1,f2,f3] [a,b,c]=W
    have e2:(([a,b,c]:List Int).take x).map D.int++(D.int (W%P)::(([a,b,c]:List Int).drop (x+1)).map D.int)=(([a,b,c]:List Int).set x (W%P)).map D.int:=by
     rw[List.set_eq_take_append_cons_drop,if_pos (show x<([a,b,c]:List Int).length from h1)];simp
    have lt:(([a,b,c]:List Int).take x).length<=4:=by rw[mj];show min x 3<=4;lia
    have ld:(([a,b,c]:List Int).drop (x+1)).length<=4:=by rw[wX];show 3-(x+1)<=4;lia
    have n2:=xQ (([a,b,c]:List Int).set x (W%P))
    generalize ([a,b,c]:List Int)=s at *
    show aG (ao b7 (ao b7 (lI (gV 2) lG (lH (gV 4))) (cq (ae (ao df (gV 6) (gV 0)) az))) (lI (gV 2) (lH (ao b7 (gV 4) (gC (.int 1)))) lG)) [.ro (.int P),q,.ro (aq s),.ro (.str "set"),.ro (.int x),.ro (aq [f0,f1,f2,f3]),.ro (.int W)]=_
    walk_at "evs"
    simp only[aq,xV,R.eQ]
    rw[Gn,Eu,Et,<-Dp,<-Dn]
    walk_at "evs"
    rw[e2]
    walk_at "evs"
   ·rfl
theorem YA{P:Int}(p1:3<=P)(p2:P<=13){its:List Item}{s:List Int}(h:pM P its)(hs:dN P s):FU [.int P,.lst (its.map Item.d),aq s] = .ok (aq (Item.cb P its s)):=by
 refine c8 rfl ?_
 delta N6
 obtain⟨y3,y4,y5,y6,e⟩:=OZ p1 p2 (q:=.ro (.lst (its.map Item.d))) its s .no .no .no .no h hs
 refine dU (Γ':=[.ro (.int P),.ro (.lst (its.map Item.d)),.ro (aq (Item.cb P its s)),y3,y4,y5,y6]) ?_ (cR (by walk_at "evs"))
 show lift (lJ (dt 1) [.ro (.int P),.ro (.lst (its.map Item.d)),.ro (aq s),.no,.no,.no,.no]) _ _=_
 rw[show lJ (dt 1) [.ro (.int P),.ro (.lst (its.map Item.d)),.ro (aq s),.no,.no,.no,.no] = .ok (its.map Item.d) from rfl]
 exact e
theorem lX{φ:D->D->R D}{g1 g2:G->R D}{Γ:G}{d1 d2 d:D}(h1:g1 Γ = .ok d1)(h2:g2 Γ = .ok d2)(h:φ d1 d2 = .ok d):ao φ g1 g2 Γ = .ok d:=by
 unfold ao;rw[h1,R.eQ,h2,R.eQ,h]
theorem mY{g:G->R D}{gs:G->R (List D)}{Γ:G}{d:D}{ds:List D}(h1:g Γ = .ok d)(h2:gs Γ = .ok ds):ae g gs Γ = .ok (d::ds):=by
 unfold ae;rw[h1,R.eQ,h2,R.eQ]
theorem yS{φ:List D->R D}{g1 g2 g3:G->R D}{Γ:G}{d1 d2 d3 d:D}(h1:g1 Γ = .ok d1)(h2:g2 Γ = .ok d2)(h3:g3 Γ = .ok d3)(h:φ [d1,d2,d3] = .ok d):aH φ (ae g1 (ae g2 (ae g3 az))) Γ = .ok d:=by
 unfold aH
 rw[mY h1 (mY h2 (mY h3 rfl)),R.eQ,h]
theorem YB(c:Int):∃b:Nat×Nat×Nat,b∈[(0,1,2),(0,2,1),(1,0,2),(1,2,0),(2,0,1),(2,1,0)]/\bX ([[0,1,2],[0,2,1],[1,0,2],[1,2,0],[2,0,1],[2,1,0]].map aq) (c%6)=some (aq [(b.1:Int),(b.2.1:Int),(b.2.2:Int)])/\b.1<3/\b.2.1<3/\b.2.2<3:=by
 have:c%6=0∨c%6=1∨c%6=2∨c%6=3∨c%6=4∨c%6=5:=by lia
 rcases this with h | h | h | h | h | h<;>rw[h]
 ·exact⟨(0,1,2),by decide,by rw[fN (by lia)];rfl,by decide,by decide,by decide⟩
 ·exact⟨(0,2,1),by decide,by rw[fN (by lia)];rfl,by decide,by decide,by decide⟩
 ·exact⟨(1,0,2),by decide,by rw[fN (by lia)];rfl,by decide,by decide,by decide⟩
 ·exact⟨(1,2,0),by decide,by rw[fN (by lia)];rfl,by decide,by decide,by decide⟩
 ·exact⟨(2,0,1),by decide,by rw[fN (by lia)];rfl,by decide,by decide,by decide⟩
 ·exact⟨(2,1,0),by decide,by rw[fN (by lia)];rfl,by decide,by decide,by decide⟩
theorem Gp{P n:Int}(p0:1<P){x k:Nat}(hx:x<3)(h0:0<=n)(h1:n<P):∃(y:Nat) (f:List Int),jA x k n = .set y f/\y<3/\f.length=4/\bJ P f:=by
 refine⟨x,_,rfl,hx,by simp,λv hv=>?_⟩
 rcases Dj hv with z | z
 ·rcases Dj z with z | z
  ·simp at z;lia
  ·lia
 ·lia
theorem YC{P:Int}{due:Nat}(hp:0<P){x:Nat}{f:List Int}{n:Int}{its:List Item}(hg:Gm P x f)(hn:n*(f[x]?).getD 0%P=1)(h:i5 P due (Item.cb P its)):i5 P due (Item.cb P (Item.set x f::(its++[Item.set x (iJ P n x f)]))):=by
 have e:Item.cb P (Item.set x f::(its++[Item.set x (iJ P n x f)]))=λs=>(Item.set x (iJ P n x f)).go P (Item.cb P its ((Item.set x f).go P s)):=by
  funext s
  rw[Item.cb,Item.N_,Item.cb,Item.cb]
 rw[e]
 exact h.XQ (λs hs=>F9 hp hs) (λs hs=>F9 hp hs) (λs hs=>(Oc hg.1 hg.2.1 hn hs).1) (λs hs=>(Oc hg.1 hg.2.1 hn hs).2)
theorem YD{P n:Int}(hp:0<P)(h0:0<n)(h1:n<P){x:Nat}{f:List Int}:bJ P (iJ P n x f):=λv hv=>by
 unfold iJ at hv
 rcases Dj hv with z | z
 ·obtain⟨g,_,rfl⟩:=List.mem_map.mp z
  exact⟨kn hp,ko hp⟩
 ·lia
theorem YE{ns:List Int}{P:Int}{due:Nat}(h5:P=3∨P=5∨P=7∨P=11∨P=13)(Dz:rL P due)(hl:ns.length<=63):∃its:List Item,FZ [.lst (ns.map D.int),.int P] = .ok (its.map Item.d)/\pM P its/\i5 P due (Item.cb P its)/\its.length<=13:=by
 have p1:3<=P:=by lia
 have p2:P<=13:=by lia
 obtain⟨b,hb,eb,b0,b1,b2⟩:=YB (di ns 1)
 obtain⟨x0,x1,x2⟩:=b
 dsimp only at eb b0 b1 b2
 have nm:∀y:Int,0<y->0<1+di ns 2/y%(P-1)/\1+di ns 2/y%(P-1)<P:=λy hy=>by
  have:=kn (w:=di ns 2/y) (P:=P-1) (by lia)
  have:=ko (w:=di ns 2/y) (P:=P-1) (by lia)
  lia
 have n0:=nm 1 (by decide)
 have n1:=nm 12 (by decide)
 have n2:=nm 144 (by decide)
 suffices h:∃its:List Item,FY [.ro (.lst (ns.map D.int)),.ro (.int P),.no,.no,.no,.no,.no,.no] = .ok (.dJ (its.map Item.d))/\pM P its/\i5 P due (Item.cb P its)/\its.length<=13 by
  obtain⟨its,e,h'⟩:=h
  exact⟨its,ot rfl e,h'⟩
 unfold FY
 have no:D.bI ([[0,1,2],[0,2,1],[1,0,2],[1,2,0],[2,0,1],[2,1,0]].map aq)=true:=lT _
 rw[fw (ds:=[[0,1,2],[0,2,1],[1,0,2],[1,2,0],[2,0,1],[2,1,0]].map aq) (by walk_at "evs";rfl) rfl]
 rw[cE (d:=aq [(x0:Int),(x1:Int),(x2:Int)]) (by
  have nb:=z0n [(x0:Int),(x1:Int),(x2:Int)]
  simp only[cJ,wY] at eb
  walk_at "evs"
  rw[eb]
  walk_at "evs") rfl]
 generalize B1:1+di ns 2/1%(P-1)=m0 at n0
 generalize YF:1+di ns 2/12%(P-1)=m1 at n1
 generalize sV:1+di ns 2/144%(P-1)=m2 at n2
 rw[fw (ds:=[m0,m1,m2].map D.int) (by
  walk_at "evs"
  simp only[vm,Bk]
  walk_at "evs"
  rw[B1,YF,sV]) rfl]
 have YG:∀u v w:Int,aL (aq [u,v,w]) (.int 0) = .ok (.int u):=λu v w=>rfl
 have O1:∀u v w:Int,aL (aq [u,v,w]) (.int 1) = .ok (.int v):=λu v w=>rfl
 have O2:∀u v w:Int,aL (aq [u,v,w]) (.int 2) = .ok (.int w):=λu v w=>rfl
 have YH:∀u v w:Int,aL (.lst ([u,v,w].map D.int)) (.int 0) = .ok (.int u):=λu v w=>rfl
 have YI:∀u v w:Int,aL (.lst ([u,v,w].map D.int)) (.int 1) = .ok (.int v):=λu v w=>rfl
 have YJ:∀u v w:Int,aL (.lst ([u,v,w].map D.int)) (.int 2) = .ok (.int w):=λu v w=>rfl
 have a0:=Gk (x:=x0) (k:=x1) (n:=m0) (by lia) (by lia)
 have a1:=Gk (x:=x1) (k:=x2) (n:=m1) (by lia) (by lia)
 have a2:=Gk (x:=x2) (k:=3) (n:=m2) (by lia) (by lia)
 rw[fw (ds:=[jA x0 x1 m0,jA x1 x2 m1].map Item.d) (by
  unfold gO
  rw[mY (yS (lX rfl rfl (YG _ _ _)) (lX rfl rfl (O1 _ _ _)) (lX rfl rfl (YH _ _ _)) a0) (mY (yS (lX rfl rfl (O1 _ _ _)) (lX rfl rfl (O2 _ _ _)) (lX rfl rfl (YI _ _ _)) a1) rfl)]
  exact eU ⟨by simp,Item.vK [jA x0 x1 m0,jA x1 x2 m1]⟩) rfl]
 have O3:(jA x2 3 m2).d.cH=true:=by have:=Item.vK [jA x2 3 m2];simpa [D.bI] using this
 rw[dU (rh (ds:=[jA x0 x1 m0,jA x1 x2 m1].map Item.d) (d:=(jA x2 3 m2).d) rfl (by
  unfold aG
  rw[yS (lX rfl rfl (O2 _ _ _)) rfl (lX rfl rfl (YJ _ _ _)) a2,R.eQ,eU O3]) (by simp)) rfl]
 have core0:pM P (kU (x0,x1,x2) m0 m1 m2)/\i5 P due (Item.cb P (kU (x0,x1,x2) m0 m1 m2)):=by
  refine⟨λa ha=>?_,XT Dz hb n0.1 n0.2 n1.1 n1.2 n2.1 n2.2⟩
  unfold kU at ha
  simp only[fF,gN,or_false] at ha
  rcases ha with rfl | rfl | rfl
  ·exact Gp (by lia) b0 (by lia) n0.2
  ·exact Gp (by lia) b1 (by lia) n1.2
  ·exact Gp (by lia) b2 (by lia) n2.2
 obtain⟨n,hn,sV,en⟩:∃n:Nat,n<=5/\(∀j:Nat,j<n->4+2*j+1<ns.length)/\jU 4 ((if (14:Int)<ns.length then 14 else (ns.length:Int))-1) 2=n:=by
  refine⟨_,?_,?_,rfl⟩
  ·unfold jU;split<;>lia
  ·unfold jU;intro j hj;split at hj<;>lia
 have pN:(kO 4 2 n).length=n:=by unfold kO;simp
 refine MG (ds:=kO 4 2 n) (λr=>∃its:List Item,r = .ok (.dJ (its.map Item.d))/\pM P its/\i5 P due (Item.cb P its)/\its.length<=13) (λj Γ=>∃(its:List Item) (x6 x7:En),Γ=[.ro (.lst (ns.map D.int)),.ro (.int P),.own ([[0,1,2],[0,2,1],[1,0,2],[1,2,0],[2,0,1],[2,1,0]].map aq),.ro (aq [(x0:Int),(x1:Int),(x2:Int)]),.own ([m0,m1,m2].map D.int),.own (its.map Item.d),x6,x7]/\pM P its/\i5 P due (Item.cb P its)/\its.length=3+2*j) ?_ ⟨kU (x0,x1,x2) m0 m1 m2,.no,.no,rfl,core0.1,core0.2,rfl⟩ ?turn ?_
 ·walk_at "evs"
  have r1:(-1073741824:Int)<=(if (14:Int)<ns.length then 14 else (ns.length:Int))-1/\(if (14:Int)<ns.length then 14 else (ns.length:Int))-1<1073741824:=by split<;>lia
  walk_at "evs"
  rw[en]
 case turn =>
  rintro j d Γ hd ⟨its,x6,x7,rfl,h1,h2,h3⟩
  obtain⟨hj,rfl⟩:=Wm hd
  have hj2:=sV j hj
  have c0:=ES (ns:=ns) (k:=4+2*(j:Int)) (by lia) (by lia)
  have c1:=ES (ns:=ns) (k:=4+2*(j:Int)+1) (by lia) (by lia)
  generalize di ns (4+2*(j:Int))=y at c0
  generalize di ns (4+2*(j:Int)+1)=z at c1
  obtain⟨x,f,es,hg⟩:=Yx (c:=y) (m:=z) p1 p2
  obtain⟨q,q0,q1,q2,eg⟩:=Yw h5 hg
  have nS:=Item.cH (Item.set x f)
  have hits:D.bI ([(Item.set x f).d]++its.map Item.d)=true:=Item.vK (Item.set x f::its)
  refine .nx (cE (d:=(Item.set x f).d) ?_ (LZ (ds:=(Item.set x f::(its++[Item.set x (iJ P q x f)])).map Item.d) ?_)) ⟨_,_,_,rfl,?_,YC (by lia) hg q2 h2,by simp;lia⟩
  ·unfold aG
   rw[yS (lX rfl rfl (Es c0)) (lX rfl (lX rfl rfl rfl) (Es c1)) rfl es,R.eQ,eU nS]
  ·have O4:(its.map Item.d).length<=13:=by rw[bu];lia
   unfold Bd xW gL gO aH
   rw[mY (d:=(Item.set x f).d) rfl rfl]
   simp only[R.eQ]
   rw[eU ⟨by simp,by simpa [D.bI] using nS⟩]
   simp only[R.eQ]
   rw[show gV 5 _ = .ok (.lst (its.map Item.d)) from rfl,R.eQ]
   rw[show Ez (.lst [(Item.set x f).d]) (.lst (its.map Item.d)) = .ok ([(Item.set x f).d]++its.map Item.d) from eU ⟨by simp;lia,hits⟩,R.eQ]
   rw[mY (d:=(Item.set x (iJ P q x f)).d) (ds:=[]) (by rw[mY (d:=.int P) rfl (mY (d:=(Item.set x f).d) rfl rfl),R.eQ,eg]) rfl,R.eQ]
   rw[eU ⟨by simp,by simpa [D.bI] using Item.cH (Item.set x (iJ P q x f))⟩,R.eQ]
   rw[eU (by simp;lia)]
   simp
  ·intro a ha
   rcases List.mem_cons.mp ha with rfl | ha
   ·exact⟨x,f,rfl,hg.1,hg.2.1,hg.2.2.1⟩
   ·rcases List.mem_append.mp ha with ha | ha
    ·exact h1 a ha
    ·rw[nN] at ha
     exact⟨x,_,ha,hg.1,by unfold iJ;simp[hg.2.1],YD (by lia) q0 q1⟩
 ·rintro Γ ⟨its,x6,x7,rfl,h1,h2,h3⟩
  rw[pN] at h3
  exact⟨its,EJ rfl,h1,h2,by lia⟩
noncomputable section
def Gq:G->R Fl :=
 (aE (aX 1 (aG (gC (.int 3))))
 (aE (cy (gT (ao eV (ao df (aH lO (ae (gV 0) (ae (gC (.int 0)) az))) (gC (.int 4))) (gC (.int 1)))) (aX 1 (aG (ao aL (cq (mJ [5,7,11,13])) (ao df (ao hJ (aH lO (ae (gV 0) (ae (gC (.int 0)) az))) (gC (.int 4))) (gC (.int 4)))))) cQ)
 (aE (c5 2 (jt FZ (ae (gV 0) (ae (gV 1) az))))
 (aE (aX 3 (aG (ao aL (gL (gO (ae (gV 1) (ae (gC (.int 9)) az)))) (aH dInt (ae (ao eV (gV 1) (gC (.int 3))) az)))))
 (aE (c5 4 (gO (ae (aH vA (ae (aH lO (ae (gV 0) (ae (gC (.int 3)) az))) (ae (gV 1) (ae (gC (.int 3)) az)))) az)))
 (aE (fP 5 (fW (gV 3))
 (gP 4 (aG (aH FU (ae (gV 1) (ae (gV 2) (ae (ao aL (gV 4) (gV 5)) az)))))))
 (aE (cy (qW (gT (ao iG (ao aL (gV 4) (gV 3)) (ao aL (gV 4) (gC (.int 0))))) (gT (ao iG (yc (gV 4)) (gV 3)))) (br (gC (.bl false))) cQ)
 (aE (aX 6 (aG (aH h_ (ae (gV 2) az))))
 (aE (cy (gT (ao eV (ao df (ao hJ (aH lO (ae (gV 0) (ae (gC (.int 1)) az))) (gC (.int 6))) (gC (.int 3))) (gC (.int 1)))) (aX 6 (aG (cq (ae (cq (ae (gC (.str "again")) (ae (gC (.int 1)) (ae (aH h_ (ae (gV 2) az)) az)))) az)))) cQ)
 (aE (cy (pk (gT (aH F0 (ae (z8m BP (ae (dt 1) (ae (aG (gC (.int 3))) (ae (dt 6) (ae (aG (ao aL (gV 4) (gC (.int 0)))) az))))) (ae (gV 3) (ae (gV 1) az)))))) (br (gC (.bl false))) cQ)
 (aE (fP 5 (fW (gV 3))
 (aE (aX 7 (z8m vV (ae (dt 1) (ae (aG (gC (.int 3))) (ae (dt 6) (ae (aG (ao aL (gV 4) (gC (.int 0)))) (ae (aG (ao aL (gV 4) (gV 5))) az)))))))
 (cy (qW (pk (gT (sZ vj (gV 7)))) (qW (gT (ao iG (aH jS (ae (gV 7) az)) (gC (.int 2)))) (qW (pk (gT (aH vB (ae (ao aL (gV 7) (gC (.int 1))) az)))) (gT (ao iG (gV 7) (cq (ae (gC (.str "after")) (ae (gV 5) az)))))))) (br (gC (.bl false))) cQ)))
 (br (gC (.bl true))))))))))))))
def B2:List D->R D:=cn 1 8 Gq
end
theorem YK{P:Int}{due:Nat}:F0 [.tup [.int 0,.int (due:Int),.lst [.int P]],.int (due:Int),.int P] = .ok (.bl true):=by
 have n1:D.bI [D.int P]=true:=lD [P]
 have n2:D.bI [D.int 0,D.int (due:Int)]=true:=lD [0,(due:Int)]
 have n3:D.bI [D.int 0,D.int (due:Int),D.int P]=true:=lD [0,(due:Int),P]
 refine c8 rfl ?_
 delta N9
 refine mQ (by walk_at "evs") ?_
 refine mQ (by
  walk_at "evs"
  simp only[vm,Bk]
  walk_at "evs"
  rfl) ?_
 refine cR ?_
 have l2:D.lay 40 (.tup [.int 0,.int (due:Int),.lst [.int P]])=true:=by
  rw[A_]
  simp only[xp,Ss,A8,LK,Su]
 have e2:bF (.tup [.int 0,.int (due:Int),.lst [.int P]]) (.tup [.int 0,.int (due:Int),.lst [.int P]])=true:=LN (by
  rw[Ba]
  simp only[xp,Ss,VA,D.pl,D.kN,Su])
 walk_at "evs"
 first | rfl | rw[e2] | (rw[eU ⟨l2,l2⟩,e2])
theorem YL{ga:G->R D}{Γ:G}{ks:List (List Int)}(h:ga Γ = .ok (.lst (ks.map aq)))(hl:ks.length<=18):yc ga Γ = .ok (D.int (fG ks).length):=by
 have h1:(ks.map aq).all D.tf=true:=List.all_eq_true.mpr λd hd=>by
  obtain⟨k,_,rfl⟩:=List.mem_map.mp hd
  show(k.map D.int).all _=true
  rw[qD]
  intro d hd
  obtain⟨z,_,rfl⟩:=List.mem_map.mp hd
  rfl
 have h2:(ks.map aq).map ti=ks:=by
  rw[ka]
  conv=>rhs;rw[<-List.map_id ks]
  refine uL λk _=>?_
  show(ib (k.map D.int)).getD []=k
  rw[sX];rfl
 unfold yc
 rw[h,R.eQ]
 show R.guard ((ks.map aq).all D.tf=true/\(ks.map aq).length<=18) (R.ok (D.int (fG ((ks.map aq).map ti)).length))=_
 rw[h2,eU ⟨h1,by rw[bu];exact hl⟩]
theorem YM:V_ B2:=by
 intro ns hn
 obtain⟨P,h5,eP⟩:∃P:Int,(P=3∨P=5∨P=7∨P=11∨P=13)/\∀(u:G->R Fl) (r:R Fl),u [.ro (.lst (ns.map D.int)),.ro (.int P),.no,.no,.no,.no,.no,.no]=r ->
  aE (aX 1 (aG (gC (.int 3)))) (aE (cy (gT (ao eV (ao df (aH lO (ae (gV 0) (ae (gC (.int 0)) az))) (gC (.int 4))) (gC (.int 1)))) (aX 1 (aG (ao aL (cq (mJ [5,7,11,13])) (ao df (ao hJ (aH lO (ae (gV 0) (ae (gC (.int 0)) az))) (gC (.int 4))) (gC (.int 4)))))) cQ) u) [.ro (.lst (ns.map D.int)),.no,.no,.no,.no,.no,.no,.no]=r:=by
  by_cases q:di ns 0%4=1
  ·have bq:(di ns 0%4==1)=true:=by simp[q]
   obtain⟨P,h5,e5⟩:∃P:Int,(P=3∨P=5∨P=7∨P=11∨P=13)/\bX ([5,7,11,13].map D.int) (di ns 0/4%4)=some (.int P):=by
    have:di ns 0/4%4=0∨di ns 0/4%4=1∨di ns 0/4%4=2∨di ns 0/4%4=3:=by lia
    rcases this with h | h | h | h<;>rw[h]
    ·exact⟨5,by decide,by rw[fN (by lia)];rfl⟩
    ·exact⟨7,by decide,by rw[fN (by lia)];rfl⟩
    ·exact⟨11,by decide,by rw[fN (by lia)];rfl⟩
    ·exact⟨13,by decide,by rw[fN (by lia)];rfl⟩
   refine⟨P,h5,λu r h=>cE (d:=.int 3) (by walk_at "evs") (L5 (Γ':=[.ro (.lst (ns.map D.int)),.ro (.int P),.no,.no,.no,.no,.no,.no]) (by walk_at "evs";rw[bq]) ?_ h)⟩
   refine(gQ (d:=.int P) ?_).trans rfl
   simp only[cJ,wY] at e5
   walk_at "evs"
   rw[e5]
   walk_at "evs"
  ·have bq:(di ns 0%4==1)=false:=by simp[q]
   exact⟨3,.inl rfl,λu r h=>cE (d:=.int 3) (by walk_at "evs") (mQ (by walk_at "evs";rw[bq]) h)⟩
 refine c8 rfl ?_
 unfold Gq
 refine eP _ _ ?_
 have p1:3<=P:=by lia
 have p2:P<=13:=by lia
 have hp:1<P:=by lia
 have p0:0<P:=by lia
 obtain⟨due,ed,Dz,d13,d1⟩:=X0 h5
 obtain⟨its,ei,hS,hN,hl⟩:=YE (ns:=ns) h5 Dz hn
 have nI:=Item.vK its
 refine fw (ds:=its.map Item.d) (by
  unfold jt
  rw[mY (d:=.lst (ns.map D.int)) rfl (mY (d:=.int P) rfl rfl),R.eQ,ei,R.eQ,eU nI]) ?_
 refine cE (d:=.int (due:Int)) (by
  rw[ed]
  have nl:D.bI [D.int P,D.int 9]=true:=lD [P,9]
  by_cases q:P=3
  ·have b:(P==3)=true:=by simpa using q
   rw[if_pos q]
   walk_at "evs"
   rw[b,if_pos rfl,show bX [D.int P,D.int 9] 1=some (D.int 9) by rw[fN (by lia)];rfl]
   walk_at "evs"
  ·have b:(P==3)=false:=by simpa using q
   rw[if_neg q]
   walk_at "evs"
   rw[b,if_neg (by decide),show bX [D.int P,D.int 9] 0=some (D.int P) by rw[fN (by lia)];rfl]
   walk_at "evs") ?_
 have sl:=ET P 3 (di ns 3)
 have so:=EU (P:=P) p0 3 (di ns 3)
 have nd:=z0n (kq P 3 (di ns 3))
 refine fw (ds:=[aq (kq P 3 (di ns 3))]) (by
  walk_at "evs"
  exact eU (lT [kq P 3 (di ns 3)])) ?_
 generalize kq P 3 (di ns 3)=s at sl so
 have hs:dN P s:=⟨sl,so⟩
 generalize nZ:(λk=>Nat.repeat (Item.cb P its) k s)=st
 have B3:st 0=s:=by rw[<-nZ];rfl
 have YN:∀k,st (k+1)=Item.cb P its (st k):=λk=>by rw[<-nZ];rfl
 have Gr:∀k,dN P (st k):=λk=>by rw[<-nZ];exact vW hN.1 hs k
 have YO:st due=s:=by rw[<-nZ];exact(hN.2 s hs).1
 have v9:(fG ((bK (due+1)).map st)).length=due:=by rw[<-nZ];exact Yt hN hs d1
 refine pC (ds:=fq 0 due) (λj Γ=>∃x5,Γ=[.ro (.lst (ns.map D.int)),.ro (.int P),.own (its.map Item.d),.ro (.int (due:Int)),.own (((bK (j+1)).map st).map aq),x5,.no,.no]) (by
  walk_at "evs"
  try rfl) ⟨.no,by simp[B3]⟩ ?_ ?_
 ·rintro j d Γ hd ⟨x5,rfl⟩
  obtain⟨hj,rfl⟩:=yr hd
  have YQ:bX (((bK (j+1)).map st).map aq) (0+(j:Int))=some (aq (st j)):=by
   rw[fN (by lia),show(0+(j:Int)).toNat=j by lia]
   simp
  have YR:=YA p1 p2 hS (Gr j)
  have nr:=z0n (st (j+1))
  refine .nx (rh (d:=aq (st (j+1))) rfl (by
   unfold aG
   rw[yS (d1:=.int P) (d2:=.lst (its.map Item.d)) rfl rfl (lX rfl rfl (Es YQ)) YR,R.eQ,<-YN,eU nr]) (by simp;lia)) ⟨.ro (.int (0+(j:Int))),?_⟩
  simp[uK]
 ·rintro Γ ⟨x5,rfl⟩
  have YS:(fq 0 due).length=due:=by unfold fq;simp
  rw[YS]
  have YT:bX (((bK (due+1)).map st).map aq) (due:Int)=some (aq s):=by
   rw[fN (by lia),mq]
   simp[YO]
  have Gs:bX (((bK (due+1)).map st).map aq) 0=some (aq s):=by
   rw[fN (by lia)]
   simp[B3,JT]
  have nls:=lT ((bK (due+1)).map st)
  have YU:∀x5:En,yc (gV 4) [.ro (.lst (ns.map D.int)),.ro (.int P),.own (its.map Item.d),.ro (.int (due:Int)),.own (((bK (due+1)).map st).map aq),x5,.no,.no] = .ok (.int (due:Int)):=λx5=>by
   rw[YL (ks:=(bK (due+1)).map st) rfl (by simp;lia),v9]
  have YV:∀k:Nat,k<due->bX (((bK (due+1)).map st).map aq) (k:Int)=some (aq (st k)):=λk hk=>by
   rw[fN (by lia),mq]
   simp[show k<due+1 by lia]
  generalize hsn:((bK (due+1)).map st).map aq=sn at *
  have nS:=z0n s
  refine mQ (by
   have e1:=YU x5
   walk_at "evs"
   simp only[YT,Gs,e1]
   walk_at "evs"
   rfl) ?_
  have O3:=By its
  have d0:Item.kQ its<=0:=Item.E2.mpr λa ha=>by
   obtain⟨x,f,rfl,_⟩:=hS a ha
   simp[Item.deep]
  refine cE (d:=.tup (its.map Item.d)) (by walk_at "evs") ?_
  obtain⟨hI,ho,hd,hg,YW⟩:∃hI:List Item,Item.eB P 3 hI/\Item.kQ hI<=3/\Item.cb P hI=Item.cb P its/\(cy (gT (ao eV (ao df (ao hJ (aH lO (ae (gV 0) (ae (gC (.int 1)) az))) (gC (.int 6))) (gC (.int 3))) (gC (.int 1)))) (aX 6 (aG (cq (ae (cq (ae (gC (.str "again")) (ae (gC (.int 1)) (ae (aH h_ (ae (gV 2) az)) az)))) az)))) cQ) [.ro (.lst (ns.map D.int)),.ro (.int P),.own (its.map Item.d),.ro (.int (due:Int)),.own sn,x5,.ro (.tup (its.map Item.d)),.no] = .ok (.nx [.ro (.lst (ns.map D.int)),.ro (.int P),.own (its.map Item.d),.ro (.int (due:Int)),.own sn,x5,.ro (.tup (hI.map Item.d)),.no]):=by
   have ho:=hS.eB
   by_cases q:di ns 1/6%3=1
   ·have bq:(di ns 1/6%3==1)=true:=by simp[q]
    have nA:=By [Item.again 1 its]
    refine⟨[.again 1 its],by simp only[Item.eB,Item.ok];exact⟨⟨by decide,by decide,ho⟩,trivial⟩,?_,?_,oq (by walk_at "evs";rw[bq]) ((gQ (d:=.tup ([Item.again 1 its].map Item.d)) ?_).trans rfl)⟩
    ·simp only[Item.kQ,Item.deep];lia
    ·funext s;simp only[Item.cb,Item.go];rfl
    ·have nA':(D.tup [D.tup [D.str (cU "again"),D.int 1,D.tup (its.map Item.d)]]).cH=true:=by rw[<-Item.ds_map];exact nA
     walk_at "evs"
   ·have bq:(di ns 1/6%3==1)=false:=by simp[q]
    refine⟨its,ho,?_,rfl,tp (by walk_at "evs";rw[bq])⟩
    lia
  refine dU YW ?_
  have Gu:i5 P due (Item.cb P hI):=by rw[hg];exact hN
  obtain⟨iP,hD⟩:=OT h5
  have YX:BP [.int P,.int 3,.tup (hI.map Item.d),aq s] = .ok (.tup [.int 0,.int (due:Int),.lst [.int P]]):=by
   obtain⟨i,r,L,H,e⟩:=yO hD p1 (by lia) (by decide) (a7 3) hd ho sl so
   obtain⟨rfl,rfl,rfl⟩:=OS hp ho hs Gu d1 H iP Dz.k1 (OU h5 ed)
   exact e
  have YY:∀k:Nat,k<due->vV [.int P,.int 3,.tup (hI.map Item.d),aq s,aq (st k)] = .ok (.tup [.str (cU "after"),.int (k:Int)]):=λk hk=>by
   obtain⟨i,r,L,H,_,hR⟩:=OP hD p1 (by lia) (by decide) (a7 3) hd ho sl so (Gr k).1 (Gr k).2
   obtain⟨rfl,rfl,rfl⟩:=OS hp ho hs Gu d1 H iP Dz.k1 (OU h5 ed)
   obtain⟨d,hT,eH⟩:=hR (by lia)
   rw[<-nZ,<-hg] at hT
   rw[Yr hp ho hs Gu hk hT] at eH
   exact eH
  have nH:=By hI
  refine mQ (by
   have el:=YK (P:=P) (due:=due)
   walk_at "evs"
   simp only[Gs]
   walk_at "evs"
   simp only[YX]
   walk_at "evs"
   simp only[el]
   walk_at "evs"
   try rfl) ?_
  refine pC (ds:=fq 0 due) (λj Γ=>∃x5 x7,Γ=[.ro (.lst (ns.map D.int)),.ro (.int P),.own (its.map Item.d),.ro (.int (due:Int)),.own sn,x5,.ro (.tup (hI.map Item.d)),x7]) (by
   walk_at "evs"
   try rfl) ⟨_,_,rfl⟩ ?_ ?_
  ·rintro j d Γ hd ⟨x5,x7,rfl⟩
   obtain⟨hj,rfl⟩:=yr hd
   rw[show(0:Int)+(j:Int)=(j:Int) by lia]
   have ek:=YV j hj
   have er:=YY j hj
   have nk:=z0n (st j)
   refine .nx (cE (d:=.tup [.str (cU "after"),.int (j:Int)]) ?_ (tp ?_)) ⟨_,_,rfl⟩
   ·walk_at "evs"
    simp only[Gs,ek]
    walk_at "evs"
    simp only[er]
   ·have l2:D.lay 40 (.tup [.str (cU "after"),.int (j:Int)])=true:=by
     rw[A_]
     simp only[xp,Ss,Yn,A8,Su]
    have e2:bF (.tup [.str (cU "after"),.int (j:Int)]) (.tup [.str (cU "after"),.int (j:Int)])=true:=LN (by rw[Ba];rfl)
    walk_at "evs"
    rw[e2]
    rfl
  ·rintro Γ ⟨x5,x7,rfl⟩
   exact cR (by walk_at "evs")
end L3
namespace L3
open PySem PySem.Spec PyProof.Rows L2
abbrev St:=L2.St
instance:Monad R where
 pure:=R.ok
 bind:=R.bind
mutual
def Is(K:aD)(H:Hp):D->V->Prop
 | .b_,v=>v = .b_
 | .bl b,v=>v = .bl b
 | .int i,v=>v = .int i
 | .str x,v=>v = .str x
 | .tup ds,v=>∃a xs,v = .ref a/\b6 K H a xs/\aA K H ds xs
 | .lst ds,v=>∃a xs,v = .ref a/\bM K H a xs/\aA K H ds xs
 | .jR,v=>∃a ob,v = .ref a/\H a=some (.fh ob (.own 0))/\ob.cls = .type "dict"
 | .exc c,v=>∃e oe C,v = .ref e/\H e=some (.fh oe (.own 0))/\oe.cls = .ref C/\mz K dP c.nm=some (some (.ref C))
def aA(K:aD)(H:Hp):List D->List V->Prop
 | [],xs=>xs=[]
 | d::ds,xs=>∃x r,xs=x::r/\Is K H d x/\aA K H ds r
end
structure Sub (K:aD) (H H':Hp):Prop where
 t:∀a xs,b6 K H a xs->b6 K H' a xs
 l:∀a xs,bM K H a xs->bM K H' a xs
 x:∀a o u,H a=some (.fh o u)->H' a=some (.fh o u)
theorem pO{K:aD}{H H':Hp}{a:Addr}{xs:List V}(e:aT H H')(h:b6 K H a xs):b6 K H' a xs:=by
 rcases h with (h | ⟨o,h⟩) | h
 ·exact .inl (.inl (e _ _ h))
 ·exact .inl (.inr ⟨o,e _ _ h⟩)
 ·exact .inr h
theorem Sub.of_same{K:aD}{H H':Hp}(e:aT H H'):Sub K H H':=⟨λ_ _ h=>pO e h,λ_ _ h=>e.seq h,λ_ _ _ h=>e _ _ h⟩
theorem Sub.refl{K:aD}{H:Hp}:Sub K H H:=⟨λ_ _ h=>h,λ_ _ h=>h,λ_ _ _ h=>h⟩
mutual
theorem Is.sub{K:aD}{H H':Hp}(s:Sub K H H'):∀(d:D) (v:V),Is K H d v->Is K H' d v
 | .b_,_,h=>h
 | .bl _,_,h=>h
 | .int _,_,h=>h
 | .str _,_,h=>h
 | .tup ds,v,h=>by
   unfold Is at h ⊢
   obtain⟨a,xs,e,h1,h2⟩:=h
   exact⟨a,xs,e,s.t a xs h1,aA.sub s ds xs h2⟩
 | .lst ds,v,h=>by
   unfold Is at h ⊢
   obtain⟨a,xs,e,h1,h2⟩:=h
   exact⟨a,xs,e,s.l a xs h1,aA.sub s ds xs h2⟩
 | .jR,v,h=>by
   unfold Is at h ⊢
   obtain⟨a,ob,e,h1,h2⟩:=h
   exact⟨a,ob,e,s.x a ob _ h1,h2⟩
 | .exc c,v,h=>by
   unfold Is at h ⊢
   obtain⟨a,oe,C,e,h1,h2⟩:=h
   exact⟨a,oe,C,e,s.x a oe _ h1,h2⟩
theorem aA.sub{K:aD}{H H':Hp}(s:Sub K H H'):∀(ds:List D) (xs:List V),aA K H ds xs->aA K H' ds xs
 | [],_,h=>h
 | d::ds,xs,h=>by
   unfold aA at h ⊢
   obtain⟨x,r,e,h1,h2⟩:=h
   exact⟨x,r,e,Is.sub s d x h1,aA.sub s ds r h2⟩
end
theorem Is.same{K:aD}{H H':Hp}{d:D}{v:V}(h:Is K H d v)(e:aT H H'):Is K H' d v:=Is.sub (.of_same e) d v h
theorem aA.same{K:aD}{H H':Hp}{ds:List D}{xs:List V}(h:aA K H ds xs)(e:aT H H'):aA K H' ds xs:=aA.sub (.of_same e) ds xs h
theorem Is.bO{K:aD}{H:Hp}{i:Int}{v:V}:Is K H (.int i) v↔v = .int i:=by unfold Is;rfl
theorem Is.gy{K:aD}{H:Hp}{b:Bool}{v:V}:Is K H (.bl b) v↔v = .bl b:=by unfold Is;rfl
theorem Is.Gv{K:aD}{H:Hp}{x:Str}{v:V}:Is K H (.str x) v↔v = .str x:=by unfold Is;rfl
theorem Is.B4{K:aD}{H:Hp}{v:V}:Is K H .b_ v↔v = .b_:=by unfold Is;rfl
theorem Is.eZ{K:aD}{H:Hp}{ds:List D}{v:V}:Is K H (.tup ds) v↔∃a xs,v = .ref a/\b6 K H a xs/\aA K H ds xs:=by conv=>lhs;unfold Is
theorem Is.fA{K:aD}{H:Hp}{ds:List D}{v:V}:Is K H (.lst ds) v↔∃a xs,v = .ref a/\bM K H a xs/\aA K H ds xs:=by conv=>lhs;unfold Is
theorem aA.jq{K:aD}{H:Hp}{xs:List V}:aA K H [] xs↔xs=[]:=by unfold aA;rfl
theorem aA.gD{K:aD}{H:Hp}{d:D}{ds:List D}{xs:List V}:aA K H (d::ds) xs↔∃x r,xs=x::r/\Is K H d x/\aA K H ds r:=by conv=>lhs;unfold aA
theorem aA.nil{K:aD}{H:Hp}:aA K H [] []:=aA.jq.mpr rfl
theorem aA.cons{K:aD}{H:Hp}{d:D}{ds:List D}{x:V}{xs:List V}(h:Is K H d x)(t:aA K H ds xs):aA K H (d::ds) (x::xs):=aA.gD.mpr ⟨x,xs,rfl,h,t⟩
theorem aA.length{K:aD}{H:Hp}:∀{ds:List D} {xs:List V},aA K H ds xs->ds.length=xs.length
 | [],xs,h=>by rw[aA.jq.mp h];rfl
 | d::ds,xs,h=>by
   obtain⟨x,r,rfl,_,t⟩:=aA.gD.mp h
   rw[de,de,aA.length t]
theorem aA.get{K:aD}{H:Hp}:∀{ds:List D} {xs:List V} {i:Nat} {d:D},aA K H ds xs->ds[i]? = some d->∃x,xs[i]? = some x/\Is K H d x
 | [],_,_,_,_,e=>by simp at e
 | d::ds,xs,0,d',h,e=>by
   obtain⟨x,r,rfl,hx,t⟩:=aA.gD.mp h
   simp at e;subst e
   exact⟨x,rfl,hx⟩
 | d::ds,xs,i+1,d',h,e=>by
   obtain⟨x,r,rfl,hx,t⟩:=aA.gD.mp h
   obtain⟨y,e1,hy⟩:=aA.get (i:=i) t (by simpa using e)
   exact⟨y,by simpa using e1,hy⟩
theorem aA.v_{K:aD}{H:Hp}{ds:List D}{xs:List V}{i:Nat}{x:V}(h:aA K H ds xs)(e:xs[i]? = some x):∃d,ds[i]? = some d/\Is K H d x:=by
 have hi:i<xs.length:=(List.getElem?_eq_some_iff.mp e).1
 have hd:i<ds.length:=by rw[h.length];exact hi
 obtain⟨y,e1,hy⟩:=h.get (cf hd)
 rw[e] at e1;cases e1
 exact⟨_,cf hd,hy⟩
theorem aA.append{K:aD}{H:Hp}:∀{ds es:List D} {xs ys:List V},aA K H ds xs->aA K H es ys->aA K H (ds++es) (xs++ys)
 | [],_,_,_,h,t=>by rw[aA.jq.mp h];exact t
 | d::ds,es,xs,ys,h,t=>by
   obtain⟨x,r,rfl,hx,tr⟩:=aA.gD.mp h
   exact aA.cons hx (aA.append tr t)
theorem aA.drop{K:aD}{H:Hp}:∀{ds:List D} {xs:List V} (n:Nat),aA K H ds xs->aA K H (ds.drop n) (xs.drop n)
 | _,_,0,h=>h
 | [],xs,n+1,h=>by rw[aA.jq.mp h];exact aA.nil
 | d::ds,xs,n+1,h=>by
   obtain⟨x,r,rfl,hx,tr⟩:=aA.gD.mp h
   exact aA.drop n tr
theorem aA.take{K:aD}{H:Hp}:∀{ds:List D} {xs:List V} (n:Nat),aA K H ds xs->aA K H (ds.take n) (xs.take n)
 | _,_,0,_=>by rw[Sm,Sm];exact aA.nil
 | [],xs,n+1,h=>by rw[aA.jq.mp h];exact aA.nil
 | d::ds,xs,n+1,h=>by
   obtain⟨x,r,rfl,hx,tr⟩:=aA.gD.mp h
   exact aA.cons hx (aA.take n tr)
theorem aA.set{K:aD}{H:Hp}{d':D}{x':V}(q:Is K H d' x'):∀{ds:List D} {xs:List V} (n:Nat),aA K H ds xs->aA K H (ds.set n d') (xs.set n x')
 | [],xs,n,h=>by rw[aA.jq.mp h];exact aA.nil
 | d::ds,xs,0,h=>by
   obtain⟨x,r,rfl,hx,tr⟩:=aA.gD.mp h
   exact aA.cons q tr
 | d::ds,xs,n+1,h=>by
   obtain⟨x,r,rfl,hx,tr⟩:=aA.gD.mp h
   exact aA.cons hx (aA.set q n tr)
theorem aA.ints{K:aD}{H:Hp}:∀ns:List Int,aA K H (ns.map D.int) (ns.map V.int)
 | []=>aA.nil
 | n::ns=>aA.cons (Is.bO.mpr rfl) (aA.ints ns)
theorem aA.B5{K:aD}{H:Hp}:∀{ns:List Int} {xs:List V},aA K H (ns.map D.int) xs->xs=ns.map V.int
 | [],xs,h=>aA.jq.mp h
 | n::ns,xs,h=>by
   obtain⟨x,r,rfl,hx,tr⟩:=aA.gD.mp h
   rw[Is.bO.mp hx,aA.B5 tr];rfl
def aV(F:List Addr)(H:Hp):Hp:=λb=>if b∈F then none else H b
theorem yT{F:List Addr}{H:Hp}{b:Addr}(h:b∈F):aV F H b=none:=by unfold aV;rw[if_pos h]
theorem e8{F:List Addr}{H:Hp}{b:Addr}(h:b ∉ F):aV F H b=H b:=by unfold aV;rw[if_neg h]
theorem kW{F:List Addr}{H:Hp}{b:Addr}{o:HO}(h:aV F H b=some o):b ∉ F/\H b=some o:=by
 unfold aV at h
 by_cases q:b∈F
 ·rw[if_pos q] at h;cases h
 ·rw[if_neg q] at h;exact⟨q,h⟩
def bZ(H:Hp)(F:List Addr):Prop:=∀b∈F,∃xs,H b=some (.lst xs)
theorem bZ.same{H H':Hp}{F:List Addr}(h:bZ H F)(e:aT H H'):bZ H' F:=λb hb=>let ⟨xs,q⟩:=h b hb;⟨xs,e _ _ q⟩
theorem bZ.nil{H:Hp}:bZ H []:=λb hb=>by simp at hb
theorem bZ.cons{H:Hp}{F:List Addr}{a:Addr}{xs:List V}(h:bZ H F)(e:H a=some (.lst xs)):bZ H (a::F):=λb hb=>by
 rcases List.mem_cons.mp hb with z | z
 ·subst z;exact⟨xs,e⟩
 ·exact h b z
theorem YZ{H:Hp}{F:List Addr}{a:Addr}:aT (aV (a::F) H) (aV F H):=λb o h=>by
 obtain⟨h1,h2⟩:=kW h
 rw[e8 λz=>h1 (bL _ z)];exact h2
theorem O5{H H':Hp}{F:List Addr}{a:Addr}(e:aT H H')(hn:H a=none):aT (aV F H) (aV (a::F) H'):=λb o h=>by
 obtain⟨h1,h2⟩:=kW h
 rw[e8 λz=>(List.mem_cons.mp z).elim (λq=>by rw[q,hn] at h2;cases h2) h1]
 exact e _ _ h2
theorem jC{H H':Hp}{F:List Addr}(e:aT H H'):aT (aV F H) (aV F H'):=λb o h=>by
 obtain⟨h1,h2⟩:=kW h
 rw[e8 h1];exact e _ _ h2
theorem lY{H:Hp}{F:List Addr}:aT (aV F H) H:=λb o h=>(kW h).2
theorem O6{K:aD}{H:Hp}{F:List Addr}{a:Addr}{xs:List V}(fo:bZ H F)(h:b6 K H a xs):b6 K (aV F H) a xs:=by
 rcases h with (h1 | ⟨o,h1⟩) | h1
 ·refine .inl (.inl ?_)
  rw[e8 λq=>by obtain⟨ys,z⟩:=fo a q;rw[h1] at z;cases z];exact h1
 ·refine .inl (.inr ⟨o,?_⟩)
  rw[e8 λq=>by obtain⟨ys,z⟩:=fo a q;rw[h1] at z;cases z];exact h1
 ·exact .inr h1
mutual
theorem Is.aV{K:aD}{H:Hp}{F:List Addr}(fo:bZ H F):∀(d:D) (v:V),d.cH=true->Is K H d v->Is K (aV F H) d v
 | .b_,_,_,h=>h
 | .bl _,_,_,h=>h
 | .int _,_,_,h=>h
 | .str _,_,_,h=>h
 | .tup ds,v,n,h=>by
   obtain⟨a,xs,e,h1,h2⟩:=Is.eZ.mp h
   exact Is.eZ.mpr ⟨a,xs,e,O6 fo h1,aA.aV fo ds xs (by simpa [D.cH] using n) h2⟩
 | .lst ds,v,n,h=>by simp[D.cH] at n
 | .jR,v,n,h=>by simp[D.cH] at n
 | .exc c,v,n,h=>by
   unfold Is at h ⊢
   obtain⟨a,oe,C,e,h1,h2⟩:=h
   refine⟨a,oe,C,e,?_,h2⟩
   rw[e8 λq=>by obtain⟨ys,z⟩:=fo a q;rw[h1] at z;cases z];exact h1
theorem aA.aV{K:aD}{H:Hp}{F:List Addr}(fo:bZ H F):∀(ds:List D) (xs:List V),D.bI ds=true->aA K H ds xs->aA K (aV F H) ds xs
 | [],_,_,h=>h
 | d::ds,xs,n,h=>by
   obtain⟨x,r,e,h1,h2⟩:=aA.gD.mp h
   have n':d.cH=true/\D.bI ds=true:=by simpa [D.bI] using n
   exact aA.gD.mpr ⟨x,r,e,Is.aV fo d x n'.1 h1,aA.aV fo ds r n'.2 h2⟩
end
structure Rel (K:aD) (H:Hp) (F:List Addr) (Γ:G) (σ:St):Prop where
 len:Γ.length=σ.length
 ro:∀(i:Nat) d,Γ[i]? = some (.ro d)->∃v,σ[i]? = some (some v)/\Is K (aV F H) d v
 own:∀(i:Nat) ds,Γ[i]? = some (.own ds)->∃a xs,σ[i]? = some (some (.ref a))/\a∈F/\H a=some (.lst xs)/\aA K (aV F H) ds xs
 inj:∀(i j:Nat) ds es a,Γ[i]? = some (.own ds)->Γ[j]? = some (.own es)->σ[i]? = some (some (.ref a))->σ[j]? = some (some (.ref a))->i=j
theorem Rel.same{K:aD}{H H':Hp}{F:List Addr}{Γ:G}{σ:St}(r:Rel K H F Γ σ)(e:aT H H'):Rel K H' F Γ σ :=
 ⟨r.len,λi d h=>let ⟨v,h1,h2⟩:=r.ro i d h;⟨v,h1,h2.same (jC e)⟩,λi ds h=>let ⟨a,xs,h1,h2,h3,h4⟩:=r.own i ds h;⟨a,xs,h1,h2,e _ _ h3,h4.same (jC e)⟩,r.inj⟩
theorem Rel.look{K:aD}{H:Hp}{F:List Addr}{Γ:G}{σ:St}(r:Rel K H F Γ σ){i:Nat}{d:D}(h:lk Γ i = .ok d):∃v,σ[i]? = some (some v)/\Is K H d v:=by
 unfold lk at h
 cases e:Γ[i]? with
 | none=>rw[e] at h;cases h
 | some en =>
   rw[e] at h
   cases en with
   | no=>cases h
   | ro d'=>cases h;obtain⟨v,h1,h2⟩:=r.ro i d e;exact⟨v,h1,h2.same lY⟩
   | own ds =>
     cases h
     obtain⟨a,xs,h1,h2,h3,h4⟩:=r.own i ds e
     exact⟨.ref a,h1,Is.fA.mpr ⟨a,xs,rfl,bM.of h3,h4.same lY⟩⟩
theorem Rel.Y0{K:aD}{H:Hp}{F:List Addr}{Γ:G}{σ:St}(r:Rel K H F Γ σ){i:Nat}{d:D}(h:oj Γ i = .ok d):∃v,σ[i]? = some (some v)/\Is K (aV F H) d v:=by
 unfold oj at h
 cases e:Γ[i]? with
 | none=>rw[e] at h;cases h
 | some en =>
   rw[e] at h
   cases en with
   | no=>cases h
   | ro d'=>cases h;exact r.ro i d e
   | own ds=>cases h
structure Ext (H:Hp) (F:List Addr) (H':Hp) (F':List Addr):Prop where
 keep:∀b o,b ∉ F->H b=some o->H' b=some o
 old:∀b,b∈F'->b∈F∨H b=none
theorem Ext.refl{H:Hp}{F:List Addr}:Ext H F H F:=⟨λ_ _ _ h=>h,λ_ h=>.inl h⟩
theorem Ext.of_same{H H':Hp}{F:List Addr}(e:aT H H'):Ext H F H' F:=⟨λ_ _ _ h=>e _ _ h,λ_ h=>.inl h⟩
theorem Ext.trans{H H1 H2:Hp}{F F1 F2:List Addr}(a:Ext H F H1 F1)(b:Ext H1 F1 H2 F2):Ext H F H2 F2 where
 keep:=λc o hc h=>b.keep c o (λz=>(a.old c z).elim hc λn=>by rw[h] at n;cases n) (a.keep c o hc h)
 old:=λc hc=>by
  rcases b.old c hc with h | h
  ·exact a.old c h
  ·by_cases q:c∈F
   ·exact .inl q
   ·refine .inr ?_
    cases e:H c with
    | none=>rfl
    | some o=>rw[a.keep c o q e] at h;cases h
theorem Ext.same{H H':Hp}{F':List Addr}(e:Ext H [] H' F'):aT H H':=λb o h=>e.keep b o (by simp) h
theorem Ext.aV{H H':Hp}{F F':List Addr}(e:Ext H F H' F'):aT (aV F H) (aV F' H'):=λb o h=>by
 obtain⟨h1,h2⟩:=kW h
 have h3:=e.keep b o h1 h2
 rw[e8 λz=>(e.old b z).elim h1 λn=>by rw[h2] at n;cases n]
 exact h3
def rN(X:Cx)(pins:List (Addr×Obj))(σ:St)(H:Hp)(c:Er)(x:Value)(s:ai):Prop :=
 Inv X pins σ H s/\∃(e C:Addr) (oe:Obj) (vs:Array Value),x = .ref e/\X.mg c.nm=some (.ref C)/\H e=none/\X.s₀.heap.get? e=none/\e≠X.env.locals/\(∀y k,X.env.cells.lookup y=some k->k≠e)/\(∀p∈X.pn++pins,p.1≠e) /\
  s.heap.get? e=some oe/\oe.cls = .ref C/\oe.data = .fields vs/\(∃a0,vs[0]? = some a0) /\
  (vs[1]? = some .none∨∃(T:Addr) (oT:Obj) (ts:Array Value),vs[1]? = some (.ref T)/\H T=none/\X.s₀.heap.get? T=none/\T≠X.env.locals/\(∀y k,X.env.cells.lookup y=some k->k≠T)/\(∀p∈X.pn++pins,p.1≠T)/\T≠e /\
    s.heap.get? T=some oT/\oT.data = .fields ts/\(ts[3]? = some .none∨∃L,X.env.frame=some L/\ts[3]? = some (rawInt L)))
def dj(X:Cx)(pins:List (Addr×Obj))(σ:St)(H:Hp)(r:R D)(u:Value)(s':ai):Prop :=
 ∃d v H',r = .ok d/\Inv X pins σ H' s'/\RelV v u/\aT H H'/\Is X.K H' d v
def bV{α:Type}(X:Cx)(pins:List (Addr×Obj))(σ:St)(H:Hp)(r:R α)(x:Value)(s':ai):Prop :=
 ∃c H',r = .er c/\aT H H'/\rN X pins σ H' c x s'
theorem bV.bind{α β:Type}{X:Cx}{pins:List (Addr×Obj)}{σ:St}{H:Hp}{r:R α}{x:Value}{s':ai}(h:bV X pins σ H r x s')(k:α->R β):bV X pins σ H (r>>=k) x s':=by
 obtain⟨c,H',e,h1,h2⟩:=h
 exact⟨c,H',R.stop e k,h1,h2⟩
theorem bV.later{α β:Type}{X:Cx}{pins:List (Addr×Obj)}{σ:St}{H H1:Hp}{r:R α}{a:α}{k:α->R β}{x:Value}{s':ai}(e:r = .ok a)(s:aT H H1)(h:bV X pins σ H1 (k a) x s'):bV X pins σ H (r>>=k) x s':=by
 obtain⟨c,H',e1,h1,h2⟩:=h
 exact⟨c,H',(R.step e k).trans e1,s.trans h1,h2⟩
structure PD (X:Cx) (e:Expr) (g:G->R D):Prop where
 run:∀(pins:List (Addr×Obj)) (s:ai) (σ:St) (H:Hp) (F:List Addr) (Γ:G),Inv X pins σ H s->bZ H F->Rel X.K H F Γ σ->g Γ ≠ .no ->
  ax (aF X.prog X.w) X.A (eval e X.env) (dj X pins σ H (g Γ)) (bV X pins σ H (g Γ)) s
structure iL (X:Cx) (e:Expr) (g:G->R D):Prop where
 run:∀(pins:List (Addr×Obj)) (s:ai) (σ:St) (H:Hp) (F:List Addr) (Γ:G),Inv X pins σ H s->bZ H F->Rel X.K H F Γ σ->g Γ ≠ .no ->
  ax (aF X.prog X.w) X.A (eval e X.env) (λu s'=>∃d v H',g Γ = .ok d/\Inv X pins σ H' s'/\RelV v u/\aT H H'/\Is X.K (aV F H') d v) (bV X pins σ H (g Γ)) s
structure PF (X:Cx) (e:Expr) (g:G->R (List D)):Prop where
 run:∀(pins:List (Addr×Obj)) (s:ai) (σ:St) (H:Hp) (F:List Addr) (Γ:G),Inv X pins σ H s->bZ H F->Rel X.K H F Γ σ->g Γ ≠ .no ->
  ax (aF X.prog X.w) X.A (eval e X.env) (λu s'=>∃ds a xs H',g Γ = .ok ds/\Inv X pins σ H' s'/\u = .ref a/\aT H H'/\H a=none/\H' a=some (.lst xs)/\aA X.K (aV (a::F) H') ds xs) (bV X pins σ H (g Γ)) s
structure kx (X:Cx) (e:Expr) (g:G->R Bool):Prop where
 run:∀(pins:List (Addr×Obj)) (s:ai) (σ:St) (H:Hp) (F:List Addr) (Γ:G),Inv X pins σ H s->bZ H F->Rel X.K H F Γ σ->g Γ ≠ .no ->
  ax (aF X.prog X.w) X.A (oP e X.env (eval e X.env)) (λb s'=>∃H',g Γ = .ok b/\Inv X pins σ H' s'/\aT H H') (bV X pins σ H (g Γ)) s
structure lZ (X:Cx) (e:Expr) (g:G->R Bool):Prop where
 run:∀(whole:Sem Value) (pins:List (Addr×Obj)) (s:ai) (σ:St) (H:Hp) (F:List Addr) (Γ:G),Inv X pins σ H s->bZ H F->Rel X.K H F Γ σ->g Γ ≠ .no ->
  ax (aF X.prog X.w) X.A (oP e X.env whole) (λb s'=>∃H',g Γ = .ok b/\Inv X pins σ H' s'/\aT H H') (bV X pins σ H (g Γ)) s
theorem lZ.pt{X:Cx}{e:Expr}{g:G->R Bool}(h:lZ X e g):kx X e g:=⟨h.run _⟩
structure mZ (X:Cx) (es:List Expr) (g:G->R (List D)):Prop where
 run:∀(pos:Pos) (pins:List (Addr×Obj)) (s:ai) (σ:St) (H:Hp) (F:List Addr) (Γ:G),Inv X pins σ H s->bZ H F->Rel X.K H F Γ σ->g Γ ≠ .no ->
  ax (aF X.prog X.w) X.A (gf (cK pos (bA es X.env))) (λus s'=>∃ds vs H',g Γ = .ok ds/\Inv X pins σ H' s'/\Vals vs us/\aT H H'/\aA X.K H' ds vs) (bV X pins σ H (g Γ)) s
section
variable {X:Cx}{e a b c:Expr}{g ga gb gc:G->R D}{pos:Pos}
theorem iL.pd(h:iL X e g):PD X e g:=⟨λpins s σ H F Γ I fo rl hg =>
 eM (h.run pins s σ H F Γ I fo rl hg) λ_ _ ⟨d,v,H',e1,I',r,S,i⟩=>⟨d,v,H',e1,I',r,S,i.same lY⟩⟩
theorem PD.ro(h:PD X e g):iL X e (aG g):=⟨λpins s σ H F Γ I fo rl hg =>
 aC (h.run pins s σ H F Γ I fo rl (R.left hg)) (λ_ _ ⟨d,v,H',e1,I',r,S,i⟩=>by
  have fR:=R.next hg e1
  obtain⟨n,e2⟩:=R.dF fR
  exact⟨d,v,H',(R.step e1 _).trans e2,I',r,S,Is.aV (fo.same S) d v n i⟩) λ_ _ x=>x.bind _⟩
theorem PF.ro{g:G->R (List D)}(h:PF X e g):iL X e (gL g):=⟨λpins s σ H F Γ I fo rl hg =>
 aC (h.run pins s σ H F Γ I fo rl (R.left hg)) (λ_ _ ⟨ds,p,xs,H',e1,I',eu,S,hn,hp,i⟩=>by
  have hF:p ∉ F:=λz=>by obtain⟨ys,q⟩:=fo p z;rw[hn] at q;cases q
  exact⟨.lst ds,.ref p,H',(R.step e1 _),I',eu,S,Is.fA.mpr ⟨p,xs,rfl,bM.of (by rw[e8 hF];exact hp),i.same YZ⟩⟩) λ_ _ x=>x.bind _⟩
theorem PF.pd{g:G->R (List D)}(h:PF X e g):PD X e (gL g):=h.ro.pd
theorem PD.of{t:TE}(h:PE X.bG e t)(hq:∀σ H F Γ,bZ H F->Rel X.K H F Γ σ->g Γ ≠ .no->t σ H λv H'=>∃d,g Γ = .ok d/\aT H H'/\Is X.K H' d v):PD X e g:=⟨λpins s σ H F Γ I fo rl hg =>
 aC (h pins s σ H _ (I.cZ _) (hq σ H F Γ fo rl hg)) (λ_ _ ⟨v,H',I',r,d,e1,S,i⟩=>⟨d,v,H',e1,I'.dr,r,S,i⟩) λ_ _ z=>cT z⟩
theorem ag(i:Nat){x:Str}(hN:X.N[i]? = some x:=by rfl)(hv:nV X.env.scope x:=by first | exact gZ rfl | exact fb (gZ rfl) | exact fb (fb rfl))(hd:(x==("__debug__":Str))=false:=by decide)
 (d8:(x==("__classdict__":Str))=false:=by decide):PD X (.Name x pos) (gV i) :=
 PD.of (t:=K5 i) (vc (X:=X.bG) hN hv hd d8) λσ H F Γ fo rl hg=>by
  obtain⟨d,e⟩:=Vo hg
  obtain⟨v,h1,h2⟩:=rl.look e
  exact⟨v,h1,d,e,.refl _,h2⟩
theorem gW(i:Nat){x:Str}(hN:X.N[i]? = some x:=by rfl)(hv:nV X.env.scope x:=by first | exact gZ rfl | exact fb (gZ rfl) | exact fb (fb rfl))(hd:(x==("__debug__":Str))=false:=by decide)
 (d8:(x==("__classdict__":Str))=false:=by decide):iL X (.Name x pos) (dt i):=by
 refine⟨λpins s σ H F Γ I fo rl hg=>?_⟩
 obtain⟨d,e⟩:=Vp hg
 obtain⟨v,h1,h2⟩:=rl.Y0 e
 exact aC (vc (X:=X.bG) hN hv hd d8 pins s σ H (λv' H'=>v'=v/\H'=H) (I.cZ _) ⟨v,h1,rfl,rfl⟩) (λ_ _ ⟨v',H',I',r,e1,e2⟩=>by
  subst e1 e2
  exact⟨d,v',H',e,I'.dr,r,.refl _,h2⟩) λ_ _ z=>cT z
theorem aN{i:Int}{j}:PD X (.Constant (.int i) j pos) (gC (.int i)):=PD.of (t:=tC (.int i)) TV λ_ _ _ _ _ _ _=>⟨_,rfl,.refl _,Is.bO.mpr rfl⟩
theorem wa{b:Bool}{j}:PD X (.Constant (.bool b) j pos) (gC (.bl b)):=PD.of (t:=tC (.bl b)) TX λ_ _ _ _ _ _ _=>⟨_,rfl,.refl _,Is.gy.mpr rfl⟩
theorem m4{x:Str}{j}:PD X (.Constant (.str x) j pos) (gC (.str x)):=PD.of (t:=tC (.str x)) TY λ_ _ _ _ _ _ _=>⟨_,rfl,.refl _,Is.Gv.mpr rfl⟩
theorem Y1{x:Str}{d:D}{v:V}{u:Value}(hg:Gl X x)(hm:X.mg x=some u)(r:RelV v u)(i:∀H,Is X.K H d v)(hd:(x==("__debug__":Str))=false:=by decide):PD X (.Name x pos) (gC d) :=
 PD.of (t:=tC v) (TZ (X:=X.bG) hg hm r hd) λ_ H _ _ _ _ _=>⟨_,rfl,.refl _,i H⟩
def gE(X:Cx)(f:Value->Value->Sem Value)(g:D->D->R D):Prop:=∃r:R2,fi X.bG f r/\∀H x y dx dy,Is X.K H dx x->Is X.K H dy y->g dx dy ≠ .no->r x y H λz H'=>∃d,g dx dy = .ok d/\aT H H'/\Is X.K H' d z
theorem gE.run{f:Value->Value->Sem Value}{g:D->D->R D}(h:gE X f g){pins:List (Addr×Obj)}{s:ai}{σ:St}{H:Hp}{x y:V}{v u:Value}{dx dy:D}(I:Inv X pins σ H s)(rx:RelV x v)(ry:RelV y u)
 (ix:Is X.K H dx x) (iy:Is X.K H dy y) (hg:g dx dy ≠ .no) {E:Value->ai->Prop}:ax (aF X.prog X.w) X.A (f v u) (dj X pins σ H (g dx dy)) E s:=by
 obtain⟨r,ho,hr⟩:=h
 exact aC (ho pins s σ H x y v u _ (I.cZ _) rx ry (hr H x y dx dy ix iy hg)) (λ_ _ ⟨z,H',I',rz,d,e,S,i⟩=>⟨d,z,H',e,I'.dr,rz,S,i⟩) λ_ _ z=>cT z
theorem dj.bind{pins:List (Addr×Obj)}{σ:St}{H H1:Hp}{α:Type}{r:R α}{k:α->R D}{a:α}{u:Value}{s':ai}(e:r = .ok a)(S:aT H H1)(h:dj X pins σ H1 (k a) u s'):dj X pins σ H (r>>=k) u s':=by
 obtain⟨d,v,H',e1,I,rv,S1,i⟩:=h
 exact⟨d,v,H',(R.step e k).trans e1,I,rv,S.trans S1,i⟩
theorem Gw{g2:D->D->R D}{f:Value->Value->Sem Value}(ho:gE X f g2)(ha:PD X a ga)(hb:PD X b gb){pins:List (Addr×Obj)}{s:ai}{σ:St}{H:Hp}{F:List Addr}{Γ:G}(I:Inv X pins σ H s)(fo:bZ H F)(rl:Rel X.K H F Γ σ)(hg:ao g2 ga gb Γ ≠ .no) :
 ax (aF X.prog X.w) X.A (eval a X.env) (λv cu=>ax (aF X.prog X.w) X.A (eval b X.env) (λu aB=>ax (aF X.prog X.w) X.A (f v u) (dj X pins σ H (ao g2 ga gb Γ)) (bV X pins σ H (ao g2 ga gb Γ)) aB) (bV X pins σ H (ao g2 ga gb Γ)) cu) (bV X pins σ H (ao g2 ga gb Γ)) s:=by
 refine aC (ha.run pins s σ H F Γ I fo rl (R.left hg)) (λv s1 ⟨dx,x,H1,e1,I1,r1,S1,i1⟩=>?_) λ_ _ x=>x.bind _
 have aW:=R.next hg e1
 refine aC (hb.run pins s1 σ H1 F Γ I1 (fo.same S1) (rl.same S1) (R.left aW)) (λu s2 ⟨dy,y,H2,e2,I2,r2,S2,i2⟩=>?_) λ_ _ x=>bV.later e1 S1 (x.bind _)
 have dH:=R.next aW e2
 exact eM (ho.run I2 r1 r2 (i1.same S2) i2 dH) λ_ _ q=>dj.bind e1 S1 (dj.bind e2 S2 q)
theorem bt{op:Operator}{g2:D->D->R D}(ho:gE X (iS op) g2)(ha:PD X a ga)(hb:PD X b gb):PD X (.BinOp a op b pos) (ao g2 ga gb):=⟨λpins s σ H F Γ I fo rl hg=>Sv (Gw ho ha hb I fo rl hg)⟩
theorem O7{op:CmpOp}{g2:D->D->R D}(ho:gE X (oQ op) g2)(ha:PD X a ga)(hb:PD X b gb)(hm:JG op b=false):PD X (.Compare a [op] [b] pos) (ao g2 ga gb):=⟨λpins s σ H F Γ I fo rl hg=>wpAny_Compare1 (Gw ho ha hb I fo rl hg) hm⟩
theorem O8{pins:List (Addr×Obj)}{σ:St}{H:Hp}{r:R D}{u:Value}{s':ai}(h:dj X pins σ H r u s')(hg:(r>>=qV) ≠ .no):∃b H',u = .bool b/\(r>>=qV) = .ok b/\Inv X pins σ H' s'/\aT H H':=by
 obtain⟨d,v,H',e1,I,rv,S,i⟩:=h
 obtain⟨b,rfl,e2⟩:=Eh (R.next hg e1)
 rw[Is.gy.mp i] at rv
 exact⟨b,H',rv,(R.step e1 _).trans e2,I,S⟩
theorem eF{op:CmpOp}{g2:D->D->R D}(ho:gE X (oQ op) g2)(ha:PD X a ga)(hb:PD X b gb)(hm:JG op b=false):kx X (.Compare a [op] [b] pos) (gT (ao g2 ga gb)):=by
 refine⟨λpins s σ H F Γ I fo rl hg=>?_⟩
 refine wpAny_isTrue_Compare1 (aC (Gw ho ha hb I fo rl (R.left hg)) (λv s1 h1=>aC h1 (λu s2 h2=>aC h2 (λz s3 h3=>?_) λ_ _ x=>x.bind _) λ_ _ x=>x.bind _) λ_ _ x=>x.bind _) hm
 obtain⟨b,H',rfl,e,I',S⟩:=O8 h3 hg
 exact Ds ⟨H',e,I',S⟩
theorem wb(ha:PD X a ga)(he:∀whole,oP a X.env whole=(do let v <-whole;standAt a.pos;Ar [v] (truthy v)):=by intro _;rfl):kx X a (gT ga):=by
 refine⟨λpins s σ H F Γ I fo rl hg=>?_⟩
 refine isTrue_plain (aC (ha.run pins s σ H F Γ I fo rl (R.left hg)) (λv s1 h3=>?_) λ_ _ x=>x.bind _) (he _)
 obtain⟨b,H',rfl,e,I',S⟩:=O8 h3 hg
 exact Ds ⟨H',e,I',S⟩
variable {gA gB:G->R Bool}{rest:List Expr}
theorem Y2(ha:kx X a gA):lZ X (.BoolOp .And [a] pos) gA:=by
 refine⟨λwh pins s σ H F Γ I fo rl hg=>?_⟩
 refine isTrue_and (eM (ha.run pins s σ H F Γ I fo rl hg) λc s1 e=>?_)
 cases c with
 | true=>exact isTrue_and_nil e
 | false=>exact e
theorem Gx(ha:kx X a gA):lZ X (.BoolOp .Or [a] pos) gA:=by
 refine⟨λwh pins s σ H F Γ I fo rl hg=>?_⟩
 refine isTrue_or (eM (ha.run pins s σ H F Γ I fo rl hg) λc s1 e=>?_)
 cases c with
 | false=>exact isTrue_or_nil e
 | true=>exact e
theorem Y3(ha:kx X a gA)(hb:lZ X (.BoolOp .And (b::rest) pos) gB):lZ X (.BoolOp .And (a::b::rest) pos) (xR gA gB):=by
 refine⟨λwh pins s σ H F Γ I fo rl hg=>?_⟩
 refine isTrue_and (aC (ha.run pins s σ H F Γ I fo rl (R.left hg)) (λc s1 ⟨H1,e1,I1,S1⟩=>?_) λ_ _ x=>x.bind _)
 have aW:=R.next hg e1
 cases c with
 | true=>exact aC (hb.run wh pins s1 σ H1 F Γ I1 (fo.same S1) (rl.same S1) aW) (λ_ _ ⟨H2,e2,I2,S2⟩=>⟨H2,(R.step e1 _).trans e2,I2,S1.trans S2⟩) λ_ _ x=>bV.later e1 S1 x
 | false=>exact⟨H1,R.step e1 _,I1,S1⟩
theorem wc(ha:kx X a gA)(hb:lZ X (.BoolOp .Or (b::rest) pos) gB):lZ X (.BoolOp .Or (a::b::rest) pos) (qW gA gB):=by
 refine⟨λwh pins s σ H F Γ I fo rl hg=>?_⟩
 refine isTrue_or (aC (ha.run pins s σ H F Γ I fo rl (R.left hg)) (λc s1 ⟨H1,e1,I1,S1⟩=>?_) λ_ _ x=>x.bind _)
 have aW:=R.next hg e1
 cases c with
 | false=>exact aC (hb.run wh pins s1 σ H1 F Γ I1 (fo.same S1) (rl.same S1) aW) (λ_ _ ⟨H2,e2,I2,S2⟩=>⟨H2,(R.step e1 _).trans e2,I2,S1.trans S2⟩) λ_ _ x=>bV.later e1 S1 x
 | true=>exact⟨H1,R.step e1 _,I1,S1⟩
theorem wd(ha:kx X a gA):kx X (.UnaryOp .Not a pos) (pk gA):=⟨λpins s σ H F Γ I fo rl hg =>
 isTrue_not (aC (ha.run pins s σ H F Γ I fo rl (R.left hg)) (λc s1 ⟨H1,e1,I1,S1⟩=>⟨H1,R.step e1 _,I1,S1⟩) λ_ _ x=>x.bind _)⟩
theorem Y4{op}(h:PD X a ga):PD X (.BoolOp op [a] pos) ga:=⟨λpins s σ H F Γ I fo rl hg=>BoolOp_one (h.run pins s σ H F Γ I fo rl hg)⟩
theorem Y5(ha:PD X a ga)(hb:PD X (.BoolOp .And (b::rest) pos) gb):PD X (.BoolOp .And (a::b::rest) pos) (Ei ga gb):=by
 refine⟨λpins s σ H F Γ I fo rl hg=>?_⟩
 refine BoolOp_and (aC (ha.run pins s σ H F Γ I fo rl (R.left hg)) (λv s1 ⟨d,x,H1,e1,I1,r1,S1,i1⟩=>?_) λ_ _ x=>x.bind _)
 have aW:=R.next hg e1
 obtain⟨k,rfl,e2⟩:=Eh (R.left aW)
 have dH:=R.next aW e2
 rw[Is.gy.mp i1] at r1
 cases r1
 refine Ds ?_
 cases k with
 | true=>exact aC (hb.run pins s1 σ H1 F Γ I1 (fo.same S1) (rl.same S1) dH) (λ_ _ q=>dj.bind e1 S1 (dj.bind e2 (.refl _) q)) λ_ _ q=>bV.later e1 S1 (bV.later e2 (.refl _) q)
 | false=>exact dj.bind e1 S1 (dj.bind e2 (.refl _) ⟨.bl false,.bl false,H1,rfl,I1,rfl,.refl _,Is.gy.mpr rfl⟩)
theorem Y6(ha:PD X a ga):PD X (.UnaryOp .Not a pos) (Ej ga):=by
 refine⟨λpins s σ H F Γ I fo rl hg=>?_⟩
 refine UnaryOp_ (aC (ha.run pins s σ H F Γ I fo rl (R.left hg)) (λv s1 ⟨d,x,H1,e1,I1,r1,S1,i1⟩=>?_) λ_ _ x=>x.bind _)
 have aW:=R.next hg e1
 obtain⟨k,rfl,e2⟩:=Eh (R.left aW)
 rw[Is.gy.mp i1] at r1
 cases r1
 exact not_of (Ds (dj.bind e1 S1 (dj.bind e2 (.refl _) ⟨.bl (!k),.bl (!k),H1,rfl,I1,rfl,.refl _,Is.gy.mpr rfl⟩)))
theorem Y7(ha:PD X a ga):PD X (.UnaryOp .USub a pos) (xS ga):=by
 refine⟨λpins s σ H F Γ I fo rl hg=>?_⟩
 refine UnaryOp_ (aC (ha.run pins s σ H F Γ I fo rl (R.left hg)) (λv s1 ⟨d,x,H1,e1,I1,r1,S1,i1⟩=>?_) λ_ _ x=>x.bind _)
 have aW:=R.next hg e1
 cases d with
 | int i =>
   rw[Is.bO.mp i1] at r1
   obtain⟨t,rfl⟩:=r1
   exact neg_int (dj.bind e1 S1 ⟨.int (-i),.int (-i),H1,rfl,I1.tok _,⟨_,rfl⟩,.refl _,Is.bO.mpr rfl⟩)
 | _=>exact absurd rfl aW
theorem Y8(hc:kx X c gA)(ha:PD X a ga)(hb:PD X b gb):PD X (.IfExp c a b pos) (Ek gA ga gb):=by
 refine⟨λpins s σ H F Γ I fo rl hg=>?_⟩
 refine wpAny_IfExp (aC (hc.run pins s σ H F Γ I fo rl (R.left hg)) (λk s1 ⟨H1,e1,I1,S1⟩=>?_) λ_ _ x=>x.bind _)
 have aW:=R.next hg e1
 cases k with
 | true=>exact aC (ha.run pins s1 σ H1 F Γ I1 (fo.same S1) (rl.same S1) aW) (λ_ _ q=>dj.bind e1 S1 q) λ_ _ q=>bV.later e1 S1 q
 | false=>exact aC (hb.run pins s1 σ H1 F Γ I1 (fo.same S1) (rl.same S1) aW) (λ_ _ q=>dj.bind e1 S1 q) λ_ _ q=>bV.later e1 S1 q
variable {es:List Expr}{gs:G->R (List D)}
theorem aK:mZ X [] az:=⟨λpos pins s σ H F Γ I fo rl hg=>ke ⟨[],[],H,rfl,I,.nil,.refl _,aA.nil⟩⟩
theorem ar(ha:PD X e g)(hr:mZ X es gs)(hs:bA (e::es) X.env=(false,eval e X.env)::bA es X.env:=by rfl):mZ X (e::es) (ae g gs):=by
 refine⟨λpos pins s σ H F Γ I fo rl hg=>?_⟩
 rw[hs]
 show ax _ _ (gf ((false,eval e X.env)::cK pos (bA es X.env))) _ _ s
 refine iA (aC (ha.run pins s σ H F Γ I fo rl (R.left hg)) (λu s1 ⟨d,x,H1,e1,I1,r1,S1,i1⟩=>?_) λ_ _ x=>x.bind _)
 have aW:=R.next hg e1
 refine aC (hr.run pos pins s1 σ H1 F Γ I1 (fo.same S1) (rl.same S1) (R.left aW)) (λus s2 ⟨ds,vs,H2,e2,I2,r2,S2,i2⟩=>?_) λ_ _ x=>bV.later e1 S1 (x.bind _)
 exact⟨d::ds,x::vs,H2,(R.step e1 _).trans (R.step e2 _),I2,.cons r1 r2,S1.trans S2,aA.cons (i1.same S2) i2⟩
theorem tR{n:Nat}(h:n<=1000):n<=ck:=sj (Vf h)
theorem jD{H:Hp}{p:Addr}(h:H p=none)(o:HO):aT H (upd H p o):=λb u q=>by rw[bS (g_ q h)];exact q
theorem f9{x1}(h:mZ X es gs):PD X (.Tuple es x1 pos) (cq gs):=by
 refine⟨λpins s σ H F Γ I fo rl hg=>?_⟩
 refine wpAny_Tuple_spliced (aC (h.run pos pins s σ H F Γ I fo rl (R.left hg)) (λus s1 ⟨ds,vs,H1,e1,I1,r1,S1,i1⟩=>?_) λ_ _ x=>x.bind _)
 have fR:=R.next hg e1
 obtain⟨hl,e2⟩:=R.dF fR
 have hz:vs.length<=ck:=by rw[<-i1.length];exact tR hl
 refine⟨by rw[<-r1.length];exact hz,?_⟩
 have hf:H1 s1.heap.objs.size=none:=I1.aS.fresh (a7 _)
 have S2:=jD hf (.tup vs)
 refine dj.bind e1 S1 ⟨.tup ds,.ref s1.heap.objs.size,upd H1 s1.heap.objs.size (.tup vs),e2,I1.laid (t':=s1.toks) (λb u e=>bP _ e) (a7 _) ?_,rfl,S2,Is.eZ.mpr ⟨_,vs,rfl,b6.of dI,i1.same S2⟩⟩
 exact⟨hz,us,r1,⟨_,dQ _ rfl,rfl,_,rfl⟩⟩
theorem jY(h:mZ X es gs):PF X (.List es pos) (gO gs):=by
 refine⟨λpins s σ H F Γ I fo rl hg=>?_⟩
 refine wpAny_List_spliced (aC (h.run pos pins s σ H F Γ I fo rl (R.left hg)) (λus s1 ⟨ds,vs,H1,e1,I1,r1,S1,i1⟩=>?_) λ_ _ x=>x.bind _)
 have fR:=R.next hg e1
 obtain⟨⟨hl,hn⟩,e2⟩:=R.dF fR
 have hz:vs.length<=ck:=by rw[<-i1.length];exact tR hl
 refine⟨by rw[<-r1.length];exact hz,?_⟩
 have hf:H1 s1.heap.objs.size=none:=I1.aS.fresh (a7 _)
 have S2:=jD hf (.lst vs)
 have hH:H s1.heap.objs.size=none:=S1.free hf
 refine⟨ds,s1.heap.objs.size,vs,upd H1 s1.heap.objs.size (.lst vs),(R.step e1 _).trans e2,I1.laid (t':=s1.toks) (λb u e=>bP _ e) (a7 _) ?_,rfl,S1.trans S2,hH,dI,?_⟩
 ·exact⟨hz,us,0,r1,dQ _ rfl⟩
 ·exact aA.aV (((fo.same S1).same S2).cons dI) ds vs hn (i1.same S2)
end
section
variable {X:Cx}{e a b c:Expr}{g ga gb gc:G->R D}{pos:Pos}
theorem B6{f:Value->Value->Sem Value}{C:Int->Int->Prop}[∀i j,Decidable (C i j)]{v:Int->Int->V}{d:Int->Int->D}(hd:∀K H i j,Is K H (d i j) (v i j))(ho:fi X.bG f (rI C v)) :
 gE X f (λx y=>match x,y with | .int i,.int j=>R.guard (C i j) (.ok (d i j)) | _,_=>.no):=by
 refine⟨_,ho,λH x y dx dy ix iy hg=>?_⟩
 cases dx with
 | int i =>
   cases dy with
   | int j =>
     obtain⟨hc,e⟩:=R.dF (show R.guard (C i j) (.ok (d i j)) ≠ .no from hg)
     exact⟨i,j,Is.bO.mp ix,Is.bO.mp iy,hc,d i j,e,.refl _,hd _ _ _ _⟩
   | _=>exact absurd rfl hg
 | _=>exact absurd rfl hg
theorem B7{f:Value->Value->Sem Value}{v:Int->Int->V}{d:Int->Int->D}(hd:∀K H i j,Is K H (d i j) (v i j))(ho:fi X.bG f (qS v)) :
 gE X f (λx y=>match x,y with | .int i,.int j=>.ok (d i j) | _,_=>.no):=by
 refine⟨_,ho,λH x y dx dy ix iy hg=>?_⟩
 cases dx with
 | int i =>
   cases dy with
   | int j=>exact⟨i,j,Is.bO.mp ix,Is.bO.mp iy,d i j,rfl,.refl _,hd _ _ _ _⟩
   | _=>exact absurd rfl hg
 | _=>exact absurd rfl hg
theorem tS:gE X (iS .Sub) kg:=B7 (d:=λi j=>.int (i-j)) (λ_ _ _ _=>Is.bO.mpr rfl) Ua
theorem pP:gE X (iS .FloorDiv) hJ:=B6 (d:=λi j=>.int (i/j)) (λ_ _ _ _=>Is.bO.mpr rfl) (C:=λi j=>0<j/\j<1073741824) Uc
theorem i7:gE X (iS .Mod) df:=B6 (d:=λi j=>.int (i%j)) (λ_ _ _ _=>Is.bO.mpr rfl) (C:=λi j=>0<j) Ud
theorem Gy:gE X (oQ .Lt) qY:=B7 (d:=λi j=>.bl (decide (i<j))) (λ_ _ _ _=>Is.gy.mpr rfl) Ue
theorem Y9:gE X (oQ .LtE) xT:=B7 (d:=λi j=>.bl (decide (i<=j))) (λ_ _ _ _=>Is.gy.mpr rfl) Ug
theorem O9:gE X (oQ .Gt) A7:=B7 (d:=λi j=>.bl (decide (j<i))) (λ_ _ _ _=>Is.gy.mpr rfl) Uh
def Y_(K:aD):R2:=λx y H Q=>∃a b xs ys,x = .ref a/\y = .ref b/\b6 K H a xs/\b6 K H b ys/\xs.length+ys.length<=ck /\
 (xs=[]->Q (.ref b) H)/\(xs≠[]->ys=[]->Q (.ref a) H)/\(xs≠[]->ys≠[]->∀p,H p=none->Q (.ref p) (upd H p (.tup (xs++ys))))
theorem Za:fi X (iS .Add) (Y_ X.K):=by
 intro pins s σ H x y v u Q I rx ry h
 obtain⟨a,b,xs,ys,rfl,rfl,ha,hb,hz,q0,q1,q2⟩:=h
 by_cases hx:xs=[]
 ·cases rx
  cases ry
  obtain⟨its,r1,p1,_⟩:=I.tuple ha
  obtain⟨oh,r2,p2,_⟩:=I.tuple hb
  have hi:its=[]:=r1.jq.mpr hx
  obtain⟨⟨cls,dd,data,sl⟩,ho,hc,n,hd⟩:=id p1
  obtain⟨⟨Ur,AZ,data2,A0⟩,ph,n_,n2,hd2⟩:=id p2
  simp only at hc hd n_ hd2
  subst hc hd n_ hd2
  exact JL ⟨_,ho,rfl⟩ ⟨_,ph,rfl⟩ RK RL RM RN (RO _ _)
   (tuple_addW0 a b its.toArray oh.toArray n n2 dd AZ sl A0 (by rw[hi];rfl)) ⟨ho,ph,⟨.ref b,H,I,rfl,q0 hx⟩⟩
 ·exact UA pins s σ H _ _ v u Q I rx ry ⟨a,b,xs,ys,rfl,rfl,ha,hb,hx,hz,q1 hx,q2 hx⟩
theorem f_:gE X (iS .Add) b7:=by
 refine⟨_,fi.or (T_ (X:=X.bG)) (Za (X:=X.bG)),λH x y dx dy ix iy hg=>?_⟩
 cases dx with
 | int i =>
   cases dy with
   | int j=>exact .inl ⟨i,j,Is.bO.mp ix,Is.bO.mp iy,.int (i+j),rfl,.refl _,Is.bO.mpr rfl⟩
   | _=>exact absurd rfl hg
 | tup ds =>
   cases dy with
   | tup es =>
     obtain⟨hc,e⟩:=R.dF (show R.guard (ds.length+es.length<=1000) (R.ok (D.tup (ds++es)))≠R.no from hg)
     obtain⟨a,xs,rfl,h1,h2⟩:=Is.eZ.mp ix
     obtain⟨b,ys,rfl,h3,h4⟩:=Is.eZ.mp iy
     refine .inr ⟨a,b,xs,ys,rfl,rfl,h1,h3,by rw[<-h2.length,<-h4.length];exact tR hc,λz=>?_,λz z'=>?_,λz z' p hp=>?_⟩
     ·refine⟨.tup (ds++es),e,.refl _,Is.eZ.mpr ⟨b,ys,rfl,h3,?_⟩⟩
      have:ds=[]:=List.length_eq_zero_iff.mp (by rw[h2.length,z];rfl)
      rw[this];exact h4
     ·refine⟨.tup (ds++es),e,.refl _,Is.eZ.mpr ⟨a,xs,rfl,h1,?_⟩⟩
      have:es=[]:=List.length_eq_zero_iff.mp (by rw[h4.length,z'];rfl)
      rw[this,lu];exact h2
     ·have S:=jD hp (.tup (xs++ys))
      exact⟨.tup (ds++es),e,S,Is.eZ.mpr ⟨p,xs++ys,rfl,b6.of dI,(h2.append h4).same S⟩⟩
   | _=>exact absurd rfl hg
 | _=>exact absurd rfl hg
theorem Zb(l:Addr)(items:Array Value)(n:Nat)(dd:Option Addr)(sl:Array (Option Value))(k:Int)(u:Tok)(h1:(decide (k < -(2^63))||decide (k≥2^63))=false)(hc:(items.isEmpty||k==1)=true) :
 Dt (g9.«tuple.__mul__» ⟨[.ref l,.int k u],[]⟩) (λ_ Q s=>s.heap.get? l=some { cls:=.type "tuple",dict:=dd,data:=.seq items n,slots:=sl }/\Q (.ok (.ret (c_ l))) s) :=
 .of_wp λprog w A Q s h=>by obtain⟨hp,g,d,tk,os⟩:=s;obtain⟨hl,h⟩:=h;have f1:=Sw;wp_walk using wpAny_loadPart' hl;refine Kg (by rw[h1];rfl) ?_;wp_walk using wpAny_loadPart' hl;exact⟨_,rfl,h⟩
theorem Zc(l:Addr)(items:Array Value)(n:Nat)(dd:Option Addr)(sl:Array (Option Value))(k:Int)(u:Tok)(h1:(decide (k < -(2^63))||decide (k≥2^63))=false)(hc:(items.isEmpty||k==1)=false)(n_:(decide (k<=0)||items.isEmpty)=true) :
 Dt (g9.«tuple.__mul__» ⟨[.ref l,.int k u],[]⟩) (λ_ Q s=>s.heap.get? l=some { cls:=.type "tuple",dict:=dd,data:=.seq items n,slots:=sl }/\Q (.ok (.ret (c_ s.heap.objs.size))) { s with heap:=s.heap.push { cls:=.type "tuple",data:=.seq #[] } }) :=
 .of_wp λprog w A Q s h=>by obtain⟨hp,g,d,tk,os⟩:=s;obtain⟨hl,h⟩:=h;have f1:=Sw;wp_walk using wpAny_loadPart' hl;refine Kg (by rw[h1];rfl) ?_;wp_walk using wpAny_loadPart' hl;exact⟨_,rfl,h⟩
theorem Zd(l:Addr)(items:Array Value)(n:Nat)(dd:Option Addr)(sl:Array (Option Value))(k:Int)(u:Tok)(h1:(decide (k < -(2^63))||decide (k≥2^63))=false)(hc:(items.isEmpty||k==1)=false)(n_:(decide (k<=0)||items.isEmpty)=false)(Ze:¬((items.size:Int)*k>(2^63-1)/8))(hc4:a6i ((items.size:Int)*k)=false)(hc5:¬((dD k.toNat items).foldl (λx1 x2=>x1++x2) #[]).size>ck) :
 Dt (g9.«tuple.__mul__» ⟨[.ref l,.int k u],[]⟩) (λ_ Q s=>s.heap.get? l=some { cls:=.type "tuple",dict:=dd,data:=.seq items n,slots:=sl }/\Q (.ok (.ret (c_ s.heap.objs.size))) { s with heap:=s.heap.push { cls:=.type "tuple",data:=.seq ((dD k.toNat items).foldl (·++·) #[]) } }) :=
 .of_wp λprog w A Q s h=>by obtain⟨hp,g,d,tk,os⟩:=s;obtain⟨hl,h⟩:=h;have f1:=Sw;wp_walk using wpAny_loadPart' hl;refine Kg (by rw[h1];rfl) ?_;wp_walk using wpAny_loadPart' hl;refine Kg (decide_eq_false Ze) ?_;wp_walk using wpAny_loadPart' hl;exact⟨_,rfl,h⟩
theorem Zf:fillsNumberSlot (.type "tuple") "mul"=pure false :=
 PySem.fillsNumberSlot_seq (id:="tuple.__mul__") (r:=some (.builtin "tuple.__rmul__")) F.slot_tuple_mul.lookup (by decide +kernel) F.slot_tuple_rmul.lookup (by decide +kernel)
theorem Zg:seqRepeat? (.type "tuple")=pure (some (.builtin "tuple.__mul__")):=by
 unfold seqRepeat?
 rw[a6j (T:="tuple") (name:="__mul__") (id:="tuple.__mul__") F.slot_tuple_mul.lookup (by decide +kernel),a6j (T:="tuple") (name:="__rmul__") (id:="tuple.__rmul__") F.slot_tuple_rmul.lookup (by decide +kernel)]
 rfl
theorem Zh(a:Int)(t:Tok)(l:Addr)(items:Array Value)(n:Nat)(dd:Option Addr)(sl:Array (Option Value)) :
 Dt (g9.«int.__rmul__» ⟨[.int a t,.ref l],[]⟩) (λ_ Q s=>s.heap.get? l=some { cls:=.type "tuple",dict:=dd,data:=.seq items n,slots:=sl }/\Q (.ok (.ret Value.notImplemented)) s) :=
 .of_wp λprog w A Q s h=>by obtain⟨hp,g,d,tk,os⟩:=s;obtain⟨hl,h⟩:=h;wp_walk;exact⟨_,rfl,h⟩
def Zi(K:aD):R2:=λx y H Q=>∃l k xs,x = .ref l/\y = .int k/\b6 K H l xs/\0<=k/\k<1000000/\xs.length*k.toNat<=1000 /\
 ((xs=[]∨k=1)->Q (.ref l) H)/\(xs≠[]->k≠1->∀p,H p=none->Q (.ref p) (upd H p (.tup (dD k.toNat xs).flatten)))
theorem Zj:fi X (iS .Mult) (Zi X.K):=by
 intro pins s σ H x y v u Q I rx ry h
 obtain⟨l,k,xs,rfl,rfl,hH,h1,h2,hz,q0,q1⟩:=h
 cases rx
 obtain⟨t,rfl⟩:=ry
 obtain⟨its,r,p1,hz2⟩:=I.tuple hH
 have hl:its.length=xs.length:=r.length.symm
 obtain⟨⟨cls,dd,data,sl⟩,ho,hc,n,hd⟩:=id p1
 simp only at hc hd
 subst hc hd
 have hb:(decide (k < -(2^63))||decide (k≥2^63))=false:=by
  rw[decide_eq_false (by lia),decide_eq_false (by lia)];rfl
 refine wpAny_binaryOp_repeat_ref (T:="tuple") (U:="int") (by decide) ⟨_,ho,rfl⟩ (λs'=>typeIs_int s' k t) Zf F.fills_int_mul a6k Zg F.slot_int_index.lookup
  (w_ a6k (typeIs_int s k t) F.entry_int_rmul (F.args_int_rmul_2 _ _) (Zh k t l its.toArray n dd sl) ⟨ho,rfl,⟨_,ho,rfl⟩,?_⟩)
 by_cases c1:xs=[]∨k=1
 ·have rC:(its.toArray.isEmpty||k==1)=true:=by
   rcases c1 with c | c
   ·have:its=[]:=List.length_eq_zero_iff.mp (by rw[hl,c];rfl)
    rw[this];rfl
   ·rw[c];simp
  exact w_ Sy ⟨_,ho,rfl⟩ Sz (SA _ _) (Zb l its.toArray n dd sl k t hb rC) ⟨ho,⟨.ref l,H,I,rfl,q0 c1⟩⟩
 ·have hx:xs≠[]:=λe=>c1 (.inl e)
  have Gz:k≠1:=λe=>c1 (.inr e)
  have a8:its≠[]:=λe=>hx (List.length_eq_zero_iff.mp (by rw[<-hl,e];rfl))
  have he:its.toArray.isEmpty=false:=by cases its with | nil=>exact absurd rfl a8 | cons a b=>rfl
  have rC:(its.toArray.isEmpty||k==1)=false:=by rw[he];simpa using Gz
  by_cases c2:k<=0
  ·have Zk:k=0:=by lia
   refine w_ Sy ⟨_,ho,rfl⟩ Sz (SA _ _) (Zc l its.toArray n dd sl k t hb rC (by rw[decide_eq_true c2];rfl)) ⟨ho,?_⟩
   have e0:(dD k.toNat xs).flatten=[]:=by rw[Zk];rfl
   refine⟨.ref s.heap.objs.size,_,I.laid (t':=s.toks) (o:=.tup (dD k.toNat xs).flatten) (λb ob q=>bP _ q) (a7 _) ?_,rfl,q1 hx Gz _ (I.aS.fresh (a7 _))⟩
   rw[e0]
   exact⟨by decide,[],.nil,⟨_,dQ _ rfl,rfl,_,rfl⟩⟩
  ·have f0:∀m:Nat,List.foldl (λx1 x2=>x1++x2) #[] (dD m its.toArray)=(dD m its).flatten.toArray:=λm=>by
    have:=Lp its m []
    rw[JW] at this
    exact this
   have Zl:(dD k.toNat its).flatten.length<=1000:=by rw[Ls,hl,sC];exact hz
   have iF:(its.toArray.size:Int)*k<=1000:=by
    rw[dc,hl,show k=((k.toNat:Nat):Int) by lia]
    exact_mod_cast hz
   refine w_ Sy ⟨_,ho,rfl⟩ Sz (SA _ _) (Zd l its.toArray n dd sl k t hb rC (by rw[decide_eq_false c2,he];rfl) (by lia) ?_ ?_) ⟨ho,?_⟩
   ·unfold a6i
    have:(1000:Int)<=(ck:Int):=by decide
    exact decide_eq_false (by lia)
   ·rw[f0,dc]
    have:=tR Zl
    lia
   ·rw[f0]
    refine⟨.ref s.heap.objs.size,_,I.laid (t':=s.toks) (o:=.tup (dD k.toNat xs).flatten) (λb ob q=>bP _ q) (a7 _) ?_,rfl,q1 hx Gz _ (I.aS.fresh (a7 _))⟩
    exact⟨by rw[Ls,sC];exact tR hz,_,r.rep k.toNat,⟨_,dQ _ rfl,rfl,_,rfl⟩⟩
theorem aA.rep{K:aD}{H:Hp}{ds:List D}{xs:List V}(h:aA K H ds xs):∀n:Nat,aA K H (dD n ds).flatten (dD n xs).flatten
 | 0=>aA.nil
 | n+1=>by rw[oU,w0,oU,w0];exact h.append (aA.rep h n)
theorem oE:gE X (iS .Mult) cX:=by
 refine⟨_,fi.or (Ub (X:=X.bG)) (Zj (X:=X.bG)),λH x y dx dy ix iy hg=>?_⟩
 cases dx with
 | int i =>
   cases dy with
   | int j =>
     obtain⟨hc,e⟩:=R.dF (show R.guard (sW i j) (R.ok (D.int (i*j)))≠R.no from hg)
     refine .inl ⟨i,j,Is.bO.mp ix,Is.bO.mp iy,?_,.int (i*j),e,.refl _,Is.bO.mpr rfl⟩
     unfold sW lE at hc
     show(-(2^64)<i/\i<2^64)∨(-(2^64)<j/\j<2^64)
     lia
   | _=>exact absurd rfl hg
 | tup ds =>
   cases dy with
   | int j =>
     obtain⟨⟨rC,n_⟩,e⟩:=R.dF (show R.guard (0<=j/\j<1000000/\ds.length*j.toNat<=1000) (R.ok (D.tup (dD j.toNat ds).flatten))≠R.no from hg)
     obtain⟨a,xs,rfl,h1,h2⟩:=Is.eZ.mp ix
     have i6:=h2.length
     refine .inr ⟨a,j,xs,rfl,Is.bO.mp iy,h1,rC,n_.1,by rw[<-i6];exact n_.2,λc=>?_,λz z' p hp=>?_⟩
     ·refine⟨_,e,.refl _,Is.eZ.mpr ⟨a,xs,rfl,h1,?_⟩⟩
      rcases c with c | c
      ·have:ds=[]:=List.length_eq_zero_iff.mp (by rw[i6,c];rfl)
       rw[this,c]
       have e2:∀m:Nat,(dD m ([]:List D)).flatten=[]:=λm=>by simp
       rw[e2];exact aA.nil
      ·subst c
       show aA X.K H (dD 1 ds).flatten xs
       rw[show(dD 1 ds).flatten=ds by simp];exact h2
     ·have S:=jD hp (.tup (dD j.toNat xs).flatten)
      exact⟨_,e,S,Is.eZ.mpr ⟨p,_,rfl,b6.of dI,(h2.rep _).same S⟩⟩
   | _=>exact absurd rfl hg
 | _=>exact absurd rfl hg
mutual
def D.py:D->PyData
 | .b_=>.none
 | .bl b=>.bool b
 | .int i=>.int i
 | .str x=>.str x
 | .tup ds=>.tuple (D.cS ds)
 | .lst ds=>.list (D.cS ds)
 | .jR=>.dict []
 | .exc _=>.dict []
def D.cS:List D->List PyData
 | []=>[]
 | d::ds=>d.py::D.cS ds
end
mutual
theorem oF:∀(n:Nat) (d:D),D.lay n d=true->d.py.canLay0=true/\d.py.depth<=n
 | n,.b_,_=>by simp[D.py,sG,As]
 | n,.bl _,_=>by simp[D.py,sG,As]
 | n,.int _,_=>by simp[D.py,sG,As]
 | n,.str x,h=>by
   have h':PyData.strOk x=true:=by have:=h;rw[A9] at this;exact this
   simp[D.py,sG,As,h']
 | 0,.tup ds,h=>by simp[D.lay] at h
 | 0,.lst ds,h=>by simp[D.lay] at h
 | n+1,.tup ds,h=>by
   have q:=GA n ds (by simpa [D.lay] using h)
   constructor
   ·simpa [D.py,sG] using q.1
   ·have:=q.2
    simp only[D.py,As];lia
 | n+1,.lst ds,h=>by
   have q:=GA n ds (by simpa [D.lay] using h)
   constructor
   ·simpa [D.py,sG] using q.1
   ·have:=q.2
    simp only[D.py,As];lia
 | n,.jR,h=>by cases n<;>simp[D.lay] at h
 | n,.exc _,h=>by cases n<;>simp[D.lay] at h
theorem GA:∀(n:Nat) (ds:List D),D.lF n ds=true->Au (D.cS ds)=true/\Av (D.cS ds)<=n
 | n,[],_=>by simp[D.cS,Au,Av]
 | n,d::ds,h=>by
   have h':D.lay n d=true/\D.lF n ds=true:=by simpa [D.lF] using h
   have q1:=oF n d h'.1
   have q2:=GA n ds h'.2
   constructor
   ·simp[D.cS,Au,q1.1,q2.1]
   ·have:=q1.2;have:=q2.2
    simp only[D.cS,Av];lia
end
mutual
theorem oG{pins:List (Addr×Obj)}{σ:St}{H:Hp}{s:ai}(I:Inv X pins σ H s):∀(n:Nat) (d:D) (v:V) (u:Value),D.lay n d=true->Is X.K H d v->RelV v u->∃as,Reads s.heap u d.py as
 | _,.b_,v,u,_,i,r=>by
   rw[Is.B4.mp i] at r;cases (show u=kE from r)
   exact⟨_,.none⟩
 | _,.bl b,v,u,_,i,r=>by
   rw[Is.gy.mp i] at r;cases (show u=JB b from r)
   exact⟨_,.bool b⟩
 | _,.int k,v,u,_,i,r=>by
   rw[Is.bO.mp i] at r
   obtain⟨t,rfl⟩:=(show ∃t,u=lh k t from r)
   exact⟨_,.int k t⟩
 | _,.str x,v,u,_,i,r=>by
   rw[Is.Gv.mp i] at r
   obtain⟨t,rfl⟩:=(show ∃t,u=JA x t from r)
   exact⟨_,.str x t⟩
 | 0,.tup ds,v,u,h,_,_=>by simp[D.lay] at h
 | 0,.lst ds,v,u,h,_,_=>by simp[D.lay] at h
 | n+1,.tup ds,v,u,h,i,r=>by
   obtain⟨a,xs,rfl,h1,h2⟩:=Is.eZ.mp i
   cases (show u=c_ a from r)
   obtain⟨its,rv,⟨o,ho,hc,m,hd⟩,_⟩:=I.tuple h1
   obtain⟨as,ra⟩:=GB I n ds xs its (by simpa [D.lay] using h) h2 rv
   exact⟨as,by unfold D.py;exact .tuple ho hc hd (by simpa using ra)⟩
 | n+1,.lst ds,v,u,h,i,r=>by
   obtain⟨a,xs,rfl,h1,h2⟩:=Is.fA.mp i
   cases (show u=c_ a from r)
   obtain⟨its,rv,⟨o,m,ho,hc,_,hd⟩,_⟩:=I.list h1
   obtain⟨as,ra⟩:=GB I n ds xs its (by simpa [D.lay] using h) h2 rv
   exact⟨a::as,by unfold D.py;exact .list ho hc hd (by simpa using ra)⟩
 | n,.jR,v,u,h,_,_=>by cases n<;>simp[D.lay] at h
 | n,.exc _,v,u,h,_,_=>by cases n<;>simp[D.lay] at h
theorem GB{pins:List (Addr×Obj)}{σ:St}{H:Hp}{s:ai}(I:Inv X pins σ H s):∀(n:Nat) (ds:List D) (xs:List V) (us:List Value),D.lF n ds=true->aA X.K H ds xs->Vals xs us->∃as,ReadsAll s.heap us (D.cS ds) as
 | n,[],xs,us,_,i,r=>by
   rw[aA.jq.mp i] at r
   cases r
   exact⟨_,by unfold D.cS;exact .nil⟩
 | n,d::ds,xs,us,h,i,r=>by
   obtain⟨x,r',rfl,h1,h2⟩:=aA.gD.mp i
   have h':D.lay n d=true/\D.lF n ds=true:=by simpa [D.lF] using h
   cases r with
   | cons q1 q2 =>
     obtain⟨as,ra⟩:=oG I n d x _ h'.1 h1 q1
     obtain⟨bs,rb⟩:=GB I n ds r' _ h'.2 h2 q2
     exact⟨as++bs,by unfold D.cS;exact .cons ra rb⟩
end
mutual
theorem yU:∀x y:D,bF x y=oY x.py y.py
 | .b_,y=>by cases y<;>simp[bF,D.py,oY]
 | .bl _,y=>by cases y<;>simp[bF,D.py,oY]
 | .int _,y=>by cases y<;>simp[bF,D.py,oY]
 | .str _,y=>by cases y<;>simp[bF,D.py,oY]
 | .jR,y=>by cases y<;>simp[bF,D.py,oY]
 | .exc _,y=>by cases y<;>simp[bF,D.py,oY]
 | .tup xs,y=>by
   cases y with
   | tup ys=>rw[bF,D.py,D.py,oY,GC xs ys]
   | _=>simp[bF,D.py,oY]
 | .lst xs,y=>by
   cases y with
   | lst ys=>rw[bF,D.py,D.py,oY,GC xs ys]
   | _=>simp[bF,D.py,oY]
theorem GC:∀xs ys:List D,kM xs ys=Du (D.cS xs) (D.cS ys)
 | [],[]=>by simp[kM,D.cS,Du]
 | [],_::_=>by simp[kM,D.cS,Du]
 | _::_,[]=>by simp[kM,D.cS,Du]
 | x::xs,y::ys=>by rw[kM,D.cS,D.cS,Du,yU x y,GC xs ys]
end
theorem ky(hu:X.A.units+64<fU):gE X (oQ .Eq) eV:=by
 refine⟨λx y H Q=>∃dx dy,Is X.K H dx x/\Is X.K H dy y/\D.lay 40 dx=true/\D.lay 40 dy=true/\Q (.bl (bF dx dy)) H,?_,λH x y dx dy ix iy hg=>?_⟩
 ·intro pins s σ H x y v u Q I rx ry h
  obtain⟨dx,dy,ix,iy,l1,l2,q⟩:=h
  obtain⟨as,ra⟩:=oG I 40 dx x v l1 ix rx
  obtain⟨bs,rb⟩:=oG I 40 dy y u l2 iy ry
  have p1:=oF 40 dx l1
  have p2:=oF 40 dy l2
  have kT:X.A.units+64<fU:=hu
  refine PySem.SeqAt.compareEq_reads ra rb p1.1 p2.1 (show X.A.units+min dx.py.depth dy.py.depth<fU by lia) ⟨.bl (bF dx dy),H,I,by rw[yU];rfl,q⟩
 ·obtain⟨⟨l1,l2⟩,e⟩:=R.dF hg
  exact⟨dx,dy,ix,iy,l1,l2,.bl (bF dx dy),e,.refl _,Is.gy.mpr rfl⟩
theorem tU(hu:X.A.units+64<fU):gE X (oQ .NotEq) iG:=by
 refine⟨λx y H Q=>∃dx dy,Is X.K H dx x/\Is X.K H dy y/\D.lay 40 dx=true/\D.lay 40 dy=true/\Q (.bl (!bF dx dy)) H,?_,λH x y dx dy ix iy hg=>?_⟩
 ·intro pins s σ H x y v u Q I rx ry h
  obtain⟨dx,dy,ix,iy,l1,l2,q⟩:=h
  obtain⟨as,ra⟩:=oG I 40 dx x v l1 ix rx
  obtain⟨bs,rb⟩:=oG I 40 dy y u l2 iy ry
  have p1:=oF 40 dx l1
  have p2:=oF 40 dy l2
  have kT:X.A.units+64<fU:=hu
  refine PySem.SeqAt.compareNe_reads ra rb p1.1 p2.1 (show X.A.units+min dx.py.depth dy.py.depth<fU by lia) ⟨.bl (!bF dx dy),H,I,by rw[yU];rfl,q⟩
 ·obtain⟨⟨l1,l2⟩,e⟩:=R.dF hg
  exact⟨dx,dy,ix,iy,l1,l2,.bl (!bF dx dy),e,.refl _,Is.gy.mpr rfl⟩
theorem aA.bX{K:aD}{H:Hp}{ds:List D}{xs:List V}{i:Int}{d:D}(h:aA K H ds xs)(e:bX ds i=some d):∃x,L2.bX xs i=some x/\Is K H d x:=by
 unfold L2.bX
 unfold L3.bX at e
 rw[<-h.length]
 show ∃x,((L3.hG ds.length i).bind λj=>xs[j]?)=some x/\Is K H d x
 cases q:L3.hG ds.length i with
 | none=>rw[q] at e;cases e
 | some j =>
   rw[q] at e
   exact h.get (by simpa using e)
theorem bR(ha:PD X a ga)(hb:PD X b gb)(hs:UB b:=by intro _ _;rfl):PD X (.Subscript a b pos) (ao aL ga gb):=by
 refine⟨λpins s σ H F Γ I fo rl hg=>?_⟩
 refine Subscript_ (aC (ha.run pins s σ H F Γ I fo rl (R.left hg)) (λv s1 ⟨dx,x,H1,e1,I1,r1,S1,i1⟩=>?_) λ_ _ x=>x.bind _)
 have aW:=R.next hg e1
 refine aC (hb.run pins s1 σ H1 F Γ I1 (fo.same S1) (rl.same S1) (R.left aW)) (λu s2 ⟨dy,y,H2,e2,I2,r2,S2,i2⟩=>?_) λ_ _ x=>bV.later e1 S1 (x.bind _)
 have dH:=R.next aW e2
 have we:=i1.same S2
 have fin:∀(d:D) (z:V),aL dx dy = .ok d->Is X.K H2 d z->∀(w':Value) (s':ai),EP X.bG pins σ (λz' H'=>z'=z/\H'=H2) w' s'->dj X pins σ H (ao aL ga gb Γ) w' s':=λd z ed iz w' s' ⟨z',H',I',rz,ez,eH⟩=>by
  subst ez eH
  exact dj.bind e1 S1 (dj.bind e2 S2 ⟨d,z',H',ed,I'.dr,rz,.refl _,iz⟩)
 cases dx with
 | tup ds =>
   cases dy with
   | int i =>
     obtain⟨p,xs,rfl,h1,h2⟩:=Is.eZ.mp we
     cases q:bX ds i with
     | none=>exact absurd (show aL (.tup ds) (.int i) = .no by simp only[aL,q]) dH
     | some d =>
       obtain⟨z,ez,iz⟩:=h2.bX q
       exact aC (UG (X:=X.bG) a b pins s2 σ H2 _ y v u _ (I2.cZ _) r1 r2 ⟨p,xs,i,z,rfl,Is.bO.mp i2,h1,ez,rfl,rfl⟩ (hs _ _)) (λw' s' h=>fin d z (by show aL (.tup ds) (.int i) = .ok d;simp only[aL,q]) iz w' s' h) λ_ _ z=>cT z
   | _=>exact absurd rfl dH
 | lst ds =>
   cases dy with
   | int i =>
     obtain⟨p,xs,rfl,h1,h2⟩:=Is.fA.mp we
     cases q:bX ds i with
     | none=>exact absurd (show aL (.lst ds) (.int i) = .no by simp only[aL,q]) dH
     | some d =>
       obtain⟨z,ez,iz⟩:=h2.bX q
       exact aC (UE (X:=X.bG) a b pins s2 σ H2 _ y v u _ (I2.cZ _) r1 r2 ⟨p,xs,i,z,rfl,Is.bO.mp i2,h1,ez,rfl,rfl⟩ (hs _ _)) (λw' s' h=>fin d z (by show aL (.lst ds) (.int i) = .ok d;simp only[aL,q]) iz w' s' h) λ_ _ z=>cT z
   | _=>exact absurd rfl dH
 | _=>exact absurd rfl dH
variable {x:Str}{p:Pos}{es:List Expr}{gs:G->R (List D)}{O_ T:String}
def oH(X:Cx)(f:Value)(g:List D->R D):Prop:=∃r:List V->Hp->VK->Prop,lB X.bG f r/\∀H xs ds,aA X.K H ds xs->g ds ≠ .no->r xs H λz H'=>∃d,g ds = .ok d/\aT H H'/\Is X.K H' d z
theorem oH.run{f:Value}{g:List D->R D}(h:oH X f g){pins:List (Addr×Obj)}{s:ai}{σ:St}{H:Hp}{xs:List V}{us:List Value}{ds:List D}(I:Inv X pins σ H s)(r:Vals xs us)(i:aA X.K H ds xs)(hg:g ds ≠ .no){E:Value->ai->Prop} :
 ax (aF X.prog X.w) X.A (call f us) (dj X pins σ H (g ds)) E s:=by
 obtain⟨r',ho,hr⟩:=h
 exact aC (ho pins s σ H xs us _ (I.cZ _) r (hr H xs ds i hg)) (λ_ _ ⟨z,H',I',rz,d,e,S,i⟩=>⟨d,z,H',e,I'.dr,rz,S,i⟩) λ_ _ z=>cT z
theorem kz{g:List D->R D}(hc:oH X (.builtin O_) g)(hm:X.mg x=none)(hv:oN x=some (.builtin O_))(ha:mZ X (e::es) gs)(hg:Gl X x:=by rfl)(hn:x≠"__name__":=by decide)(jZ:(x==("__debug__":Str))=false:=by decide)
 (he:bA (e::es) X.env=(false,eval e X.env)::bA es X.env:=by rfl) (fM:(cK pos (bA es X.env)).any (·.1)=false:=by rfl):PD X (.Call (.Name x p) (e::es) [] pos) (aH g gs):=by
 refine⟨λpins s σ H F Γ I fo rl cw=>?_⟩
 refine mB (iE I hg hm hv ?_ hn jZ)
 refine Kh (aC (ha.run pos pins s σ H F Γ I fo rl (R.left cw)) (λus s1 ⟨ds,vs,H1,e1,I1,r1,S1,i1⟩=>?_) λ_ _ x=>x.bind _) he fM
 exact eM (hc.run I1 r1 i1 (R.next cw e1)) λ_ _ q=>dj.bind e1 S1 q
theorem kX{g:List D->R D}(hc:oH X (.type T) g)(hm:X.mg x=none)(hv:oN x=some (.type T))(ha:mZ X (e::es) gs)(hg:Gl X x:=by rfl)(hn:x≠"__name__":=by decide)(jZ:(x==("__debug__":Str))=false:=by decide)
 (he:bA (e::es) X.env=(false,eval e X.env)::bA es X.env:=by rfl) (fM:(cK pos (bA es X.env)).any (·.1)=false:=by rfl):PD X (.Call (.Name x p) (e::es) [] pos) (aH g gs):=by
 refine⟨λpins s σ H F Γ I fo rl cw=>?_⟩
 refine mB (iE I hg hm hv ?_ hn jZ)
 refine uU (aC (ha.run pos pins s σ H F Γ I fo rl (R.left cw)) (λus s1 ⟨ds,vs,H1,e1,I1,r1,S1,i1⟩=>?_) λ_ _ x=>x.bind _) he fM
 exact eM (hc.run I1 r1 i1 (R.next cw e1)) λ_ _ q=>dj.bind e1 S1 q
theorem oI{K:aD}{H:Hp}{d:D}{xs:List V}(h:aA K H [d] xs):∃v,xs=[v]/\Is K H d v:=by
 obtain⟨x,r,rfl,h1,h2⟩:=aA.gD.mp h
 rw[aA.jq.mp h2]
 exact⟨x,rfl,h1⟩
theorem Zm{K:aD}{H:Hp}{d d':D}{xs:List V}(h:aA K H [d,d'] xs):∃v v',xs=[v,v']/\Is K H d v/\Is K H d' v':=by
 obtain⟨x,r,rfl,h1,h2⟩:=aA.gD.mp h
 obtain⟨v,rfl,h3⟩:=oI h2
 exact⟨x,v,rfl,h1,h3⟩
theorem pQ:oH X (.builtin "len") jS:=by
 refine⟨_,UQ (X:=X.bG),λH xs ds i hg=>?_⟩
 unfold jS at hg
 split at hg
 ·rename_i ys
  obtain⟨v,rfl,h⟩:=oI i
  obtain⟨a,zs,rfl,h1,h2⟩:=Is.eZ.mp h
  exact⟨a,zs,rfl,.inr h1,.int ys.length,rfl,.refl _,Is.bO.mpr (by rw[h2.length])⟩
 ·rename_i ys
  obtain⟨v,rfl,h⟩:=oI i
  obtain⟨a,zs,rfl,h1,h2⟩:=Is.fA.mp h
  exact⟨a,zs,rfl,.inl h1,.int ys.length,rfl,.refl _,Is.bO.mpr (by rw[h2.length])⟩
 ·exact absurd rfl hg
theorem l9:oH X (.type "tuple") h_:=by
 refine⟨_,US (X:=X.bG),λH xs ds i hg=>?_⟩
 unfold h_ at hg
 split at hg
 ·rename_i ys
  obtain⟨v,rfl,h⟩:=oI i
  obtain⟨a,zs,rfl,h1,h2⟩:=Is.eZ.mp h
  exact⟨a,zs,rfl,.inr ⟨h1,.tup ys,rfl,.refl _,h⟩⟩
 ·rename_i ys
  obtain⟨v,rfl,h⟩:=oI i
  obtain⟨a,zs,rfl,h1,h2⟩:=Is.fA.mp h
  refine⟨a,zs,rfl,.inl ⟨h1,λl hl=>?_⟩⟩
  have S:=jD hl (.tup zs)
  exact⟨.tup ys,rfl,S,Is.eZ.mpr ⟨l,zs,rfl,b6.of dI,h2.same S⟩⟩
 ·exact absurd rfl hg
theorem Zn(hc:X.calm=true):oH X (.builtin "min") Bc:=by
 refine⟨_,Uj (X:=X.bG) hc,λH xs ds i hg=>?_⟩
 unfold Bc at hg
 split at hg
 ·rename_i i' j'
  obtain⟨v,v',rfl,h,h'⟩:=Zm i
  exact⟨i',j',by rw[Is.bO.mp h,Is.bO.mp h'],_,rfl,.refl _,Is.bO.mpr rfl⟩
 ·exact absurd rfl hg
theorem Zo(hc:X.calm=true):lB X (.builtin "sum") (λxs H Q=>∃(a:Addr) (ns:List Int),xs=[.ref a]/\bM X.K H a (ns.map V.int)/\Q (.int ns.sum) H):=by
 intro pins s σ H xs us Q I r h
 obtain⟨a,ns,rfl,hq,q⟩:=h
 obtain⟨u,rfl,ru⟩:=sQ r
 cases ru
 obtain⟨its,rv,pl,_⟩:=I.list hq
 have hi:kF its ns:=intsAre_of rv
 obtain⟨ys,hy⟩:=hi.allInts.items
 have hl:=pl.isList
 rw[hy] at hl
 refine sum_intListG (I.ok.hd hc) hl λh' tk t' hk=>⟨.int ns.sum,H,I.kept hk,⟨t',?_⟩,q⟩
 have hn:numsOf its.toArray.toList=ns:=by rw[show its.toArray.toList=its from rfl,hi.numsOf]
 rw[hy,nums_intItems] at hn
 rw[preSum_eq,C9 (by simp),hn]
theorem GD(hc:X.calm=true):oH X (.builtin "sum") jT:=by
 refine⟨_,Zo (X:=X.bG) hc,λH xs ds i hg=>?_⟩
 unfold jT at hg
 split at hg
 ·rename_i ys
  obtain⟨v,rfl,h⟩:=oI i
  obtain⟨a,zs,rfl,h1,h2⟩:=Is.fA.mp h
  cases q:ib ys with
  | none=>rw[q] at hg;exact absurd rfl hg
  | some ns =>
    have:=Ew q
    subst this
    rw[h2.B5] at h1
    exact⟨a,ns,rfl,h1,.int ns.sum,by show jT [.lst (ns.map D.int)]=_;simp only[jT,q],.refl _,Is.bO.mpr rfl⟩
 ·exact absurd rfl hg
theorem aA.Pa{K:aD}{H:Hp}:∀{ns:List Bool} {xs:List V},aA K H (ns.map D.bl) xs->xs=ns.map V.bl
 | [],xs,h=>aA.jq.mp h
 | n::ns,xs,h=>by
   obtain⟨x,r,rfl,hx,tr⟩:=aA.gD.mp h
   rw[Is.gy.mp hx,aA.Pa tr];rfl
theorem Pb:∀{bs:List Bool} {us:List Value} {i:Nat} {v:Value},Vals (bs.map V.bl) us->us[i]? = some v->∃b,bs[i]? = some b/\v = .bool b
 | [],us,i,v,r,e=>by cases r;simp at e
 | b::bs,us,0,v,r,e=>by
   cases r with
   | cons r1 r2=>simp at e;subst e;exact⟨b,rfl,r1⟩
 | b::bs,us,i+1,v,r,e=>by
   cases r with
   | cons r1 r2 =>
     obtain⟨b',e1,e2⟩:=Pb (i:=i) r2 (by simpa using e)
     exact⟨b',by simpa using e1,e2⟩
end
def pR(P:aY)(w:aO):kf:=λouter H s E x s'=>∃(e C T:Addr) (oe oT:Obj) (vs ts:Array Value) (H':Hp),x = .ref e/\s'.os=s.os/\nD s'.gens/\Un (cW outer) [] H H' s.heap s'.heap/\dq P w H' s'.heap /\
 H' e=none/\s.heap.get? e=none/\s'.heap.get? e=some oe/\oe.cls = .ref C/\oe.data = .fields vs/\(∃a0,vs[0]? = some a0)/\vs[1]? = some (.ref T)/\H' T=none/\s.heap.get? T=none/\T≠e/\s'.heap.get? T=some oT/\oT.data = .fields ts/\ts[3]? = some .none/\E (.ref C) none H'
def B8(K:aD)(mg:Str->Option Value)(φ:List D->R D):Sp:=λvs H Q E=>∃ds,aA K H ds vs/\φ ds ≠ .no/\(∀d v H',φ ds = .ok d->aT H H'->Is K H' d v->Q v H')/\(∀c C H',φ ds = .er c->mg c.nm=some (.ref C)->aT H H'->E (.ref C) none H')
def Pc(K:aD)(mg:Str->Option Value)(φ:List D->R (List D)):Sp:=λvs H Q E=>∃ds,aA K H ds vs/\φ ds ≠ .no/\(∀es a xs H',φ ds = .ok es->aT H H'->H a=none->H' a=some (.lst xs)->aA K H' es xs->Q (.ref a) H')/\(∀c C H',φ ds = .er c->mg c.nm=some (.ref C)->aT H H'->E (.ref C) none H')
structure gF (P:aY) (w:aO) (K:aD) (mg:Str->Option Value) (base:Heap) (k:Nat) (f:Addr) (fd:cP) (ps:List Str) (φ:List D->R D):Prop where
 ok:jo P w K mg base (pR P w) k f fd ps (B8 K mg φ)
 binds:n6 K fd ps []
 kp:C0 K (.ref f)=true
structure rO (P:aY) (w:aO) (K:aD) (mg:Str->Option Value) (base:Heap) (k:Nat) (f:Addr) (fd:cP) (ps:List Str) (φ:List D->R (List D)):Prop where
 ok:jo P w K mg base (pR P w) k f fd ps (Pc K mg φ)
 binds:n6 K fd ps []
 kp:C0 K (.ref f)=true
theorem gF.mono{P:aY}{w:aO}{K:aD}{mg:Str->Option Value}{base:Heap}{j k:Nat}{f:Addr}{fd:cP}{ps:List Str}{φ:List D->R D}(F:gF P w K mg base j f fd ps φ)(h:j<=k):gF P w K mg base k f fd ps φ:=⟨F.ok.mono h,F.binds,F.kp⟩
section
variable {X:Cx}{e a b c:Expr}{g ga gb gc:G->R D}{pos p:Pos}{x:Str}{es:List Expr}{gs:G->R (List D)}
theorem _root_.L2.Inv.gone{pins:List (Addr×Obj)}{σ:St}{H:Hp}{s:ai}{q:Addr}(I:Inv X pins σ H s)(hex:X.ex=[])(hq:s.heap.get? q=none):X.s₀.heap.get? q=none/\q≠X.env.locals/\(∀y k,X.env.cells.lookup y=some k->k≠q)/\(∀p∈X.pn++pins,p.1≠q):=by
 refine⟨?_,λz=>?_,λy k ek z=>?_,λp hp z=>?_⟩
 ·cases e0:X.s₀.heap.get? q with
  | none=>rfl
  | some o =>
    obtain⟨o',e1⟩:=I.base.there q o e0 (by rw[hex];simp)
    rw[hq] at e1;cases e1
 ·obtain⟨m,⟨o,_,_,ho,_⟩,_⟩:=I.loc
  rw[<-z,hq] at ho;cases ho
 ·obtain⟨v,o,ho,_⟩:=I.cell y k ek
  rw[z,hq] at ho;cases ho
 ·have ho:=(I.pin p hp).1
  rw[z,hq] at ho;cases ho
theorem Pd{pins:List (Addr×Obj)}{σ:St}{H:Hp}{s s':ai}{u:Value}{r:R D}{E:XK}(hex:X.ex=[]∨∀C H',¬E (.ref C) none H')(I:Inv X pins σ H s)(h:pR X.prog X.w X.stack H s E u s')
 (hE:∀C H',E (.ref C) none H'->∃c,r = .er c/\X.mg c.nm=some (.ref C)/\aT H H'):bV X pins σ H r u s':=by
 obtain⟨e,C,T,oe,oT,vs,ts,H',rfl,os,bare,un,aS,Zp,yV,yW,B9,yX,GF,hv,Zq,oJ,GG,Zr,Zs,Zt,Pe⟩:=h
 have hex:X.ex=[]:=hex.resolve_right λz=>z C H' Pe
 obtain⟨c,er,hm,S⟩:=hE C H' Pe
 obtain⟨hh,gg,dd,tt,kL⟩:=s'
 obtain rfl:kL=s.os:=os
 have I':Inv X pins σ H' { s with heap:=hh,gens:=gg,drawn:=dd,toks:=tt }:=I.call (h':=hh) (g':=gg) (d':=dd) (t':=tt) (ch:=[]) un aS bare (λb z=>absurd z (by simp))
 have fr:∀q:Addr,s.heap.get? q=none->X.s₀.heap.get? q=none/\q≠X.env.locals/\(∀y k,X.env.cells.lookup y=some k->k≠q)/\(∀p∈X.pn++pins,p.1≠q):=λq hq=>I.gone hex hq
 obtain⟨f1,f2,f3,f4⟩:=fr e yV
 obtain⟨g1,g2,g3,g4⟩:=fr T oJ
 exact⟨c,H',er,S,I',e,C,oe,vs,rfl,hm,Zp,f1,f2,f3,f4,yW,B9,yX,GF,.inr ⟨T,oT,ts,hv,Zq,g1,g2,g3,g4,GG,Zr,Zs,.inl Zt⟩⟩
theorem Pf{k:Nat}{f:Addr}{fd:cP}{ps:List Str}{φ:List D->R D}(Fn:gF X.prog X.w X.K X.mg X.base k f fd ps φ)(hr:dE k X.A){pins:List (Addr×Obj)}{σ:St}{H:Hp}{s:ai}{us:List Value}{vs:List V}{ds:List D}
 (I:Inv X pins σ H s) (r:Vals vs us) (i:aA X.K H ds vs) (hg:φ ds ≠ .no) (hx:X.ex=[]∨∀c,φ ds ≠ .er c):ax (aF X.prog X.w) X.A (call (.ref f) us) (dj X pins σ H (φ ds)) (bV X pins σ H (φ ds)) s:=by
 have fm:B8 X.K X.mg φ vs H (λv H'=>∃d,φ ds = .ok d/\aT H H'/\Is X.K H' d v) (λC' _ H'=>∃c C,C' = .ref C/\φ ds = .er c/\X.mg c.nm=some (.ref C)/\aT H H') :=
  ⟨ds,i,hg,λd v H' e S iv=>⟨d,e,S,iv⟩,λc C H' e hm S=>⟨c,C,rfl,e,hm,S⟩⟩
 have hl:us.length=ps.length:=by rw[<-r.length];exact Fn.ok.len _ _ _ _ fm
 have hb:=Fn.binds s us I.iD (by rw[lu];exact hl)
 rw[lu] at hb
 refine Aw (oV (Fn.ok.run X.A X.stack s H ⟨us,[]⟩ us vs _ _ hr I.D6 hb r fm) λr' s' hq=>?_)
 cases r' with
 | error u =>
   refine Pd (E:=λC' _ H'=>∃c C,C' = .ref C/\φ ds = .er c/\X.mg c.nm=some (.ref C)/\aT H H') (hx.imp_right λz C H' ⟨c,_,_,q,_⟩=>z c q) I hq λC H' hE=>?_
   obtain⟨c,C',e,h1,h2,h3⟩:=hE
   cases e
   exact⟨c,h1,h2,h3⟩
 | ok fl =>
   cases fl with
   | ret u =>
     obtain⟨v,H',I',rv,d,e,S,iv⟩:=I.after hq
     exact⟨d,v,H',e,I',rv,S,iv⟩
   | next=>exact cT hq
   | brk=>exact cT hq
   | cont=>exact cT hq
theorem cx{k:Nat}{f:Addr}{fd:cP}{ps:List Str}{φ:List D->R D}(Fn:gF X.prog X.w X.K X.mg X.base k f fd ps φ)(hr:dE k X.A)(hm:X.mg x=some (.ref f))(ha:mZ X (e::es) gs)(hex:X.ex=[]:=by rfl)(hg:Gl X x:=by rfl)(jZ:(x==("__debug__":Str))=false:=by decide)
 (he:bA (e::es) X.env=(false,eval e X.env)::bA es X.env:=by rfl) (fM:(cK pos (bA es X.env)).any (·.1)=false:=by rfl):PD X (.Call (.Name x p) (e::es) [] pos) (aH φ gs):=by
 refine⟨λpins s σ H F Γ I fo rl cw=>?_⟩
 refine mB (vd I hg hm ?_ jZ)
 refine Ki (h₀:=X.base) I.ok.mod.sJ Fn.kp (aC (ha.run pos pins s σ H F Γ I fo rl (R.left cw)) (λus s1 ⟨ds,vs,H1,e1,I1,r1,S1,i1⟩=>⟨I1.iD,?_⟩) λ_ _ x=>x.bind _) he fM
 exact aC (Pf Fn hr I1 r1 i1 (R.next cw e1) (.inl hex)) (λ_ _ q=>dj.bind e1 S1 q) λ_ _ q=>bV.later e1 S1 q
theorem gF.gq{P:aY}{w:aO}{K:aD}{mg:Str->Option Value}{base:Heap}{k:Nat}{f:Addr}{fd:cP}{ps:List Str}{φ:List D->R D}(F:gF P w K mg base k f fd ps φ):gF P w K mg base k f fd ps (L3.gq φ):=by
 refine⟨F.ok.imp λvs H Q E h=>?_,F.binds,F.kp⟩
 obtain⟨ds,i,a8,aS,B_⟩:=h
 obtain⟨d,e1,e2⟩:=LS a8
 exact⟨ds,i,(by rw[e1];exact λz=>nomatch z),λd' v H' e S iv=>aS d' v H' (e2.trans (e1.symm.trans e)) S iv,λc C H' e=>by rw[e1] at e;cases e⟩
theorem tV{k:Nat}{f:Addr}{fd:cP}{ps:List Str}{φ:List D->R D}(Fn:gF X.prog X.w X.K X.mg X.base k f fd ps φ)(hr:dE k X.A)(hm:X.mg x=some (.ref f))(ha:mZ X (e::es) gs)(hg:Gl X x:=by rfl)(jZ:(x==("__debug__":Str))=false:=by decide)
 (he:bA (e::es) X.env=(false,eval e X.env)::bA es X.env:=by rfl) (fM:(cK pos (bA es X.env)).any (·.1)=false:=by rfl):PD X (.Call (.Name x p) (e::es) [] pos) (aH (L3.gq φ) gs):=by
 refine⟨λpins s σ H F Γ I fo rl cw=>?_⟩
 refine mB (vd I hg hm ?_ jZ)
 refine Ki (h₀:=X.base) I.ok.mod.sJ Fn.kp (aC (ha.run pos pins s σ H F Γ I fo rl (R.left cw)) (λus s1 ⟨ds,vs,H1,e1,I1,r1,S1,i1⟩=>⟨I1.iD,?_⟩) λ_ _ x=>x.bind _) he fM
 have aW:=R.next cw e1
 obtain⟨d,_,e3⟩:=LS aW
 exact aC (Pf Fn.gq hr I1 r1 i1 aW (.inr λc z=>by rw[e3] at z;cases z)) (λ_ _ q=>dj.bind e1 S1 q) λ_ _ q=>bV.later e1 S1 q
theorem Zu{k:Nat}{f:Addr}{fd:cP}{ps:List Str}{φ:List D->R (List D)}(Fn:rO X.prog X.w X.K X.mg X.base k f fd ps φ)(hr:dE k X.A){pins:List (Addr×Obj)}{σ:St}{H:Hp}{s:ai}{us:List Value}{vs:List V}{ds:List D}
 (I:Inv X pins σ H s) (r:Vals vs us) (i:aA X.K H ds vs) (hg:φ ds ≠ .no) (hx:X.ex=[]∨∀c,φ ds ≠ .er c):ax (aF X.prog X.w) X.A (call (.ref f) us) (λu s'=>∃es a xs H',φ ds = .ok es/\Inv X pins σ H' s'/\u = .ref a/\aT H H'/\H a=none/\H' a=some (.lst xs)/\aA X.K H' es xs) (bV X pins σ H (φ ds)) s:=by
 have fm:Pc X.K X.mg φ vs H (λv H'=>∃es a xs,v = .ref a/\φ ds = .ok es/\aT H H'/\H a=none/\H' a=some (.lst xs)/\aA X.K H' es xs) (λC' _ H'=>∃c C,C' = .ref C/\φ ds = .er c/\X.mg c.nm=some (.ref C)/\aT H H') :=
  ⟨ds,i,hg,λes a xs H' e S h1 h2 h3=>⟨es,a,xs,rfl,e,S,h1,h2,h3⟩,λc C H' e hm S=>⟨c,C,rfl,e,hm,S⟩⟩
 have hl:us.length=ps.length:=by rw[<-r.length];exact Fn.ok.len _ _ _ _ fm
 have hb:=Fn.binds s us I.iD (by rw[lu];exact hl)
 rw[lu] at hb
 refine Aw (oV (Fn.ok.run X.A X.stack s H ⟨us,[]⟩ us vs _ _ hr I.D6 hb r fm) λr' s' hq=>?_)
 cases r' with
 | error u =>
   obtain⟨c,H',e1,S,fl⟩:=Pd (r:=φ ds>>=λ_=>.ok D.b_) (E:=λC' _ H'=>∃c C,C' = .ref C/\φ ds = .er c/\X.mg c.nm=some (.ref C)/\aT H H') (hx.imp_right λz C H' ⟨c,_,_,q,_⟩=>z c q) I hq λC H' hE=>by
    obtain⟨c,C',e,h1,h2,h3⟩:=hE
    cases e
    exact⟨c,R.stop h1 _,h2,h3⟩
   refine⟨c,H',?_,S,fl⟩
   cases q:φ ds with
   | no=>exact absurd q hg
   | ok _=>rw[q] at e1;cases e1
   | er c'=>rw[q] at e1;cases e1;rfl
 | ok fl =>
   cases fl with
   | ret u =>
     obtain⟨v,H',I',rv,es,a,xs,rfl,e,S,h1,h2,h3⟩:=I.after hq
     exact⟨es,a,xs,H',e,I',rv,S,h1,h2,h3⟩
   | next=>exact cT hq
   | brk=>exact cT hq
   | cont=>exact cT hq
theorem l_{k:Nat}{f:Addr}{fd:cP}{ps:List Str}{φ:List D->R (List D)}(Fn:rO X.prog X.w X.K X.mg X.base k f fd ps φ)(hr:dE k X.A)(hm:X.mg x=some (.ref f))(ha:mZ X (e::es) gs)(hex:X.ex=[]:=by rfl)(hg:Gl X x:=by rfl)(jZ:(x==("__debug__":Str))=false:=by decide)
 (he:bA (e::es) X.env=(false,eval e X.env)::bA es X.env:=by rfl) (fM:(cK pos (bA es X.env)).any (·.1)=false:=by rfl):PF X (.Call (.Name x p) (e::es) [] pos) (jt φ gs):=by
 refine⟨λpins s σ H F Γ I fo rl cw=>?_⟩
 refine mB (vd I hg hm ?_ jZ)
 refine Ki (h₀:=X.base) I.ok.mod.sJ Fn.kp (aC (ha.run pos pins s σ H F Γ I fo rl (R.left cw)) (λus s1 ⟨ds,vs,H1,e1,I1,r1,S1,i1⟩=>⟨I1.iD,?_⟩) λ_ _ x=>x.bind _) he fM
 have aW:=R.next cw e1
 refine aC (Zu Fn hr I1 r1 i1 (R.left aW) (.inl hex)) (λu s' ⟨es',a,xs,H',e2,I2,eu,S2,h1,h2,h3⟩=>?_) λ_ _ q=>bV.later e1 S1 (q.bind _)
 have fR:=R.next aW e2
 obtain⟨n,e3⟩:=R.dF fR
 exact⟨es',a,xs,H',(R.step e1 _).trans ((R.step e2 _).trans e3),I2,eu,S1.trans S2,S1.free h1,h2,aA.aV (((fo.same S1).same S2).cons h2) es' xs n h3⟩
theorem Zv{x:Str}(ha:PD X a ga)(hm:X.mg x=none)(hv:oN x=some (.type "list"))(hg:Gl X x:=by rfl)(hn:x≠"__name__":=by decide)(jZ:(x==("__debug__":Str))=false:=by decide)
 (he:bA [a] X.env=(false,eval a X.env)::bA [] X.env:=by rfl) (fM:(cK pos (bA [] X.env)).any (·.1)=false:=by rfl):PF X (.Call (.Name x p) [a] [] pos) (pv ga):=by
 refine⟨λpins s σ H F Γ I fo rl cw=>?_⟩
 refine mB (iE I hg hm hv ?_ hn jZ)
 refine uU (aC ((ar ha aK he).run pos pins s σ H F Γ I fo rl (λz=>?_)) (λus s1 ⟨ds,vs,H1,e1,I1,r1,S1,i1⟩=>?_) λ_ _ q=>?_) he fM
 ·unfold ae at z
  cases q:ga Γ with
  | no=>exact absurd (show pv ga Γ = .no by unfold pv;rw[q];rfl) cw
  | ok d=>rw[q] at z;cases z
  | er c=>rw[q] at z;cases z
 ·have e0:∃d,ga Γ = .ok d/\ds=[d]:=by
   unfold ae at e1
   cases q:ga Γ with
   | no=>rw[q] at e1;cases e1
   | ok d=>rw[q] at e1;cases e1;exact⟨d,rfl,rfl⟩
   | er c=>rw[q] at e1;cases e1
  obtain⟨d,ed,rfl⟩:=e0
  obtain⟨v,rfl,iv⟩:=oI i1
  have aW:=R.next cw ed
  have fin:∀(p':Addr) (ys:List V) (es':List D),v = .ref p'->(bM X.K H1 p' ys∨b6 X.K H1 p' ys)->aA X.K H1 es' ys->D.bI es'=true->pv ga Γ = .ok es' ->
   ax (aF X.prog X.w) X.A (call (.type "list") us) (λu s'=>∃ds a xs H',pv ga Γ = .ok ds/\Inv X pins σ H' s'/\u = .ref a/\aT H H'/\H a=none/\H' a=some (.lst xs)/\aA X.K (aV (a::F) H') ds xs) (bV X pins σ H (pv ga Γ)) s1:=λp' ys es' ev hq ie gm eg=>by
   subst ev
   refine aC (UR (X:=X.bG) pins s1 σ H1 _ us (λz H'=>∃l,z = .ref l/\H1 l=none/\H'=upd H1 l (.lst ys)) (I1.cZ _) r1 ⟨p',ys,rfl,hq,λl hl=>⟨l,rfl,hl,rfl⟩⟩) (λu s' ⟨z,H',I',rz,l,ez,hl,eH⟩=>?_) λ_ _ z=>cT z
   subst ez eH
   have S2:=jD hl (.lst ys)
   exact⟨es',l,ys,_,eg,I'.dr,rz,S1.trans S2,S1.free hl,dI,aA.aV (((fo.same S1).same S2).cons dI) es' ys gm (ie.same S2)⟩
  cases d with
  | tup es' =>
    obtain⟨n,e2⟩:=R.dF (show R.guard (D.bI es'=true) (.ok es') ≠ .no from aW)
    obtain⟨p',ys,ev,h1,h2⟩:=Is.eZ.mp iv
    exact fin p' ys es' ev (.inr h1) h2 n ((R.step ed _).trans e2)
  | lst es' =>
    obtain⟨n,e2⟩:=R.dF (show R.guard (D.bI es'=true) (.ok es') ≠ .no from aW)
    obtain⟨p',ys,ev,h1,h2⟩:=Is.fA.mp iv
    exact fin p' ys es' ev (.inl h1) h2 n ((R.step ed _).trans e2)
  | _=>exact absurd rfl aW
 ·obtain⟨c',H',e1,S,fl⟩:=q
  refine⟨c',H',?_,S,fl⟩
  unfold ae at e1
  cases q:ga Γ with
  | no=>rw[q] at e1;cases e1
  | ok d=>rw[q] at e1;cases e1
  | er c=>rw[q] at e1;cases e1;unfold pv;rw[q];rfl
theorem Zw{ga gb:G->R (List D)}(ha:PF X a ga)(hb:PF X b gb):PF X (.BinOp a .Add b pos) (Bd ga gb):=by
 refine⟨λpins s σ H F Γ I fo rl hg=>?_⟩
 refine Sv (aC (ha.run pins s σ H F Γ I fo rl (R.left hg)) (λv s1 ⟨dx,a1,xs,H1,e1,I1,r1,S1,n1,h1,i1⟩=>?_) λ_ _ x=>x.bind _)
 have aW:=R.next hg e1
 refine aC (hb.run pins s1 σ H1 F Γ I1 (fo.same S1) (rl.same S1) (R.left aW)) (λu s2 ⟨dy,a2,ys,H2,e2,I2,r2,S2,n2,h2,i2⟩=>?_) λ_ _ x=>bV.later e1 S1 (x.bind _)
 have fR:=R.next aW e2
 obtain⟨hc,e3⟩:=R.dF fR
 subst r1 r2
 have hz:xs.length+ys.length<=ck:=by rw[<-i1.length,<-i2.length];exact tR hc
 refine aC (U2 (X:=X.bG) pins s2 σ H2 (.ref a1) (.ref a2) _ _ (λz H'=>∃l,z = .ref l/\H2 l=none/\H'=upd H2 l (.lst (xs++ys))) (I2.cZ _) rfl rfl ⟨a1,a2,xs,ys,rfl,rfl,S2 _ _ h1,h2,hz,λl hl=>⟨l,rfl,hl,rfl⟩⟩) (λu s' ⟨z,H',I',rz,l,ez,hl,eH⟩=>?_) λ_ _ z=>cT z
 subst ez eH
 have S3:=jD hl (.lst (xs++ys))
 have up:∀{q:Addr} {Hq:Hp} {zs:List V} {ds:List D},aT Hq H2->Hq q≠none->aA X.K (aV (q::F) Hq) ds zs->aA X.K (aV (l::F) (upd H2 l (.lst (xs++ys)))) ds zs:=λ{q Hq zs ds} Sq hq i=>by
  refine i.same λb o hb=>?_
  obtain⟨z1,z2⟩:=kW hb
  have z3:=Sq _ _ z2
  have m5:b≠l:=g_ z3 hl
  rw[e8 λz=>(List.mem_cons.mp z).elim m5 λz'=>z1 (bL _ z'),bS m5]
  exact z3
 exact⟨dx++dy,l,xs++ys,_,(R.step e1 _).trans ((R.step e2 _).trans e3),I'.dr,rz,(S1.trans S2).trans S3,S1.free (S2.free hl),dI,(up S2 (by rw[h1];simp) i1).append (up (.refl _) (by rw[h2];simp) i2)⟩
end
def JD(K:aD)(H:Hp)(F:List Addr)(J:It)(ds:List D):Prop:=∀H1,(∀b o,b ∉ F->H b=some o->H1 b=some o) ->
 (∀i:Nat,i<ds.length->J.go i H1/\∀x H2,J.xE i H1 x H2->H2=H1/\∃d,ds[i]? = some d/\∀F',(∀b,b∈F'->b∈F∨H b=none)->Is K (aV F' H1) d x)/\J.stop ds.length H1
def JC(K:aD)(H:Hp)(F:List Addr)(J:It)(ds:List D):Prop:=∀H1,aT H H1 ->
 (∀i:Nat,i<ds.length->J.go i H1/\∀x H2,J.xE i H1 x H2->H2=H1/\∃d,ds[i]? = some d/\Is K (aV F H1) d x)/\J.stop ds.length H1
theorem JD.jc{K:aD}{H:Hp}{F:List Addr}{J:It}{ds:List D}(h:JD K H F J ds):JC K H F J ds:=λH1 S=>by
 obtain⟨h1,h2⟩:=h H1 λb o _ q=>S b o q
 refine⟨λi hi=>⟨(h1 i hi).1,λx H2 y=>?_⟩,h2⟩
 obtain⟨e,d,ed,iv⟩:=(h1 i hi).2 x H2 y
 exact⟨e,d,ed,iv F λb hb=>.inl hb⟩
structure kA (Jx:aD->Hp->List Addr->It->List D->Prop) (X:Cx) (tg iter:Expr) (g:G->R (List D)):Prop where
 run:∀(pins:List (Addr×Obj)) (s:ai) (σ:St) (H:Hp) (F:List Addr) (Γ:G),Inv X pins σ H s->bZ H F->Rel X.K H F Γ σ->g Γ ≠ .no ->
  ax (aF X.prog X.w) X.A (eval iter X.env) (λv s1=>ax (aF X.prog X.w) X.A (qu v) (λkK s2=>∃(ds:List D) (it:Addr) (fp:List Addr) (tn:Nat->Heap->Prop) (J:It) (H':Hp),g Γ = .ok ds/\kK = .ref it/\Inv X pins σ H' s2/\aT H H' /\
   Turn X.prog X.w X.K tg J fp it tn/\tn 0 s2.heap/\(∀b∈fp,fL X pins H' b)/\Jx X.K H' F J ds) (bV X pins σ H (g Γ)) s1) (bV X pins σ H (g Γ)) s
abbrev tW:=kA JD
abbrev Ca:=kA JC
theorem kA.tX{X:Cx}{tg iter:Expr}{g:G->R (List D)}(h:tW X tg iter g):Ca X tg iter g:=⟨λpins s σ H F Γ I fo rl hg =>
 eM (h.run pins s σ H F Γ I fo rl hg) λv s1 h1=>eM h1 λkK s2 ⟨ds,it,fp,tn,J,H',e,ei,I',S,T,t0,fk,j⟩=>⟨ds,it,fp,tn,J,H',e,ei,I',S,T,t0,fk,j.jc⟩⟩
section
variable {X:Cx}{tg a b:Expr}{ga gb:G->R D}
theorem Zx{K:aD}{H:Hp}{F:List Addr}{p:Addr}{xs:List V}{ds:List D}(h:bM K H p xs)(i:aA K (aV F H) ds xs):JC K H F (AW K p) ds:=λH1 S=>by
 have h1:=S.seq h
 have il:=i.length
 refine⟨λj hj=>⟨⟨xs,xs[j]'(by lia),h1,cf (by lia)⟩,λx H2 y=>⟨y.1,?_⟩⟩,⟨xs,h1,by lia⟩⟩
 exact(i.same (jC S)).v_ (y.2 xs h1)
theorem wg{H H1:Hp}{F F':List Addr}(S:∀b o,b ∉ F->H b=some o->H1 b=some o)(o:∀b,b∈F'->b∈F∨H b=none):aT (aV F H) (aV F' H1):=Ext.aV ⟨S,o⟩
theorem Pg{K:aD}{H:Hp}{F:List Addr}{p:Addr}{xs:List V}{ds:List D}(h:b6 K (aV F H) p xs)(i:aA K (aV F H) ds xs):JD K H F (D0 K p) ds:=λH1 S=>by
 have h1:b6 K H1 p xs:=pO (lY (F:=F)) (pO (wg S λb hb=>.inl hb) h)
 have il:=i.length
 refine⟨λj hj=>⟨⟨xs,xs[j]'(by lia),h1,cf (by lia)⟩,λx H2 y=>⟨y.1,?_⟩⟩,⟨xs,h1,by lia⟩⟩
 obtain⟨d,ed,iv⟩:=i.v_ (y.2 xs h1)
 exact⟨d,ed,λF' hF=>iv.same (wg S hF)⟩
theorem Zy{K:aD}{H:Hp}{F:List Addr}{p:Addr}{xs:List V}{ds:List D}(h:bM K (aV F H) p xs)(i:aA K (aV F H) ds xs):JD K H F (AW K p) ds:=λH1 S=>by
 have h1:bM K H1 p xs:=(lY (F:=F)).seq ((wg S λb hb=>.inl hb).seq h)
 have il:=i.length
 refine⟨λj hj=>⟨⟨xs,xs[j]'(by lia),h1,cf (by lia)⟩,λx H2 y=>⟨y.1,?_⟩⟩,⟨xs,h1,by lia⟩⟩
 obtain⟨d,ed,iv⟩:=i.v_ (y.2 xs h1)
 exact⟨d,ed,λF' hF=>iv.same (wg S hF)⟩
theorem Ph{pins:List (Addr×Obj)}{σ:St}{H:Hp}{s:ai}{p:Addr}{xs:List V}{E:Value->ai->Prop}{Q:Value->ai->Prop}(I:Inv X pins σ H s)(h:bM X.K H p xs)
 (q:∀it s2,Inv X pins σ H s2->Turn X.prog X.w X.K tg (AW X.K p) [it] it (λi h=>h.IsListIter it p i)->s2.heap.IsListIter it p 0->(∀b∈[it],fL X pins H b)->Q (.ref it) s2):ax (aF X.prog X.w) X.A (qu (.ref p)) Q E s:=by
 obtain⟨its,rv,pl,hz⟩:=I.list h
 refine xq pl.isList (q s.heap.objs.size _ (I.kept (t':=s.toks) λb o e=>bP _ e) (T5 p _) ⟨_,dQ _ rfl,rfl,rfl⟩ λb hb=>?_)
 have e:b=s.heap.objs.size:=by simpa using hb
 subst e
 exact I.ve (a7 _) (I.aS.fresh (a7 _))
theorem Pj{pins:List (Addr×Obj)}{σ:St}{H:Hp}{s:ai}{p:Addr}{xs:List V}{E:Value->ai->Prop}{Q:Value->ai->Prop}(I:Inv X pins σ H s)(h:b6 X.K H p xs)
 (q:∀it s2,Inv X pins σ H s2->Turn X.prog X.w X.K tg (D0 X.K p) [it] it (λi h=>h.IsTupleIter it p i)->s2.heap.IsTupleIter it p 0->(∀b∈[it],fL X pins H b)->Q (.ref it) s2):ax (aF X.prog X.w) X.A (qu (.ref p)) Q E s:=by
 obtain⟨its,rv,pl,hz⟩:=I.tuple h
 refine wpAny_pyIter_tuple (show s.heap.IsTuple p its.toArray from pl) (q s.heap.objs.size _ (I.kept (t':=s.toks) λb o e=>bP _ e) (T6 p _) ⟨_,dQ _ rfl,rfl,rfl⟩ λb hb=>?_)
 have e:b=s.heap.objs.size:=by simpa using hb
 subst e
 exact I.ve (a7 _) (I.aS.fresh (a7 _))
theorem tY(ha:iL X a ga):tW X tg a (lJ ga):=by
 refine⟨λpins s σ H F Γ I fo rl hg=>?_⟩
 refine aC (ha.run pins s σ H F Γ I fo rl (R.left hg)) (λv s1 ⟨d,x,H1,e1,I1,r1,S1,i1⟩=>?_) λ_ _ x=>x.bind _
 have aW:=R.next hg e1
 cases d with
 | tup ds =>
   obtain⟨p,xs,rfl,h1,h2⟩:=Is.eZ.mp i1
   cases (show v=c_ p from r1)
   exact Pj (tg:=tg) I1 (pO (lY (F:=F)) h1) λit s2 I2 T t0 fk=>⟨ds,it,_,_,_,H1,R.step e1 _,rfl,I2,S1,T,t0,fk,Pg h1 h2⟩
 | lst ds =>
   obtain⟨p,xs,rfl,h1,h2⟩:=Is.fA.mp i1
   cases (show v=c_ p from r1)
   exact Ph (tg:=tg) I1 ((lY (F:=F)).seq h1) λit s2 I2 T t0 fk=>⟨ds,it,_,_,_,H1,R.step e1 _,rfl,I2,S1,T,t0,fk,Zy h1 h2⟩
 | _=>exact absurd rfl aW
theorem tZ(ha:PD X a ga):Ca X tg a (ki ga):=by
 refine⟨λpins s σ H F Γ I fo rl hg=>?_⟩
 refine aC (ha.run pins s σ H F Γ I fo rl (R.left hg)) (λv s1 ⟨d,x,H1,e1,I1,r1,S1,i1⟩=>?_) λ_ _ x=>x.bind _
 have aW:=R.next hg e1
 cases d with
 | tup ds =>
   obtain⟨n,e2⟩:=R.dF (show R.guard (D.bI ds=true) (.ok ds) ≠ .no from aW)
   obtain⟨p,xs,rfl,h1,h2⟩:=Is.eZ.mp i1
   cases (show v=c_ p from r1)
   exact Pj (tg:=tg) I1 h1 λit s2 I2 T t0 fk=>⟨ds,it,_,_,_,H1,(R.step e1 _).trans e2,rfl,I2,S1,T,t0,fk,(Pg (O6 (fo.same S1) h1) (aA.aV (fo.same S1) ds xs n h2)).jc⟩
 | lst ds =>
   obtain⟨n,e2⟩:=R.dF (show R.guard (D.bI ds=true) (.ok ds) ≠ .no from aW)
   obtain⟨p,xs,rfl,h1,h2⟩:=Is.fA.mp i1
   cases (show v=c_ p from r1)
   exact Ph (tg:=tg) I1 h1 λit s2 I2 T t0 fk=>⟨ds,it,_,_,_,H1,(R.step e1 _).trans e2,rfl,I2,S1,T,t0,fk,Zx h1 (aA.aV (fo.same S1) ds xs n h2)⟩
 | _=>exact absurd rfl aW
theorem Pk{K:aD}{H:Hp}{F:List Addr}(lo:Int)(n:Nat):JD K H F (xF lo n) (fq lo n):=λH1 S=>by
 rw[oo]
 refine⟨λj hj=>⟨hj,λx H2 y=>⟨y.1,.int (lo+(j:Int)),EA lo n j hj,λF' _=>?_⟩⟩,a7 _⟩
 exact Is.bO.mpr y.2
theorem md{p pos:Pos}(ha:PD X a ga)(hm:X.mg "range"=none)(hg:Gl X "range":=by rfl)(hs:bA [a] X.env=[(false,eval a X.env)]:=by rfl):tW X tg (.Call (.Name "range" p) [a] [] pos) (fW ga):=by
 refine⟨λpins s σ H F Γ I fo rl cw=>?_⟩
 refine Kj (iE I hg hm SD (uU ?_ hs rfl))
 rw[hs]
 show ax _ _ (gf ((false,eval a X.env)::cK pos [])) _ _ s
 refine iA (aC (ha.run pins s σ H F Γ I fo rl (R.left cw)) (λu s1 ⟨d,v,H1,e1,I1,r1,S1,i1⟩=>ke ?_) λ_ _ x=>x.bind _)
 have aW:=R.next cw e1
 cases d with
 | int j =>
   obtain⟨⟨h1,h2⟩,e2⟩:=R.dF (show R.guard (-(2^62)<=j/\j<2^62) (.ok (fq 0 j.toNat)) ≠ .no from aW)
   rw[Is.bO.mp i1] at r1
   obtain⟨t,rfl⟩:=(show ∃t,u=lh j t from r1)
   refine call_range_1 (eM (K7 (tg:=tg) (R:=λJ H'=>J=xF 0 (j-0).toNat/\H'=H1) I1 (by lia) (by lia) h1 h2 ⟨rfl,rfl⟩) λkK s2 ⟨it,fp,tn,J,H',ei,I2,T,t0,fk,eJ,eH⟩=>?_)
   subst eJ eH
   rw[JY] at T
   exact⟨_,it,fp,tn,_,H',(R.step e1 _).trans e2,ei,I2,S1,T,t0,fk,Pk 0 j.toNat⟩
 | _=>exact absurd rfl aW
theorem Zz{p pos:Pos}(ha:PD X a ga)(hb:PD X b gb)(hm:X.mg "range"=none)(hg:Gl X "range":=by rfl)(hs:bA [a,b] X.env=[(false,eval a X.env),(false,eval b X.env)]:=by rfl)(m6:bA [b] X.env=[(false,eval b X.env)]:=by rfl) :
 tW X tg (.Call (.Name "range" p) [a,b] [] pos) (Bj ga gb):=by
 refine⟨λpins s σ H F Γ I fo rl cw=>?_⟩
 refine Kj (iE I hg hm SD (uU ?_ (by rw[hs,m6]) (by rw[m6];rfl)))
 rw[hs]
 show ax _ _ (gf ((false,eval a X.env)::cK pos [(false,eval b X.env)])) _ _ s
 refine iA (aC (ha.run pins s σ H F Γ I fo rl (R.left cw)) (λu s1 ⟨d,v,H1,e1,I1,r1,S1,i1⟩=>?_) λ_ _ x=>x.bind _)
 have aW:=R.next cw e1
 show ax _ _ (gf ((false,eval b X.env)::cK pos [])) _ _ s1
 refine iA (aC (hb.run pins s1 σ H1 F Γ I1 (fo.same S1) (rl.same S1) (R.left aW)) (λu2 s2 ⟨d2,v2,H2,e2,I2,r2,S2,i2⟩=>ke ?_) λ_ _ x=>bV.later e1 S1 (x.bind _))
 have dH:=R.next aW e2
 cases d with
 | int i =>
   cases d2 with
   | int j =>
     obtain⟨⟨⟨h1,h2⟩,h3,h4⟩,e3⟩:=R.dF (show R.guard ((-(2^62)<=i/\i<2^62) /\ -(2^62)<=j/\j<2^62) (.ok (fq i (j-i).toNat)) ≠ .no from dH)
     rw[Is.bO.mp i1] at r1
     rw[Is.bO.mp i2] at r2
     obtain⟨t,rfl⟩:=(show ∃t,u=lh i t from r1)
     obtain⟨t',rfl⟩:=(show ∃t,u2=lh j t from r2)
     refine call_range_2 (eM (K7 (tg:=tg) (R:=λJ H'=>J=xF i (j-i).toNat/\H'=H2) I2 h1 h2 h3 h4 ⟨rfl,rfl⟩) λkK s3 ⟨it,fp,tn,J,H',ei,I3,T,t0,fk,eJ,eH⟩=>?_)
     subst eJ eH
     exact⟨_,it,fp,tn,_,H',(R.step e1 _).trans ((R.step e2 _).trans e3),ei,I3,S1.trans S2,T,t0,fk,Pk i (j-i).toNat⟩
   | _=>exact absurd rfl dH
 | _=>exact absurd rfl dH
end
theorem Cb{k:nJ}(h:(k==qG)=true):k = .free:=by cases k<;>first | rfl | (exact absurd h (by decide))
def cL(env:Env):List (Str×nJ)->List (Str×Addr)->List (Str×Addr)
 | [],cs=>cs
 | (n,k)::r,cs=>if (k == .free)=true then (match env.cells.lookup n with | some a=>cL env r ((n,a)::cs) | none=>cL env r cs) else cL env r cs
theorem m7{env:Env}{x:Str}{c:Addr}:∀(names:List (Str×nJ)) (cs:List (Str×Addr)),(x,c)∈cL env names cs->(x,c)∈cs∨env.cells.lookup x=some c
 | [],cs,h=>.inl h
 | (n,k)::r,cs,h=>by
   unfold cL at h
   split at h
   ·split at h
    ·rename_i a e
     rcases m7 r _ h with q | q
     ·rcases List.mem_cons.mp q with z | z
      ·cases z;exact .inr e
      ·exact .inl z
     ·exact .inr q
    ·exact m7 r _ h
   ·exact m7 r _ h
theorem Cc{env:Env}{p:Str×Addr}:∀(names:List (Str×nJ)) (cs:List (Str×Addr)),p∈cs->p∈cL env names cs
 | [],cs,h=>h
 | (n,k)::r,cs,h=>by
   unfold cL
   split
   ·split
    ·exact Cc r _ (bL _ h)
    ·exact Cc r _ h
   ·exact Cc r _ h
theorem t4{env:Env}{x:Str}{c:Addr}(e:env.cells.lookup x=some c):∀(names:List (Str×nJ)) (cs:List (Str×Addr)),(x,qG)∈names->(x,c)∈cL env names cs
 | [],cs,h=>by simp at h
 | (n,k)::r,cs,h=>by
   unfold cL
   rcases List.mem_cons.mp h with z | z
   ·cases z
    rw[if_pos (show(qG==qG)=true by decide),e]
    exact Cc r _ bB
   ·split
    ·split
     ·exact t4 e r _ z
     ·exact t4 e r _ z
    ·exact t4 e r _ z
theorem t5{α:Type}:∀{l:List (Str×α)} {x:Str} {c:α},(x,c)∈l->∃c',l.lookup x=some c'/\(x,c')∈l
 | [],_,_,h=>by simp at h
 | (n,a)::r,x,c,h=>by
   by_cases e:x=n
   ·subst e;exact⟨a,by simp[List.lookup],bB⟩
   ·rcases List.mem_cons.mp h with z | z
    ·cases z;exact absurd rfl e
    ·obtain⟨c',h1,h2⟩:=t5 z
     exact⟨c',by rw[List.lookup_cons,beq_eq_false_iff_ne.mpr e];exact h1,bL _ h2⟩
def Cd(N:List Str)(env:Env)(y:Str)(scope:da):Bool :=
 decide (scope.kind = .function)&&scope.names.all (λp=>decide (p.2 ≠ .cell)&&(decide (p.2 ≠ .local)||decide (scope.names.lookup p.1=some .local))&&(decide (p.2 ≠ .free)||((env.cells.lookup p.1).isSome&&(decide (env.scope.names.lookup p.1=some .cell)||decide (env.scope.names.lookup p.1=some .free)))))
  && decide (scope.names.lookup y=some .local)&&decide (scope.names.lookup (("":Str))=none)&&N.all (λz=>decide (scope.names.lookup z≠some .local)||decide (z=y))&&N.all (λz=>decide (z≠("":Str)))
structure Ce (N:List Str) (env:Env) (y:Str) (scope:da):Prop where
 kind:scope.kind = .function
 rP:∀p∈scope.names,p.2 ≠ .cell
 names:∀p∈scope.names,p.2 = .local->scope.names.lookup p.1=some .local
 free:∀p∈scope.names,p.2 = .free->(∃c,env.cells.lookup p.1=some c)/\(env.scope.names.lookup p.1=some .cell∨env.scope.names.lookup p.1=some .free)
 loc:scope.names.lookup y=some .local
 nil:scope.names.lookup (("":Str))=none
 only:∀z∈N,scope.names.lookup z=some .local->z=y
 none:∀z∈N,z≠("":Str)
theorem Pl{N:List Str}{env:Env}{y:Str}{scope:da}(h:Cd N env y scope=true):Ce N env y scope:=by
 unfold Cd at h
 simp only[jf,qD,Kk,decide_eq_true_eq] at h
 obtain⟨⟨⟨⟨⟨h1,h2⟩,h3⟩,h4⟩,h5⟩,h6⟩:=h
 refine⟨h1,λp hp=>(h2 p hp).1.1,λp hp e=>((h2 p hp).1.2).resolve_left λz=>z e,λp hp e=>?_,h3,h4,λz hz e=>(h5 z hz).resolve_left λq=>q e,h6⟩
 have q:=((h2 p hp).2).resolve_left λz=>z e
 exact⟨Option.isSome_iff_exists.mp q.1,q.2⟩
def dw(X:Cx)(y:Str)(scope:da)(C:Addr)(aB:ai)(aI:Hp)(fp:List Addr)(pn:List (Addr×Obj)):Cx :=
 { X with N:=y::X.N.map (λz=>if z=y then ("":Str) else z),s₀:=aB,H₀:=aI,env:=iB scope (cL X.env scope.names []) C X.env,outer:=X.stack,ex:=fp,fn:=λ_=>false,pn:=pn,xe:=λ_ _=>False }
theorem ZA{α β:Type}{M:oO}{A:Around}{E E':Value->ai->Prop}{s:ai}{a:α}{t:Sem β}{P:α->ai->Prop}{Q:β->ai->Prop}(h:ax M A (pure a) P E s)(k:P a s->ax M A t Q E' s):ax M A t Q E' s:=λΓ p GH=>k (h Γ p GH) Γ p GH
theorem Pm{P:aY}{w:aO}{H:Hp}{h:Heap}{a:Addr}{o:HO}(x:dq P w H h)(hn:H a=none)(new:iW P w (upd H a o) h a o):dq P w (upd H a o) h:=λb u e=>by
 by_cases hb:b=a
 ·subst hb;rw[dI] at e;cases e;exact new
 ·rw[bS hb] at e
  exact(x b u e).mD (λc v _ q=>q) (λc q=>by rw[bS (g_ q hn)];exact q) λc xs q=>by rw[bS (g_ q hn)];exact q
theorem ZC{X:Cx}{y:Str}{scope:da}{C Dd:Addr}{fp:List Addr}{pins pl:List (Addr×Obj)}{σ aQ:St}{aI H':Hp}{aB s1:ai}{xs:List V}{its:List Value}{n:Nat}(I:Inv X pins σ aI aB)
 (J:Inv (dw X y scope C aB aI fp (X.pn++pins)) pl aQ H' s1) (hD:aB.heap.objs.size<=Dd) (hn:H' Dd=none) (hd:s1.heap.get? Dd=some { cls:=.type "list",data:=.seq its.toArray n }) (rv:Vals xs its) (hz:xs.length<=ck) (hf:∀b∈fp,fL X pins aI b) :
 Inv X pins σ (upd H' Dd (.lst xs)) s1:=by
 have os:s1.os=aB.os:=J.os
 have un:Un (cW X.stack) fp aI H' aB.heap s1.heap:=J.base
 have aS:dq X.prog X.w H' s1.heap:=J.aS
 have bare:nD s1.gens:=J.bare
 clear J
 obtain⟨hh,gg,dd,tt,kL⟩:=s1
 obtain rfl:kL=aB.os:=os
 have GI:∀b o,aB.heap.get? b=some o->b≠Dd:=λb o e=>cN (cI (bE e) hD)
 refine I.call (h':=hh) (g':=gg) (d':=dd) (t':=tt) (ch:=fp) ⟨un.keep,un.slot,λb o e n' hx=>?_,un.there,λb ys e=>?_,λb o u e=>?_,λb ps e=>?_⟩ (Pm aS hn ⟨hz,its,n,rv,hd⟩) bare λb hb=>?_
 ·rw[bS (GI b o e)];exact un.free b o e n' hx
 ·have q:=un.jO b ys e
  rw[bS (g_ q hn)];exact q
 ·have q:=un.ji b o u e
  rw[bS (g_ q hn)];exact q
 ·obtain⟨more,q⟩:=un.jP b ps e
  exact⟨more,by rw[bS (g_ q hn)];exact q⟩
 ·obtain⟨f0,f1,f2,f3,f4,f5⟩:=hf b hb
  exact⟨f3.imp_right λz=>Ad z,f1,f4,f5⟩
theorem ZD{X:Cx}{y:Str}{scope:da}{C:Addr}{fp:List Addr}{pins:List (Addr×Obj)}{σ:St}{aI:Hp}{aB:ai}(I:Inv X pins σ aI aB)(c:Ce X.N X.env y scope)(hC:aB.heap.objs.size<=C)(hf:∀b∈fp,fL X pins aI b)(ho:∀b∈fp,b<aB.heap.objs.size) :
 (dw X y scope C aB aI fp (X.pn++pins)).Ok:=by
 have cells:∀x k,(cL X.env scope.names []).lookup x=some k->X.env.cells.lookup x=some k:=λx k e=>by
  rcases m7 scope.names [] (jI e) with q | q
  ·simp at q
  ·exact q
 refine⟨I.ok.mod,c.kind,I.ok.glob,I.ok.blt,hC,λx z k h1 h2=>I.ok.inj x z k (cells x k h1) (cells z k h2),λx hx=>?_,λx k h _=>absurd h (by simp[dw]),I.ok.hd,I.ok.frames,.inl rfl,λb hb=>?_,I.bs,fB I.ok.kI I.sz,λb o e hb=>?_,λb hb z=>?_,I.stack,I.AQ⟩
 ·have qZ:(lA scope X.env).names.lookup x=some .cell∨(lA scope X.env).names.lookup x=some .free:=hx
  have hm:∃k,(x,k)∈scope.names/\(k = .free∨k = .cell):=by
   rcases qZ with q | q <;>
   ·have m:=jI q
    unfold lA at m
    simp only[uO] at m
    obtain⟨⟨n,k⟩,hm,e⟩:=m
    by_cases hc:(k==qG&&X.env.scope.kind == .function&&X.env.kindOf n==some .cell)=true
    ·rw[if_pos hc] at e
     have e1:n=x:=congrArg uV e
     subst e1
     rw[jf,jf] at hc
     exact⟨k,hm,.inl (Cb hc.1.1)⟩
    ·rw[if_neg hc] at e
     have e1:n=x:=congrArg uV e
     have e2:=congrArg Ax e
     dsimp only at e2
     subst e1 e2
     exact⟨_,hm,by first | exact .inr rfl | exact .inl rfl⟩
  obtain⟨k,hm,hk⟩:=hm
  rcases hk with rfl | rfl
  ·obtain⟨⟨a,ea⟩,_⟩:=c.free _ hm rfl
   obtain⟨c',h1,_⟩:=t5 (t4 ea scope.names [] hm)
   exact⟨c',h1⟩
  ·exact absurd rfl (c.rP _ hm)
 ·refine⟨cN (cI (ho b hb) hC),λx k e=>(hf b hb).2.2.2.2.1 x k (cells x k e)⟩
 ·rcases(hf b hb).2.2.2.1 with z | z
  ·exact I.ok.u9 b o e z
  ·exact absurd (cI (cI (bE e) I.ok.kI) z) (jb _)
 ·rcases List.mem_cons.mp (I.nX b z) with q | q
  ·exact(hf b hb).2.1 q
  ·exact(hf b hb).2.2.1 q
section
variable {X:Cx}{y:Str}{scope:da}
theorem ZE{C Dd:Addr}{fp:List Addr}{pins:List (Addr×Obj)}{σ:St}{aI:Hp}{aB:ai}{eG:Heap}{tk:Nat}{oD:Obj}{m:Str->Option Value}(I:Inv X pins σ aI aB)(c:Ce X.N X.env y scope)(hC:aB.heap.objs.size<=C)(hD:aB.heap.objs.size<=Dd)(gG:Dd≠C)(hf:∀b∈fp,fL X pins aI b)(ho:∀b∈fp,b<aB.heap.objs.size)
 (old:∀b o,aB.heap.get? b=some o->eG.get? b=some o) (vg:eG.Ns C m) (hd:eG.get? Dd=some oD) (GJ:∀v,oD.data ≠ .cell v) :
 Inv (dw X y scope C aB aI fp (X.pn++pins)) [(Dd,oD)] (none::σ) aI { aB with heap:=eG,toks:=tk }:=by
 have cells:∀x k,(cL X.env scope.names []).lookup x=some k->X.env.cells.lookup x=some k:=λx k e=>by
  rcases m7 scope.names [] (jI e) with q | q
  ·simp at q
  ·exact q
 have GK:∀b,aB.heap.objs.size<=b->b ∉ cW X.stack:=λb hb z=>by
  rcases List.mem_cons.mp (I.nX b z) with q | q
  ·exact absurd (cI I.lt (by rw[<-q];exact hb)) (jb _)
  ·exact I.DS hb q
 refine⟨ZD I c hC hf ho,rfl,I.bare,Un.kept old,⟨m,vg,λi x v e1 e2 e3=>?_⟩,λx k e=>?_,I.aS.fresh hC,λx k e=>I.mE x k (cells x k e),λp hp=>?_,I.aS.kept old,?_⟩
 ·cases i with
  | zero=>simp at e2
  | succ i =>
    have GL:σ[i]? = some (some v):=by simpa using e2
    have ik:(X.N.map (λz=>if z=y then ("":Str) else z))[i]? = some x:=by simpa [dw] using e1
    rw[cm] at ik
    cases hz:X.N[i]? with
    | none=>rw[hz] at ik;cases ik
    | some z =>
      rw[hz] at ik
      simp only[xh,sE] at ik
      have t6:nV (lA scope X.env) x:=e3
      have m8:∀{k:nJ},(lA scope X.env).names.lookup x=some k->∃k',(x,k')∈scope.names/\(k'=k∨(k' = .free/\k = .cell)):=λ{k} q=>by
       have m':=jI q
       unfold lA at m'
       simp only[uO] at m'
       obtain⟨⟨n,k0⟩,hm,e⟩:=m'
       by_cases hc:(k0==qG&&X.env.scope.kind == .function&&X.env.kindOf n==some .cell)=true
       ·rw[if_pos hc] at e
        have e1:n=x:=congrArg uV e
        have e2:=congrArg Ax e
        dsimp only at e2
        subst e1 e2
        rw[jf,jf] at hc
        exact⟨k0,hm,.inr ⟨Cb hc.1.1,rfl⟩⟩
       ·rw[if_neg hc] at e
        have e1:n=x:=congrArg uV e
        have e2:=congrArg Ax e
        dsimp only at e2
        subst e1 e2
        exact⟨_,hm,.inl rfl⟩
      have GN:∀k',(x,k')∈scope.names->x≠("":Str):=λk' hm z=>by
       subst z
       obtain⟨c',h1,_⟩:=t5 hm
       rw[c.nil] at h1;cases h1
      have ne:x≠("":Str):=by
       rcases t6 with q | q | q<;>(obtain⟨k',hm,_⟩:=m8 q;exact GN k' hm)
      by_cases pS:z=y
      ·rw[if_pos pS] at ik;exact absurd ik.symm ne
      ·rw[if_neg pS] at ik
       subst ik
       have fr:(z,qG)∈scope.names:=by
        rcases t6 with q | q | q
        ·obtain⟨k',hm,hk⟩:=m8 q
         rcases hk with rfl | ⟨_,hk⟩
         ·exact absurd (c.only z (fV hz) (c.names _ hm rfl)) pS
         ·cases hk
        ·obtain⟨k',hm,hk⟩:=m8 q
         rcases hk with rfl | ⟨rfl,_⟩
         ·exact absurd rfl (c.rP _ hm)
         ·exact hm
        ·obtain⟨k',hm,hk⟩:=m8 q
         rcases hk with rfl | ⟨_,hk⟩
         ·exact hm
         ·cases hk
       obtain⟨⟨ca,ZF⟩,hv⟩:=c.free _ fr rfl
       obtain⟨m0,B1,GO⟩:=I.loc
       obtain⟨u,ru,lk⟩:=GO i z v hz GL (.inr hv)
       refine⟨u,ru,?_⟩
       rcases lk with ⟨q,_⟩ | ⟨_,k,ek,hk⟩
       ·exfalso
        have q':X.env.scope.names.lookup z=some .local:=q
        rcases hv with w | w<;>(rw[q'] at w;cases w)
       ·obtain⟨c',h1,_⟩:=t5 (t4 ek scope.names [] fr)
        have h2:=cells z c' h1
        rw[ek] at h2;cases h2
        refine .inr ⟨?_,k,h1,?_⟩
        ·rcases t6 with q | q | q
         ·exfalso
          obtain⟨k',hm,b9⟩:=m8 q
          rcases b9 with rfl | ⟨_,b9⟩
          ·exact pS (c.only z (fV hz) (c.names _ hm rfl))
          ·cases b9
         ·exact .inl q
         ·exact .inr q
        ·obtain⟨o,dR,iX⟩:=hk
         exact⟨o,old _ _ dR,iX⟩
 ·obtain⟨v,o,dR,iX⟩:=I.cell x k (cells x k e)
  exact⟨v,o,old _ _ dR,iX⟩
 ·rcases List.mem_append.mp hp with q | q
  ·obtain⟨h1,h2,h3,h4,h5⟩:=I.pin p q
   refine⟨old _ _ h1,h2,cN (cI (bE h1) hC),λz=>?_,h5⟩
   rcases List.mem_cons.mp (I.nX p.1 z) with q' | q'
   ·exact h3 q'
   ·exact h4 q'
  ·have e:p=(Dd,oD):=by simpa using q
   subst e
   exact⟨hd,I.aS.fresh hD,gG,GK Dd hD,GJ⟩
 ·show σ.length+1=(y::X.N.map _).length
  rw[de,bu,I.len]
def ZG(X:Cx)(y:Str)(scope:da)(ifs:List Expr)(elt:Expr)(r:R (Option D))(C:Addr)(aB:ai)(aI:Hp)(fp:List Addr)(pn pins:List (Addr×Obj))(s:ai)(σ:St)(H:Hp)(F:List Addr):Prop :=
    ax (aF X.prog X.w) X.A (forIn ifs true λc r=>if r=true then do let ok <-oP c (iB scope (cL X.env scope.names []) C X.env) (eval c (iB scope (cL X.env scope.names []) C X.env));pure (nQ ok) else pure (nQ r)) (λok iM =>
     if ok=true then ax (aF X.prog X.w) X.A (eval elt (iB scope (cL X.env scope.names []) C X.env)) (λu gH=>∃e v H',r = .ok (some e)/\Inv (dw X y scope C aB aI fp pn) pins σ H' gH/\RelV v u/\aT H H'/\Is X.K (aV F H') e v) (λ_ _=>False) iM
     else r = .ok none/\∃H',Inv (dw X y scope C aB aI fp pn) pins σ H' iM/\aT H H') (λ_ _=>False) s
structure Cf (X:Cx) (y:Str) (scope:da) (ifs:List Expr) (elt:Expr) (f:D->G->R (Option D)):Prop where
 run:∀(C:Addr) (aB:ai) (aI:Hp) (fp:List Addr) (pn:List (Addr×Obj)) (pins:List (Addr×Obj)) (s:ai) (σ:St) (H:Hp) (F:List Addr) (Γ:G) (d:D),Inv (dw X y scope C aB aI fp pn) pins σ H s->bZ H F->Rel X.K H F (.ro d::Γ) σ->(∃o,f d Γ = .ok o) ->
  ax (aF X.prog X.w) X.A (forIn ifs true λc r=>if r=true then do let ok <-oP c (iB scope (cL X.env scope.names []) C X.env) (eval c (iB scope (cL X.env scope.names []) C X.env));pure (nQ ok) else pure (nQ r)) (λok iM =>
   if ok=true then ax (aF X.prog X.w) X.A (eval elt (iB scope (cL X.env scope.names []) C X.env)) (λu gH=>∃e v H',f d Γ = .ok (some e)/\Inv (dw X y scope C aB aI fp pn) pins σ H' gH/\RelV v u/\aT H H'/\Is X.K (aV F H') e v) (λ_ _=>False) iM
   else f d Γ = .ok none/\∃H',Inv (dw X y scope C aB aI fp pn) pins σ H' iM/\aT H H') (λ_ _=>False) s
theorem me{elt:Expr}{ge:G->R D}(he:∀C aB aI fp pn,iL (dw X y scope C aB aI fp pn) elt ge):Cf X y scope [] elt (eh ge):=by
 refine⟨λC aB aI fp pn pins s σ H F Γ d I fo rl ⟨o,eo⟩=>?_⟩
 refine wpAny_tests_nil ?_
 rw[if_pos rfl]
 have a8:ge (.ro d::Γ) ≠ .no:=λz=>by unfold eh at eo;rw[z] at eo;cases eo
 refine aC ((he C aB aI fp pn).run pins s σ H F (.ro d::Γ) I fo rl a8) (λu s4 ⟨e,v,H',e1,I',rv,S,iv⟩=>⟨e,v,H',R.step e1 _,I',rv,S,iv⟩) λx s' ⟨c,H',e1,_⟩=>?_
 unfold eh at eo;rw[e1] at eo;cases eo
theorem Pn{elt c:Expr}{gc:G->R Bool}{ge:G->R D}(hc:∀C aB aI fp pn,kx (dw X y scope C aB aI fp pn) c gc)(he:∀C aB aI fp pn,iL (dw X y scope C aB aI fp pn) elt ge):Cf X y scope [c] elt (pA gc ge):=by
 refine⟨λC aB aI fp pn pins s σ H F Γ d I fo rl ⟨o,eo⟩=>?_⟩
 have a8:gc (.ro d::Γ) ≠ .no:=λz=>by unfold pA at eo;rw[z] at eo;cases eo
 refine a6l (aC ((hc C aB aI fp pn).run pins s σ H F (.ro d::Γ) I fo rl a8) (λk s3 ⟨H1,e1,I1,S1⟩=>?_) λx s' ⟨c',H',e1,_⟩=>?_)
 ·have m9:(if k=true then ge (.ro d::Γ)>>=λe=>R.ok (some e) else .ok none) = .ok o:=by
   unfold pA at eo;rw[e1] at eo;exact eo
  cases k with
  | false =>
    rw[if_neg qw]
    exact⟨R.step e1 _,H1,I1,S1⟩
  | true =>
    rw[if_pos rfl] at m9 ⊢
    have GP:ge (.ro d::Γ) ≠ .no:=λz=>by rw[z] at m9;cases m9
    refine aC ((he C aB aI fp pn).run pins s3 σ H1 F (.ro d::Γ) I1 (fo.same S1) (rl.same S1) GP) (λu s4 ⟨e,v,H',e2,I',rv,S,iv⟩=>⟨e,v,H',(R.step e1 _).trans (R.step e2 _),I',rv,S1.trans S,iv⟩) λx s' ⟨c',H',e2,_⟩=>?_
    rw[e2] at m9;cases m9
 ·unfold pA at eo;rw[e1] at eo;cases eo
theorem GQ{K:aD}{H:Hp}{F:List Addr}{Γ:G}{σ:St}{d:D}{v:V}(r:Rel K H F Γ σ)(i:Is K (aV F H) d v):Rel K H F (.ro d::Γ) (some v::σ) where
 len:=by rw[de,de,r.len]
 ro:=λj d' h=>by
  cases j with
  | zero=>simp at h;cases h;exact⟨v,rfl,i⟩
  | succ j=>exact r.ro j d' (by simpa using h)
 own:=λj ds h=>by
  cases j with
  | zero=>simp at h
  | succ j=>exact r.own j ds (by simpa using h)
 inj:=λj k ds es a h1 h2 h3 h4=>by
  cases j with
  | zero=>simp at h1
  | succ j =>
    cases k with
    | zero=>simp at h2
    | succ k=>rw[r.inj j k ds es a (by simpa using h1) (by simpa using h2) (by simpa using h3) (by simpa using h4)]
theorem Cg{n a i:Nat}(e:n=a-i)(h:i<a):a-(i+1)<n:=by lia
theorem Po{a c d:Nat}(h:c=d+1)(e:a=d):(d≠c/\a<=c/\a<=d)/\∀b,b<a->b≠c/\b≠d:=⟨⟨by lia,by lia,by lia⟩,λb hb=>⟨by lia,by lia⟩⟩
theorem Pp{elt iter:Expr}{px pos:Pos}{ifs:List Expr}{f:D->G->R (Option D)}{pins:List (Addr×Obj)}{σ:St}{aI:Hp}{aB:ai}{F:List Addr}{Γ:G}{items:List D}{it:Addr}{fp:List Addr}{tn:Nat->Heap->Prop}{J:It}{E:Value->ai->Prop}{total:List D}
 (hp:∀(C:Addr) (ps:List (Addr×Obj)) (s:ai) (x:V) (H:Hp) (d:D),Inv (dw X y scope C aB aI fp (X.pn++pins)) ps (some x::σ) H s->aT aI H->bZ H F->Rel X.K H F (.ro d::Γ) (some x::σ)->(∃o,f d Γ = .ok o)->ZG X y scope ifs elt (f d Γ) C aB aI fp (X.pn++pins) ps s (some x::σ) H F)
 (c:Ce X.N X.env y scope) (hN:X.N.Nodup) (eI:X.calm=true) (I:Inv X pins σ aI aB) (fo:bZ aI F) (rl:Rel X.K aI F Γ σ) (T:Turn X.prog X.w X.K (.Name y px) J fp it tn) (t0:tn 0 aB.heap) (hf:∀b∈fp,fL X pins aI b) (hj:JC X.K aI F J items)
 (ht:cD (λd=>f d Γ) items [] = .ok total) (hl:items.length<=100000) {RR:Value->Addr->Ah->ai->Prop}
 (hR:∀(Dd C:Addr) (xs:List V) (H':Hp) (m:Str->Option Value) (s':ai),aB.heap.objs.size<=C->Dd≠C->aI Dd=none->H' Dd=none->H' C=none->aB.heap.objs.size<=Dd->aT aI H'->aA X.K (aV F H') total xs->Inv X pins σ (upd H' Dd (.lst xs)) s'->s'.heap.Ns C m->RR (.ref Dd) C (.ok .next) s') :
 ax (aF X.prog X.w) X.A (Kl []) (λacc iM=>ax (aF X.prog X.w) X.A (a6m scope X.env.globals (cL X.env scope.names []) [] X.env.qual none .none (some X.env)) (λyY gH =>
  nG (aF X.prog X.w) X.A (.compStart (.ListComp elt [⟨.Name y px,iter,ifs,0⟩] scope pos) 0 (.ref it) acc { yY with scope:=lA scope X.env }) (RR acc yY.locals) gH) E iM) E aB:=by
 have ho:∀b∈fp,b<aB.heap.objs.size:=λb hb=>by obtain⟨o,e,_⟩:=T.obj _ _ t0 b hb;exact bE e
 refine oR (a6n c.rP (by intro y hy;simp at hy) (λeG pT m_=>?_) c.kind)
 dsimp only at pT m_ ⊢
 generalize t7:aB.heap.push { cls:=.type "list",dict:=none,data:=.seq ([]:List Value).toArray }=H2 at pT m_ ⊢
 have t9:H2.objs.size=aB.heap.objs.size+1:=by rw[<-t7,iw]
 generalize ZH:H2.objs.size=C at pT m_ t9 ⊢
 generalize yZ:aB.heap.objs.size=Dd at t9 ⊢
 obtain⟨⟨gG,hC,hD⟩,below⟩:=Po t9 yZ
 have old:∀b o,aB.heap.get? b=some o->eG.get? b=some o:=λb o e=>by
  refine m_.extBut b o (below b (bE e)).1 ?_
  exact bP _ (t7 ▸ bP _ e)
 have t_:eG.get? Dd=some { cls:=.type "list",dict:=none,data:=.seq ([]:List Value).toArray }:=by
  refine m_.extBut _ _ gG ?_
  refine bP _ ?_
  rw[<-t7,<-yZ]
  exact dQ _ rfl
 have J0:∀tk,Inv (dw X y scope C aB aI fp (X.pn++pins)) [(Dd,{ cls:=.type "list",dict:=none,data:=.seq ([]:List Value).toArray })] (none::σ) aI { aB with heap:=eG,toks:=tk }:=λtk =>
  ZE I c hC hD gG hf ho old pT t_ (λv z=>nomatch z)
 have t1:tn 0 eG:=T.keep _ _ _ t0 λb hb o e=>old b o e
 have ua:∀{H':Hp} {o:Obj},(∀b∈fp,H' b=none)->∀b∈fp,fL (dw X y scope C aB aI fp (X.pn++pins)) [(Dd,o)] H' b:=λ{H' o} hn b hb=>by
  obtain⟨f0,f1,f2,f3,f4,f5⟩:=hf b hb
  have lt:=ho b hb
  refine⟨hn b hb,(below b lt).1,λz=>?_,.inl hb,λx k e=>?_,λp cA=>?_⟩
  ·rcases List.mem_cons.mp (I.nX b z) with q | q
   ·exact f1 q
   ·exact f2 q
  ·rcases m7 scope.names [] (jI e) with q | q
   ·simp at q
   ·exact f4 x k q
  ·rcases List.mem_append.mp cA with q | q
   ·exact f5 p q
   ·have e:p=(Dd,o):=by simpa using q
    subst e
    exact gJ (below b lt).2
 have Ci:(dw X y scope C aB aI fp (X.pn++pins)).N.Nodup:=by
  show(y::X.N.map (λz=>if z=y then ("":Str) else z)).Nodup
  refine List.nodup_cons.mpr ⟨λz=>?_,?_⟩
  ·obtain⟨z',hz,e⟩:=List.mem_map.mp z
   by_cases q:z'=y
   ·rw[if_pos q] at e
    subst e
    have:=c.loc;rw[c.nil] at this;cases this
   ·rw[if_neg q] at e;exact q e
  ·have inj:∀a∈X.N,∀b∈X.N,(if a=y then ("":Str) else a)=(if b=y then ("":Str) else b)->a=b:=λa ha b hb e=>by
    by_cases qa:a=y
    ·by_cases qb:b=y
     ·rw[qa,qb]
     ·rw[if_pos qa,if_neg qb] at e;exact absurd e.symm (c.none b hb)
    ·by_cases qb:b=y
     ·rw[if_neg qa,if_pos qb] at e;exact absurd e (c.none a ha)
     ·rw[if_neg qa,if_neg qb] at e;exact e
   have gen:∀l:List Str,(∀a∈l,a∈X.N)->l.Nodup->(l.map (λz=>if z=y then ("":Str) else z)).Nodup:=by
    intro l
    induction l with
    | nil=>intro _ _;exact a6o
    | cons a l ih =>
      intro hs nd
      obtain⟨n1,n2⟩:=List.nodup_cons.mp nd
      rw[cJ]
      refine List.nodup_cons.mpr ⟨λz=>?_,ih (λb hb=>hs b (bL _ hb)) n2⟩
      obtain⟨b,hb,e⟩:=List.mem_map.mp z
      exact n1 (inj b (hs b (bL _ hb)) a (hs a bB) e ▸ hb)
   exact gen X.N (λ_ h=>h) hN
 let L:Nat->ai->Prop:=λn s'=>∃(i:Nat) (H':Hp) (o:Option V) (xs:List V) (its:List Value) (acc:List D) (k:Nat),n=items.length-i/\i<=items.length/\Inv (dw X y scope C aB aI fp (X.pn++pins)) [(Dd,{ cls:=.type "list",dict:=none,data:=.seq its.toArray k })] (o::σ) H' s' /\
  aT aI H'/\(∀b∈fp,H' b=none)/\tn i s'.heap/\Vals xs its/\acc.length<=i/\aA X.K (aV F H') acc xs/\cD (λd=>f d Γ) (items.drop i) acc = .ok total
 have loop:∀gH:ai,L items.length gH->nG (aF X.prog X.w) X.A (.compLoop (.ListComp elt [⟨.Name y px,iter,ifs,0⟩] scope pos) 0 (.ref it) (.ref Dd) (iB scope (cL X.env scope.names []) C X.env)) (RR (.ref Dd) C) gH:=λgH h4=>by
  refine codeAny_compLoop_tests L (λn s' hL=>aC (E:=λ_ _=>False) ?_ (λ_ _ q=>q) λ_ _ z=>z.elim) items.length h4
  obtain⟨i,H',o,xs,its,acc,k,en,hi,J',S',y7,y8,rv,rM,ia,eg⟩:=hL
  obtain⟨pU,pV⟩:=hj H' S'
  have ZI:=J'.pin (Dd,{ cls:=.type "list",dict:=none,data:=.seq its.toArray k }) (c6 _ (by simp))
  have i6:xs.length<=100000:=by rw[<-ia.length];exact fB rM (fB hi hl)
  have pN:(100000:Nat)<=ck:=by rw[nE];decide
  by_cases a_:i<items.length
  ·obtain⟨go,yl⟩:=pU i a_
   refine eM (T.item (dw X y scope C aB aI fp (X.pn++pins)) rfl rfl rfl eI i _ s' _ H' (λ_ _=>False) J' (ua y7) y8 go) λr s2 ⟨u,hr,h1⟩=>?_
   subst hr
   refine ZA (a:=()) h1 λ⟨x,H5,J5,r5,y5,ip,pX⟩=>?_
   obtain⟨e5,d,ed,iv⟩:=yl x H5 y5
   subst e5
   have GR:=J5.pinned (ua pX) (T.obj _ _ ip)
   have pY:items.drop i=d::items.drop (i+1):=by
    rw[Ay a_]
    have:items[i]=d:=by
     have:=cf a_
     rw[ed] at this;exact(iQ this).symm
    rw[this]
   rw[pY] at eg
   have GS:∃od,f d Γ = .ok od/\(match od with | some e=>cD (λd=>f d Γ) (items.drop (i+1)) (acc++[e]) | none=>cD (λd=>f d Γ) (items.drop (i+1)) acc) = .ok total:=by
    unfold cD at eg
    cases q:f d Γ with
    | no=>simp only[q] at eg;cases eg
    | er c'=>simp only[q] at eg;cases eg
    | ok od =>
      refine⟨od,rfl,?_⟩
      cases od with
      | none=>simp only[q] at eg;exact eg
      | some e=>simp only[q] at eg;exact eg
   obtain⟨od,ub,y9⟩:=GS
   have pZ:PG (dw X y scope C aB aI fp (X.pn++pins)).bG (.Name y px) (nY 0):=pf (X:=(dw X y scope C aB aI fp (X.pn++pins)).bG) Ci rfl (.inl (Az c.loc)) (.inr (Az c.loc))
   refine aC (pZ _ s2 (o::σ) H5 x u (λaQ H'=>aQ=some x::σ/\H'=H5) (GR.cZ _) r5 ⟨rfl,rfl⟩) (λ_ s3 ⟨Cj,H6,J6,e6,p4⟩=>?_) λ_ _ z=>z.elim
   subst e6 p4
   have GU:=J6.dr
   have GV:=fo.same S'
   refine aC (hp C _ s3 x H6 d GU S' GV (GQ (rl.same S') iv) ⟨od,ub⟩) (λok s4 h4=>?_) λ_ _ z=>z.elim
   have back:∀{s5:ai} {H7:Hp} {b5:St},Inv (dw X y scope C aB aI fp (X.pn++pins)) ([(Dd,{ cls:=.type "list",dict:=none,data:=.seq its.toArray k })]++qR fp s2.heap) b5 H7 s5->tn (i+1) s5.heap/\(∀b∈fp,H7 b=none):=λ{s5 H7 b5} J7=>by
    refine⟨T.keep _ _ _ ip λb hb o' e=>(J7.pin (b,o') (c6 _ (c6 _ (n4 hb e)))).1,λb hb=>?_⟩
    obtain⟨o',e,dd⟩:=T.obj _ _ ip b hb
    exact(J7.pin (b,o') (c6 _ (c6 _ (n4 hb e)))).2.1
   cases ok with
   | false =>
     rw[if_neg qw] at h4 ⊢
     obtain⟨ef,H7,J7,S7⟩:=h4
     rw[ub] at ef;cases ef
     obtain⟨uc,ud⟩:=back J7
     exact⟨items.length-(i+1),Cg en a_,i+1,H7,some x,xs,its,acc,k,rfl,a_,J7.jk,S'.trans S7,ud,uc,rv,a6p rM,ia.same (jC S7),y9⟩
   | true =>
     rw[if_pos rfl] at h4 ⊢
     refine aC h4 (λu7 s5 ⟨e,v7,H7,ef,J7,r7,S7,GW⟩=>?_) λ_ _ z=>z.elim
     rw[ub] at ef;cases ef
     obtain⟨uc,ud⟩:=back J7
     have J8:=J7.jk
     have p5:=J8.pin (Dd,{ cls:=.type "list",dict:=none,data:=.seq its.toArray k }) (c6 _ (by simp))
     have hlen:its.length=acc.length:=by rw[<-rv.length,<-ia.length]
     refine a6q (l:=Dd) (items:=its.toArray) (x:=u7) ⟨k,p5.1⟩ (λh' GX tQ=>?_) (by rw[dc,<-rv.length];exact fB i6 pN)
     obtain⟨k',b9⟩:=GX
     have GY:its.toArray.push u7=(its++[u7]).toArray:=by simp
     rw[GY] at b9
     have J9:Inv (dw X y scope C aB aI fp (X.pn++pins)) [] (some x::σ) H7 s5:=J8.u_ λp cA=>by simp at cA
     have GZ:Inv (dw X y scope C aB aI fp (X.pn++pins)) [] (some x::σ) H7 { s5 with heap:=h' }:=J9.turned (t':=s5.toks) (it:=Dd) (λb o' hb e'=>(tQ.2 b hb).trans e') p5.2.1 gG (.inr hD) (λx' y_ e' z=>by
      rcases m7 scope.names [] (jI e') with q | q
      ·simp at q
      ·obtain⟨v',o',dR,_⟩:=I.cell x' y_ q
       exact(below y_ (bE dR)).2 z) (λp cA z=>by
      rcases List.mem_append.mp cA with q | q
      ·obtain⟨za,_⟩:=I.pin p q
       exact(below p.1 (bE za)).2 z
      ·simp at q)
     have G0:Inv (dw X y scope C aB aI fp (X.pn++pins)) [(Dd,{ cls:=.type "list",dict:=none,data:=.seq (its++[u7]).toArray k' })] (some x::σ) H7 { s5 with heap:=h' }:=GZ.u_ λp cA=>by
      have e':p=(Dd,{ cls:=.type "list",dict:=none,data:=.seq (its++[u7]).toArray k' }):=by simpa using cA
      subst e'
      exact⟨b9,p5.2.1,gG,p5.2.2.2.1,λv z=>nomatch z⟩
     refine⟨items.length-(i+1),Cg en a_,i+1,H7,some x,xs++[v7],its++[u7],acc++[e],k',rfl,a_,G0,S'.trans S7,ud,T.keep _ _ _ uc λb hb o' e'=>(tQ.2 b (below b (ho b hb)).2).trans e',rv.append (.cons r7 .nil),by rw[fD,xc];exact a6r rM,(ia.same (jC S7)).append (aA.cons GW aA.nil),y9⟩
  ·have rD:i=items.length:=a6s hi (RX a_)
   subst rD
   refine eM (T.done (dw X y scope C aB aI fp (X.pn++pins)) rfl rfl rfl eI _ _ s' _ H' (λ_ _=>False) J' (ua y7) y8 pV) λr s1 ⟨hr,J1⟩=>?_
   subst hr
   have ue:=J1.pin (Dd,{ cls:=.type "list",dict:=none,data:=.seq its.toArray k }) (c6 _ (by simp))
   rw[Aj] at eg
   have:acc=total:=by unfold cD at eg;cases eg;rfl
   subst this
   obtain⟨mC,p6,_⟩:=J1.loc
   exact hR Dd C xs H' mC s1 hC gG (I.aS.fresh hD) ue.2.1 J1.free hD S' ia (ZC I J1 hD ue.2.1 ue.1 rv (fB i6 pN) hf) p6
 have L0:∀tk,L items.length { aB with heap:=eG,toks:=tk }:=λtk=>⟨0,aI,none,[],[],[],_,rfl,iT _,J0 tk,.refl _,λb hb=>(hf b hb).1,t1,.nil,a7 _,aA.nil,by rw[xg];exact ht⟩
 exact a6t (loop _ (L0 _)) (T.self _ 0 _ _ _ t1 (loop _ (L0 _)))
theorem nc{elt iter:Expr}{px pos:Pos}{ifs:List Expr}{f:D->G->R (Option D)}{gi:G->R (List D)}(hi:Ca X (.Name y px) iter gi)(hp:Cf X y scope ifs elt f)(hN:X.N.Nodup)(eI:X.calm=true)
 (zb:Cd X.N X.env y scope=true:=by rfl) (zc:SE scope X.env=pure (cL X.env scope.names []):=by rfl) (hs:∀x,AA iter X.env x=pure x:=by intro _;rfl) :
 PF X (.ListComp elt [⟨.Name y px,iter,ifs,0⟩] scope pos) (dg gi f):=by
 refine⟨λpins s σ H F Γ I fo rl hg=>?_⟩
 have c:=Pl zb
 rw[eval_ListComp]
 refine SF (use:=none) rfl hs zc c.kind c.names (aC (hi.run pins s σ H F Γ I fo rl (R.left hg)) (λxv cu eG=>aC eG (λkK aB zd=>?_) λ_ _ x=>x.bind _) λ_ _ x=>x.bind _)
 obtain⟨items,it,fp,tn,J,aI,e1,rfl,I2,S2,T,t0,fk,jc⟩:=zd
 have fR:=R.next hg e1
 obtain⟨hl,e2⟩:=R.dF fR
 have a8:cD (λd=>f d Γ) items [] ≠ .no:=by
  have:=R.next hg e1
  rw[e2] at this;exact this
 obtain⟨total,et⟩:=xY a8
 refine Pp (RR:=λacc C=>SG (aF X.prog X.w) X.A _ none _ acc C) (λC ps s x H d J _ fo rl e=>hp.run C aB aI fp (X.pn++pins) ps s _ H F Γ d J fo rl e) c hN eI I2 (fo.same S2) (rl.same S2) T t0 fk jc et hl ?_
 intro Dd C xs H' m s' hC gG hn gm p6 hD S' ia I' ze
 refine⟨m,ze,λni zf=>?_⟩
 have p7:∀{b:Addr} {o:Obj},aB.heap.get? b=some o->b≠C:=λe=>cN (cI (bE e) hC)
 have G1:Inv X pins σ (upd H' Dd (.lst xs)) { s' with heap:=ni }:=I'.turned (t':=s'.toks) (it:=C) (λb o hb e=>zf.extBut b o hb e) (by rw[bS (gJ gG)];exact p6) (mi (cI I2.lt hC)) (.inr (fB I2.sz hC))
  (λx k e=>by obtain⟨v,o,ho,_⟩:=I2.cell x k e;exact p7 ho) (λp cA=>p7 (I2.pin p cA).1)
 have S3:=jD gm (.lst xs)
 refine⟨total,Dd,xs,_,(R.step e1 _).trans (e2.trans et),G1,rfl,(S2.trans S').trans S3,S2.free hn,dI,ia.same λb o hb=>?_⟩
 obtain⟨z1,z2⟩:=kW hb
 have m5:b≠Dd:=g_ z2 gm
 rw[e8 λz=>(List.mem_cons.mp z).elim m5 z1,bS m5]
 exact z2
end
def G2(X:Cx)(pins:List (Addr×Obj))(H:Hp)(F:List Addr)(Γ:G)(s':ai):Prop:=∃aQ H' F',Inv X pins aQ H' s'/\bZ H' F'/\Rel X.K H' F' Γ aQ/\Ext H F H' F'
def oK(X:Cx)(pins:List (Addr×Obj))(H:Hp)(F:List Addr)(r:R Fl)(u:Value)(s':ai):Prop:=∃v aQ H' F',Inv X pins aQ H' s'/\RelV v u/\Ext H F H' F' /\
 ((∃d,r = .ok (.rt d)/\Is X.K H' d v)∨∃ds a xs,r = .ok (.dJ ds)/\v = .ref a/\(a∈F∨H a=none)/\H' a=some (.lst xs)/\aA X.K H' ds xs)
theorem oK.map{X:Cx}{pins xB:List (Addr×Obj)}{H H1:Hp}{F F1:List Addr}{r r':R Fl}{u:Value}{s':ai}(h:oK X pins H1 F1 r u s')(E:Ext H F H1 F1)(hI:∀aQ H',Inv X pins aQ H' s'->Inv X xB aQ H' s')
 (h1:∀d,r = .ok (.rt d)->r' = .ok (.rt d)) (h2:∀ds,r = .ok (.dJ ds)->r' = .ok (.dJ ds)):oK X xB H F r' u s':=by
 obtain⟨v,aQ,H',F',I,rv,E',q⟩:=h
 refine⟨v,aQ,H',F',hI _ _ I,rv,E.trans E',?_⟩
 rcases q with ⟨d,e,i⟩ | ⟨ds,a,xs,e,ev,hn,ha,i⟩
 ·exact .inl ⟨d,h1 d e,i⟩
 ·refine .inr ⟨ds,a,xs,h2 ds e,ev,?_,ha,i⟩
  rcases hn with z | z
  ·exact E.old a z
  ·by_cases c:a∈F
   ·exact .inl c
   ·refine .inr ?_
    cases q:H a with
    | none=>rfl
    | some o=>rw[E.keep a o c q] at z;cases z
def uf(X:Cx)(pins:List (Addr×Obj))(H:Hp)(F:List Addr)(r:R Fl)(fl:Flow)(s':ai):Prop:=match fl with
 | .next=>∃Γ',r = .ok (.nx Γ')/\G2 X pins H F Γ' s'
 | .brk=>∃Γ',r = .ok (.bk Γ')/\G2 X pins H F Γ' s'
 | .cont=>∃Γ',r = .ok (.ct Γ')/\G2 X pins H F Γ' s'
 | .ret u=>oK X pins H F r u s'
def rQ(X:Cx)(pins:List (Addr×Obj))(H:Hp)(F:List Addr)(r:R Fl)(x:Value)(s':ai):Prop:=∃c Γ' aQ H' F',r = .ok (.ex c Γ')/\rN X pins aQ H' c x s'/\bZ H' F'/\Rel X.K H' F' Γ' aQ/\Ext H F H' F'
structure PQ (X:Cx) (st:Stmt) (g:G->R Fl):Prop where
 run:∀(pins:List (Addr×Obj)) (s:ai) (σ:St) (H:Hp) (F:List Addr) (Γ:G),Inv X pins σ H s->bZ H F->Rel X.K H F Γ σ->g Γ ≠ .no ->
  ax (aF X.prog X.w) X.A (exec st X.env) (uf X pins H F (g Γ)) (rQ X pins H F (g Γ)) s
structure kB (X:Cx) (st:List Stmt) (g:G->R Fl):Prop where
 run:∀(pins:List (Addr×Obj)) (s:ai) (σ:St) (H:Hp) (F:List Addr) (Γ:G),Inv X pins σ H s->bZ H F->Rel X.K H F Γ σ->g Γ ≠ .no ->
  ax (aF X.prog X.w) X.A (execs st X.env) (uf X pins H F (g Γ)) (rQ X pins H F (g Γ)) s
theorem uf.later{X:Cx}{pins:List (Addr×Obj)}{H H1:Hp}{F F1:List Addr}{r:R Fl}{fl:Flow}{s':ai}(E:Ext H F H1 F1)(h:uf X pins H1 F1 r fl s'):uf X pins H F r fl s':=by
 cases fl with
 | next=>obtain⟨Γ',e,aQ,H',F',h1,h2,h3,h4⟩:=h;exact⟨Γ',e,aQ,H',F',h1,h2,h3,E.trans h4⟩
 | brk=>obtain⟨Γ',e,aQ,H',F',h1,h2,h3,h4⟩:=h;exact⟨Γ',e,aQ,H',F',h1,h2,h3,E.trans h4⟩
 | cont=>obtain⟨Γ',e,aQ,H',F',h1,h2,h3,h4⟩:=h;exact⟨Γ',e,aQ,H',F',h1,h2,h3,E.trans h4⟩
 | ret u=>exact oK.map h E (λ_ _ I=>I) (λ_ e=>e) λ_ e=>e
theorem rQ.later{X:Cx}{pins:List (Addr×Obj)}{H H1:Hp}{F F1:List Addr}{r:R Fl}{x:Value}{s':ai}(E:Ext H F H1 F1)(h:rQ X pins H1 F1 r x s'):rQ X pins H F r x s':=by
 obtain⟨c,Γ',aQ,H',F',e,h1,h2,h3,h4⟩:=h
 exact⟨c,Γ',aQ,H',F',e,h1,h2,h3,E.trans h4⟩
theorem bV.lift{α:Type}{X:Cx}{pins:List (Addr×Obj)}{σ:St}{H:Hp}{F:List Addr}{Γ:G}{r:R α}{x:Value}{s':ai}(fo:bZ H F)(rl:Rel X.K H F Γ σ)(h:bV X pins σ H r x s')(k:α->R Fl):rQ X pins H F (lift r Γ k) x s':=by
 obtain⟨c,H',e,S,fl⟩:=h
 exact⟨c,Γ,σ,H',F,by rw[e];rfl,fl,fo.same S,rl.same S,.of_same S⟩
theorem Rel.ug{K:aD}{H:Hp}{F:List Addr}{Γ:G}{σ:St}{i:Nat}{d:D}{v:V}(r:Rel K H F Γ σ)(iv:Is K (aV F H) d v):Rel K H F (Γ.set i (.ro d)) (σ.set i (some v)) where
 len:=by rw[jJ,jJ,r.len]
 ro:=λj d' h=>by
  by_cases e:i=j
  ·subst e
   by_cases hi:i<Γ.length
   ·rw[gY hi] at h;cases h
    exact⟨v,gY (by rw[<-r.len];exact hi),iv⟩
   ·rw[fK (by rw[jJ];lia)] at h;cases h
  ·rw[fC e] at h
   rw[fC e]
   exact r.ro j d' h
 own:=λj ds h=>by
  by_cases e:i=j
  ·subst e
   by_cases hi:i<Γ.length
   ·rw[gY hi] at h;cases h
   ·rw[fK (by rw[jJ];lia)] at h;cases h
  ·rw[fC e] at h
   rw[fC e]
   exact r.own j ds h
 inj:=λj k ds es a h1 h2 h3 h4=>by
  by_cases ej:i=j
  ·subst ej
   by_cases hi:i<Γ.length
   ·rw[gY hi] at h1;cases h1
   ·rw[fK (by rw[jJ];lia)] at h1;cases h1
  ·by_cases ek:i=k
   ·subst ek
    by_cases hi:i<Γ.length
    ·rw[gY hi] at h2;cases h2
    ·rw[fK (by rw[jJ];lia)] at h2;cases h2
   ·rw[fC ej] at h1 h3
    rw[fC ek] at h2 h4
    exact r.inj j k ds es a h1 h2 h3 h4
theorem Rel.set_own{K:aD}{H H':Hp}{F:List Addr}{Γ:G}{σ:St}{i:Nat}{ds:List D}{xs:List V}{a:Addr}(r:Rel K H F Γ σ)(fo:bZ H F)(S:aT H H')(hn:H a=none)(ha:H' a=some (.lst xs))(iv:aA K (aV (a::F) H') ds xs):Rel K H' (a::F) (Γ.set i (.own ds)) (σ.set i (some (.ref a))) where
 len:=by rw[jJ,jJ,r.len]
 ro:=λj d' h=>by
  by_cases e:i=j
  ·subst e
   by_cases hi:i<Γ.length
   ·rw[gY hi] at h;cases h
   ·rw[fK (by rw[jJ];lia)] at h;cases h
  ·rw[fC e] at h
   rw[fC e]
   obtain⟨v,h1,h2⟩:=r.ro j d' h
   exact⟨v,h1,h2.same (O5 S hn)⟩
 own:=λj ds' h=>by
  by_cases e:i=j
  ·subst e
   by_cases hi:i<Γ.length
   ·rw[gY hi] at h;cases h
    exact⟨a,xs,gY (by rw[<-r.len];exact hi),bB,ha,iv⟩
   ·rw[fK (by rw[jJ];lia)] at h;cases h
  ·rw[fC e] at h
   rw[fC e]
   obtain⟨b,ys,h1,h2,h3,h4⟩:=r.own j ds' h
   exact⟨b,ys,h1,bL _ h2,S _ _ h3,h4.same (O5 S hn)⟩
 inj:=λj k ds' es b h1 h2 h3 h4=>by
  have nF:∀(l:Nat) (es':List D),i≠l->Γ[l]? = some (.own es')->σ[l]? ≠ some (some (.ref a)):=λl es' _ h z=>by
   obtain⟨b',ys,q1,q2,q3,_⟩:=r.own l es' h
   rw[z] at q1;cases q1
   rw[hn] at q3;cases q3
  by_cases ej:i=j
  ·by_cases ek:i=k
   ·rw[<-ej,<-ek]
   ·exfalso
    subst ej
    have hi:i<σ.length:=by
     by_cases hi:i<σ.length
     ·exact hi
     ·rw[fK (by rw[jJ];lia)] at h3;cases h3
    rw[gY hi] at h3;cases h3
    rw[fC ek] at h2 h4
    exact nF k es ek h2 h4
  ·by_cases ek:i=k
   ·exfalso
    subst ek
    have hi:i<σ.length:=by
     by_cases hi:i<σ.length
     ·exact hi
     ·rw[fK (by rw[jJ];lia)] at h4;cases h4
    rw[gY hi] at h4;cases h4
    rw[fC ej] at h1 h3
    exact nF j ds' ej h1 h3
   ·rw[fC ej] at h1 h3
    rw[fC ek] at h2 h4
    exact r.inj j k ds' es b h1 h2 h3 h4
theorem Rel.put{K:aD}{H:Hp}{F:List Addr}{Γ:G}{σ:St}{i:Nat}{ds ds':List D}{xs':List V}{a:Addr}(r:Rel K H F Γ σ)(e:Γ[i]? = some (.own ds))(ea:σ[i]? = some (some (.ref a)))(iv:aA K (aV F H) ds' xs'):Rel K (upd H a (.lst xs')) F (Γ.set i (.own ds')) σ/\a∈F:=by
 obtain⟨a',xs,h1,hF,h3,h4⟩:=r.own i ds e
 rw[ea] at h1;cases h1
 have hh:aV F (upd H a (.lst xs'))=aV F H:=by
  funext b
  by_cases hb:b∈F
  ·rw[yT hb,yT hb]
  ·rw[e8 hb,e8 hb,bS (λz=>hb (by rw[z];exact hF))]
 have hi:i<Γ.length:=(List.getElem?_eq_some_iff.mp e).1
 refine⟨⟨by rw[jJ,r.len],λj d' h=>?_,λj es h=>?_,λj k c9 wj b h1 h2 yP ZJ=>?_⟩,hF⟩
 ·by_cases ej:i=j
  ·subst ej;rw[gY hi] at h;cases h
  ·rw[fC ej] at h
   rw[hh];exact r.ro j d' h
 ·by_cases ej:i=j
  ·subst ej;rw[gY hi] at h;cases h
   exact⟨a,xs',ea,hF,dI,by rw[hh];exact iv⟩
  ·rw[fC ej] at h
   obtain⟨b,ys,q1,q2,q3,q4⟩:=r.own j es h
   refine⟨b,ys,q1,q2,?_,by rw[hh];exact q4⟩
   rw[bS (λz=>ej (r.inj i j ds es a e h ea (by rw[<-z];exact q1)))];exact q3
 ·have old:∀(l:Nat) (es':List D),(Γ.set i (En.own ds'))[l]? = some (En.own es')->∃G3,Γ[l]? = some (En.own G3):=λl es' h=>by
   by_cases el:i=l
   ·subst el;exact⟨ds,e⟩
   ·rw[fC el] at h;exact⟨es',h⟩
  obtain⟨e1,q1⟩:=old j c9 h1
  obtain⟨e2,q2⟩:=old k wj h2
  exact r.inj j k e1 e2 b q1 q2 yP ZJ
theorem Rel.fh{K:aD}{H:Hp}{F:List Addr}{Γ:G}{σ:St}(r:Rel K H F Γ σ)(fo:bZ H F)(i:Nat):∃F',bZ H F'/\(∀b,b∈F'->b∈F)/\Rel K H F' (L3.fh i Γ) σ:=by
 unfold L3.fh
 split
 ·rename_i ds e
  obtain⟨a,xs,h1,hF,h3,h4⟩:=r.own i ds e
  have hi:i<Γ.length:=(List.getElem?_eq_some_iff.mp e).1
  have sub:∀b,b∈F.filter (λb=>b != a)->b∈F:=λb hb=>(List.mem_filter.mp hb).1
  have up:aT (aV F H) (aV (F.filter (λb=>b != a)) H):=λb o hb=>by
   obtain⟨z1,z2⟩:=kW hb
   rw[e8 λz=>z1 (sub b z)];exact z2
  have na:a ∉ F.filter (λb=>b != a):=λz=>by simpa using (List.mem_filter.mp z).2
  refine⟨F.filter (λb=>b != a),λb hb=>fo b (sub b hb),sub,⟨by rw[jJ,r.len],λj d' h=>?_,λj es h=>?_,λj k c9 wj b q1 q2 q3 q4=>?_⟩⟩
  ·by_cases ej:i=j
   ·subst ej;rw[gY hi] at h;cases h
    exact⟨.ref a,h1,Is.fA.mpr ⟨a,xs,rfl,bM.of (by rw[e8 na];exact h3),h4.same up⟩⟩
   ·rw[fC ej] at h
    obtain⟨v,q1,q2⟩:=r.ro j d' h
    exact⟨v,q1,q2.same up⟩
  ·by_cases ej:i=j
   ·subst ej;rw[gY hi] at h;cases h
   ·rw[fC ej] at h
    obtain⟨b,ys,q1,q2,q3,q4⟩:=r.own j es h
    refine⟨b,ys,q1,List.mem_filter.mpr ⟨q2,?_⟩,q3,q4.same up⟩
    have:b≠a:=λz=>ej (r.inj i j ds es a e h h1 (z ▸ q1))
    simpa using this
  ·by_cases ej:i=j
   ·subst ej;rw[gY hi] at q1;cases q1
   ·by_cases ek:i=k
    ·subst ek;rw[gY hi] at q2;cases q2
    ·rw[fC ej] at q1
     rw[fC ek] at q2
     exact r.inj j k c9 wj b q1 q2 q3 q4
 ·exact⟨F,fo,λ_ h=>h,r⟩
section
variable {X:Cx}{st:Stmt}{rest:List Stmt}{t u:G->R Fl}{e a b c:Expr}{g ga gb:G->R D}{pos p pos':Pos}
theorem PQ.fh{st:Stmt}{g:G->R Fl}(i:Nat)(h:PQ X st g):PQ X st (λΓ=>g (L3.fh i Γ)):=by
 refine⟨λpins s σ H F Γ I fo rl hg=>?_⟩
 obtain⟨F',zg,sub,nj⟩:=rl.fh fo i
 have E:Ext H F H F':=⟨λ_ _ _ h=>h,λb hb=>.inl (sub b hb)⟩
 exact aC (h.run pins s σ H F' _ I zg nj hg) (λ_ _ q=>q.later E) λ_ _ q=>q.later E
theorem j4:kB X [] cQ:=⟨λpins s σ H F Γ I fo rl _=>AB ⟨Γ,rfl,σ,H,F,I,fo,rl,.refl⟩⟩
theorem aP(h1:PQ X st t)(h2:kB X rest u):kB X (st::rest) (aE t u):=by
 refine⟨λpins s σ H F Γ I fo rl hg=>?_⟩
 refine a6u (aC (h1.run pins s σ H F Γ I fo rl (R.left hg)) (λfl s1 q=>?_) λx s1 q=>?_)
 ·cases fl with
  | next =>
    obtain⟨Γ',e,aQ,H',F',I',zg,nj,E⟩:=q
    have e2:aE t u Γ=u Γ':=R.step e _
    rw[e2] at hg ⊢
    exact aC (h2.run pins s1 aQ H' F' Γ' I' zg nj hg) (λ_ _ q=>q.later E) λ_ _ q=>q.later E
  | ret v=>exact oK.map q .refl (λ_ _ I=>I) (λ_ e=>R.step e _) λ_ e=>R.step e _
  | brk=>obtain⟨Γ',e,r⟩:=q;exact⟨Γ',R.step e _,r⟩
  | cont=>obtain⟨Γ',e,r⟩:=q;exact⟨Γ',R.step e _,r⟩
 ·obtain⟨c,Γ',aQ,H',F',e,r⟩:=q
  exact⟨c,Γ',aQ,H',F',R.step e _,r⟩
theorem aZ(h1:PQ X st t):kB X [st] t:=by
 refine⟨λpins s σ H F Γ I fo rl hg=>?_⟩
 refine a6u (eM (h1.run pins s σ H F Γ I fo rl hg) λfl s1 q=>?_)
 cases fl with
 | next=>exact AB q
 | ret v=>exact q
 | brk=>exact q
 | cont=>exact q
theorem cz(he:PD X e g):PQ X (.Return (some e) pos) (br g):=⟨λpins s σ H F Γ I fo rl hg =>
 SH (aC (he.run pins s σ H F Γ I fo rl (kj hg)) (λu s1 ⟨d,v,H',e1,I',rv,S,i⟩=>⟨v,σ,H',F,I',rv,.of_same S,.inl ⟨d,km e1,i⟩⟩) λ_ _ x=>x.lift fo rl _)⟩
theorem G4{g:G->R (List D)}(he:PF X e g):PQ X (.Return (some e) pos) (rf g):=⟨λpins s σ H F Γ I fo rl hg =>
 SH (aC (he.run pins s σ H F Γ I fo rl (kj hg)) (λu s1 ⟨ds,a,xs,H',e1,I',eu,S,hn,ha,i⟩=>⟨.ref a,σ,H',F,I',eu,.of_same S,.inr ⟨ds,a,xs,km e1,rfl,.inr hn,ha,i.same lY⟩⟩) λ_ _ x=>x.lift fo rl _)⟩
theorem zh(i:Nat){x:Str}{p:Pos}(hN:X.N[i]? = some x:=by rfl)(hv:nV X.env.scope x:=by first | exact gZ rfl | exact fb (gZ rfl) | exact fb (fb rfl))(hd:(x==("__debug__":Str))=false:=by decide)
 (d8:(x==("__classdict__":Str))=false:=by decide):PQ X (.Return (some (.Name x p)) pos) (mM i):=by
 refine⟨λpins s σ H F Γ I fo rl hg=>?_⟩
 unfold mM at hg ⊢
 cases q:Γ[i]? with
 | none=>rw[q] at hg;exact absurd rfl hg
 | some en =>
   cases en with
   | own ds =>
     obtain⟨a,xs,h1,h2,h3,h4⟩:=rl.own i ds q
     refine SH (aC (vc (X:=X.bG) hN hv hd d8 pins s σ H (λv' H'=>v' = .ref a/\H'=H) (I.cZ _) ⟨.ref a,h1,rfl,rfl⟩) (λu s1 ⟨v',H',I',r,e1,e2⟩=>?_) λ_ _ z=>cT z)
     subst e1 e2
     exact⟨.ref a,σ,H',F,I'.dr,r,.refl,.inr ⟨ds,a,xs,rfl,rfl,.inl h2,h3,h4.same lY⟩⟩
   | _=>rw[q] at hg;exact absurd rfl hg
theorem j5{cs ds:List Stmt}{gc:G->R Bool}(hc:kx X c gc)(ha:kB X cs t)(hb:kB X ds u):PQ X (.If c cs ds pos) (cy gc t u):=by
 refine⟨λpins s σ H F Γ I fo rl hg=>?_⟩
 refine wpAny_If (aC (hc.run pins s σ H F Γ I fo rl (kj hg)) (λk s1 ⟨H1,e1,I1,S1⟩=>?_) λ_ _ x=>x.lift fo rl _)
 have e2:cy gc t u Γ=if k=true then t Γ else u Γ:=km e1
 rw[e2] at hg ⊢
 cases k with
 | true=>exact aC (ha.run pins s1 σ H1 F Γ I1 (fo.same S1) (rl.same S1) hg) (λ_ _ q=>q.later (.of_same S1)) λ_ _ q=>q.later (.of_same S1)
 | false=>exact aC (hb.run pins s1 σ H1 F Γ I1 (fo.same S1) (rl.same S1) hg) (λ_ _ q=>q.later (.of_same S1)) λ_ _ q=>q.later (.of_same S1)
theorem bU(i:Nat){x:Str}(he:iL X e g)(hN:X.N.Nodup)(hi:X.N[i]? = some x:=by rfl)(hx:Loc X.env.scope x:=by first | exact gZ rfl | exact fb rfl)(hs:Dw e (some (.Name x pos')) pos.line X.env=pure false:=by rfl)(hf:X.fn x=true∨X.env.scope.names.lookup x=some .local:=by first | exact .inl rfl | exact .inr rfl | assumption) :
 PQ X (.Assign [.Name x pos'] e pos) (aX i g):=by
 refine⟨λpins s σ H F Γ I fo rl hg=>?_⟩
 refine a6v (aC (he.run pins s σ H F Γ I fo rl (kj hg)) (λv s1 ⟨d,y,H1,e1,I1,r1,S1,i1⟩=>?_) λ_ _ x=>x.lift fo rl _) hs
 exact DV I1 hN hi hx r1 (λs2 I2=>⟨_,km e1,_,H1,F,I2,fo.same S1,(rl.same S1).ug i1,.of_same S1⟩) hf
theorem iq(i:Nat){x:Str}{g:G->R (List D)}(he:PF X e g)(hN:X.N.Nodup)(hi:X.N[i]? = some x:=by rfl)(hx:Loc X.env.scope x:=by first | exact gZ rfl | exact fb rfl)(hs:Dw e (some (.Name x pos')) pos.line X.env=pure false:=by rfl)(hf:X.fn x=true∨X.env.scope.names.lookup x=some .local:=by first | exact .inl rfl | exact .inr rfl | assumption) :
 PQ X (.Assign [.Name x pos'] e pos) (c5 i g):=by
 refine⟨λpins s σ H F Γ I fo rl hg=>?_⟩
 refine a6v (aC (he.run pins s σ H F Γ I fo rl (kj hg)) (λv s1 ⟨ds,a,xs,H1,e1,I1,eu,S1,hn,ha,i1⟩=>?_) λ_ _ x=>x.lift fo rl _) hs
 subst eu
 exact DV (v:=.ref a) I1 hN hi hx rfl (λs2 I2=>⟨_,km e1,_,H1,a::F,I2,(fo.same S1).cons ha,rl.set_own fo S1 hn ha i1,⟨λb o _ h=>S1 _ _ h,λb hb=>(List.mem_cons.mp hb).elim (λz=>.inr (z ▸ hn)) .inl⟩⟩) hf
theorem G5(i:Nat){x y:Str}{elt iter:Expr}{px:Pos}{ifs:List Expr}{scope:da}{f:D->G->R (Option D)}{gi:G->R (List D)}(rD:Ca X (.Name y px) iter gi)(hp:Cf X y scope ifs elt f)(hN:X.N.Nodup)(eI:X.calm=true)(hi:X.N[i]? = some x:=by rfl)(hx:Loc X.env.scope x:=by first | exact gZ rfl | exact fb rfl)
 (zj:Dw (.ListComp elt [⟨.Name y px,iter,ifs,0⟩] scope p) (some (.Name x pos')) pos.line X.env=pure true:=by rfl) (hf:X.fn x=true∨X.env.scope.names.lookup x=some .local:=by first | exact .inl rfl | exact .inr rfl | assumption)
 (zb:Cd X.N X.env y scope=true:=by rfl) (zc:SE scope X.env=pure (cL X.env scope.names []):=by rfl) (hs:∀x,AA iter X.env x=pure x:=by intro _;rfl) :
 PQ X (.Assign [.Name x pos'] (.ListComp elt [⟨.Name y px,iter,ifs,0⟩] scope p) pos) (c5 i (dg gi f)):=by
 refine⟨λpins s σ H F Γ I fo rl hg=>?_⟩
 have c:=Pl zb
 rw[exec_Assign_Name_used _ _ _ _ zj]
 refine ay (Km (ay ?_))
 show ax _ X.A (do let _ <-comprehension (.ListComp elt [⟨.Name y px,iter,ifs,0⟩] scope p) scope X.env _ (Kl []) false (eval iter X.env) (some (qt (.Name x pos') X.env))) _ _ s
 have G6:=kj hg
 refine ay (aC (SF (use:=some (qt (.Name x pos') X.env)) (Q:=λ_ s'=>uf X pins H F (c5 i (dg gi f) Γ) .next s') rfl hs zc c.kind c.names
  (aC (rD.run pins s σ H F Γ I fo rl (R.left G6)) (λxv cu eG=>aC eG (λkK aB zd=>?_) λ_ _ x=>(x.bind _).lift fo rl _) λ_ _ x=>(x.bind _).lift fo rl _)) (λ_ s' hq=>aM (aM hq)) λ_ _ e=>e)
 obtain⟨items,it,fp,tn,J,aI,e1,rfl,I2,S2,T,t0,fk,jc⟩:=zd
 have fR:=R.next G6 e1
 obtain⟨hl,e2⟩:=R.dF fR
 have a8:cD (λd=>f d Γ) items [] ≠ .no:=by
  have:=R.next G6 e1
  rw[e2] at this;exact this
 obtain⟨total,et⟩:=xY a8
 have eT:dg gi f Γ = .ok total:=(R.step e1 _).trans (e2.trans et)
 refine Pp (RR:=λacc C=>SG (aF X.prog X.w) X.A _ (some (qt (.Name x pos') X.env)) _ acc C) (λC ps s x H d J _ fo rl e=>hp.run C aB aI fp (X.pn++pins) ps s _ H F Γ d J fo rl e) c hN eI I2 (fo.same S2) (rl.same S2) T t0 fk jc et hl ?_
 intro Dd C xs H' m s' hC gG hn gm p6 hD S' ia I' ze
 have p7:∀{b:Addr} {o:Obj},aB.heap.get? b=some o->b≠C:=λe=>cN (cI (bE e) hC)
 have S3:=jD gm (.lst xs)
 have jr:aT H (upd H' Dd (.lst xs)):=(S2.trans S').trans S3
 have hH:H Dd=none:=S2.free hn
 have G7:aA X.K (aV (Dd::F) (upd H' Dd (.lst xs))) total xs:=ia.same λb o hb=>by
  obtain⟨z1,z2⟩:=kW hb
  have m5:b≠Dd:=g_ z2 gm
  rw[e8 λz=>(List.mem_cons.mp z).elim m5 z1,bS m5]
  exact z2
 show ax _ X.A (qt (.Name x pos') X.env (.ref Dd)) _ _ s'
 refine a4m (K2 (v:=.ref Dd) I' hN hi hx rfl (λs3 I3 G8=>?_) hf)
 obtain⟨aa,G8,G9⟩:=G8
 have ZK:aa≠C:=by
  rcases G9 with z | z
  ·subst z;exact cN (cI I2.lt hC)
  ·obtain⟨v,o,ho,_⟩:=I2.cell x aa z;exact p7 ho
 refine⟨m,ze.sameBut G8 (gJ ZK),λni zf=>?_⟩
 have I4:Inv X pins (σ.set i (some (.ref Dd))) (upd H' Dd (.lst xs)) { s3 with heap:=ni }:=I3.turned (t':=s3.toks) (it:=C) (λb o hb e=>zf.extBut b o hb e) (by rw[bS (gJ gG)];exact p6) (mi (cI I2.lt hC)) (.inr (fB I2.sz hC))
  (λx k e=>by obtain⟨v,o,ho,_⟩:=I2.cell x k e;exact p7 ho) (λp cA=>p7 (I2.pin p cA).1)
 exact⟨_,km eT,_,_,Dd::F,I4,(fo.same jr).cons dI,rl.set_own fo jr hH dI G7,⟨λb o _ h=>jr _ _ h,λb hb=>(List.mem_cons.mp hb).elim (λz=>.inr (z ▸ hH)) .inl⟩⟩
theorem rR(i:Nat){x:Str}{apos d_:Pos}(he:iL X e g)(hN:X.N[i]? = some x:=by rfl)(hv:nV X.env.scope x:=by first | exact gZ rfl | exact fb (gZ rfl) | exact fb (fb rfl))(hd:(x==("__debug__":Str))=false:=by decide)(d8:(x==("__classdict__":Str))=false:=by decide)
 (zj:Dw (.Call (.Attribute (.Name x p) "append" apos) [e] [] d_) none pos.line X.env=pure false:=by rfl)
 (uh:Kn (.Name x p) "append" X.env (eval (.Name x p) X.env)=eval (.Name x p) X.env:=by rfl)
 (ui:((cK d_ (bA [e] X.env)).all (λx=>!x.1)&&(qH d_ (qI [] X.env)).all (λx=>x.1.isSome)
   && decide ([e].length+([]:List qz).length+(if ([]:List qz).isEmpty then 0 else 1)<30))=true:=by rfl)
 (uj:(apos.endLine==d_.line)=true:=by rfl) (hs:bA [e] X.env=(false,eval e X.env)::bA [] X.env:=by rfl) :
 PQ X (.Expr (.Call (.Attribute (.Name x p) "append" apos) [e] [] d_) pos) (gP i g):=by
 refine⟨λpins s σ H F Γ I fo rl hg=>?_⟩
 refine a6w ?_ I.quiet zj
 have zk:∃ds,Γ[i]? = some (.own ds):=by
  unfold gP at hg
  split at hg
  ·rename_i ds e1;exact⟨ds,e1⟩
  ·exact absurd rfl hg
 obtain⟨ds,eo⟩:=zk
 have zl:gP i g Γ=lift (g Γ) Γ λd=>R.guard (ds.length<=100000) (.ok (.nx (Γ.set i (.own (ds++[d]))))):=by unfold gP;rw[eo]
 rw[zl] at hg ⊢
 obtain⟨a',xs,h1,hF,h3,h4⟩:=rl.own i ds eo
 refine Ko uh ui uj rfl (aC (vc (X:=X.bG) hN hv hd d8 pins s σ H (λv' H'=>v' = .ref a'/\H'=H) (I.cZ _) ⟨.ref a',h1,rfl,rfl⟩) (λv s1 ⟨v',H',I1,r1,e1,e2⟩=>?_) λ_ _ z=>cT z)
 subst e1 e2
 have zm:=I1.dr
 obtain⟨t1,t2⟩:=Eb (T:="list") zm r1 (.inl ⟨rfl,xs,bM.of h3⟩)
 refine⟨"list",_,SI,PySem.F.slot_list_append,PySem.F.type_list_append,t1,t2,?_⟩
 rw[hs]
 refine Kp rfl (Kq ?_)
 show ax _ _ (gf ((false,eval e X.env)::cK d_ [])) _ _ s1
 refine iA (aC (he.run pins s1 σ H' F Γ zm fo rl (kj hg)) (λu s2 ⟨d,y,H2,e3,I2,r2,S2,i2⟩=>ke ?_) λ_ _ x=>x.lift fo rl _)
 have fR:=Bl hg e3
 obtain⟨hl,e4⟩:=R.dF fR
 have wk:=S2 _ _ h3
 have pN:(100001:Nat)<=ck:=by rw[nE];decide
 have i6:=h4.length
 refine aC (UX (X:=X.bG) pins s2 σ H2 (.ref a') [y] v [u] (λz rS=>z = .b_/\rS=upd H2 a' (.lst (xs++[y]))) (I2.cZ _) r1 (.cons r2 .nil) ⟨a',xs,y,rfl,rfl,wk,by lia,rfl,rfl⟩) (λw' s3 ⟨z,rS,I3,rz,ez,eH⟩=>?_) λ_ _ z=>cT z
 subst ez eH
 obtain⟨nj,Pq⟩:=(rl.same S2).put eo h1 (xs':=xs++[y]) (ds':=ds++[d]) ((h4.same (jC S2)).append (aA.cons i2 aA.nil))
 refine⟨_,(km e3).trans e4,σ,_,F,I3.dr,λb hb=>?_,nj,⟨λb o hb h=>?_,λb hb=>.inl hb⟩⟩
 ·by_cases rT:b=a'
  ·exact⟨xs++[y],by rw[rT];exact dI⟩
  ·obtain⟨ys,q⟩:=fo b hb
   exact⟨ys,by rw[bS rT];exact S2 _ _ q⟩
 ·rw[bS (λz=>hb (by rw[z];exact hF))];exact S2 _ _ h
theorem zo(i:Nat){x:Str}{k:Expr}{gk:G->R D}{rU:Pos}(hk:PD X k gk)(he:iL X e g)(hN:X.N[i]? = some x:=by rfl)(hv:nV X.env.scope x:=by first | exact gZ rfl | exact fb (gZ rfl) | exact fb (fb rfl))(hd:(x==("__debug__":Str))=false:=by decide)(d8:(x==("__classdict__":Str))=false:=by decide)
 (ha:∀v,qt (.Subscript (.Name x p) k rU) X.env v=(do
   let ov <-Ar [v] (eval (.Name x p) X.env)
   let iv <-Ar [v,ov] (eval k X.env)
   standAt rU
   Ar [v,ov,iv] (RD ov iv v)
   release [v,ov,iv] []):=by intro _;rfl)
 (hs:swapsWithSole [.Subscript (.Name x p) k rU] e pos.line X.env=pure false:=by rfl) (hw:swappedStores [.Subscript (.Name x p) k rU] e X.env=pure none:=by rfl)
 (za:(Af [.Subscript (.Name x p) k rU] X.env).map (·.2)=[qt (.Subscript (.Name x p) k rU) X.env]:=by rfl) :
 PQ X (.Assign [.Subscript (.Name x p) k rU] e pos) (lK i gk g):=by
 refine⟨λpins s σ H F Γ I fo rl hg=>?_⟩
 have zk:∃ds,Γ[i]? = some (.own ds):=by
  unfold lK at hg
  split at hg
  ·rename_i ds e1;exact⟨ds,e1⟩
  ·exact absurd rfl hg
 obtain⟨ds,eo⟩:=zk
 have zl:lK i gk g Γ=lift (g Γ) Γ λd=>lift (gk Γ) Γ λk=>(match k with
  | .int j=>(match hG ds.length j with | some j'=>.ok (.nx (Γ.set i (.own (ds.set j' d)))) | none=>.no)
  | _=>.no):=by(unfold lK;rw[eo])<;>rfl
 rw[zl] at hg ⊢
 obtain⟨a',xs,h1,hF,h3,h4⟩:=rl.own i ds eo
 refine wpAny_Assign_stores (aC (he.run pins s σ H F Γ I fo rl (kj hg)) (λu s1 ⟨d,y,H1,e1,I1,r1,S1,i1⟩=>?_) λ_ _ x=>x.lift fo rl _) hs hw
 have aW:=Bl hg e1
 rw[za]
 rw[km e1] at hg ⊢
 show ax _ _ (qt (.Subscript (.Name x p) k rU) X.env u) _ _ s1
 rw[ha]
 refine ay (j9 (aC (vc (X:=X.bG) hN hv hd d8 pins s1 σ H1 (λv' H'=>v' = .ref a'/\H'=H1) (I1.cZ _) ⟨.ref a',h1,rfl,rfl⟩) (λv s2 ⟨v',H',I2,r2,e2,e3⟩=>?_) λ_ _ z=>cT z))
 subst e2 e3
 refine ay (j9 (aC (hk.run pins s2 σ H' F Γ I2.dr (fo.same S1) (rl.same S1) (kj hg)) (λw' s3 ⟨dk,vk,H3,e4,I3,r3,S3,i3⟩=>?_) λ_ _ x=>(x.lift (fo.same S1) (rl.same S1) _).later (.of_same S1)))
 have dH:=Bl hg e4
 rw[km e4] at hg ⊢
 cases dk with
 | int j =>
   cases q:hG ds.length j with
   | none=>simp only[q] at dH;exact absurd rfl dH
   | some j' =>
     have B0:=S3 _ _ (S1 _ _ h3)
     refine ay (Km (ay (j9 (aC (UK (X:=X.bG) pins s3 σ H3 (.ref a') vk y v w' u (λrS=>rS=upd H3 a' (.lst (xs.set j' y))) (I3.cZ _) r2 r3 r1 ⟨a',xs,j,j',rfl,Is.bO.mp i3,B0,by rw[<-h4.length];exact q,rfl⟩) (λ_ s4 ⟨rS,I4,eH⟩=>?_) λ_ _ z=>cT z))))
     subst eH
     refine wpAny_release ?_
     have Ck:=S1.trans S3
     obtain⟨nj,Pq⟩:=(rl.same Ck).put eo h1 (xs':=xs.set j' y) (ds':=ds.set j' d) (aA.set (i1.same (jC S3)) j' (h4.same (jC Ck)))
     refine⟨_,by simp only[q],σ,_,F,I4.dr,λb hb=>?_,nj,⟨λb o hb h=>?_,λb hb=>.inl hb⟩⟩
     ·by_cases rT:b=a'
      ·exact⟨_,by rw[rT];exact dI⟩
      ·obtain⟨ys,q'⟩:=fo b hb
       exact⟨ys,by rw[bS rT];exact Ck _ _ q'⟩
     ·rw[bS (λz=>hb (by rw[z];exact hF))];exact Ck _ _ h
 | _=>exact absurd rfl dH
def wm(X:Cx):Prop:=∀pins H F r,PassesOwn (aF X.prog X.w) X.A X.env (rQ X pins H F r)
theorem kY(i:Nat){x:Str}{px:Pos}{iter:Expr}{body:List Stmt}{gi:G->R (List D)}{gb:G->R Fl}(hp:wm X)(eI:X.calm=true)(hi:tW X (.Name x px) iter gi)(hb:kB X body gb)(hN:X.N.Nodup)(zp:X.N[i]? = some x:=by rfl)(hx:Loc X.env.scope x:=by first | exact gZ rfl | exact fb rfl)
 (hf:X.fn x=true∨X.env.scope.names.lookup x=some .local:=by first | exact .inl rfl | exact .inr rfl | assumption)
 (hs:∀x,AA iter X.env x=pure x:=by intro _;rfl):PQ X (.For (.Name x px) iter body [] pos) (fP i gi gb):=by
 refine⟨λpins s σ H F Γ I fo rl hg=>?_⟩
 refine SJ (aC (hi.run pins s σ H F Γ I fo rl (kj hg)) (λv s1 h1=>aC h1 (λkK s2 h2=>?_) λ_ _ x=>x.lift fo rl _) λ_ _ x=>x.lift fo rl _) hs
 obtain⟨ds,it,fp,tn,J,H2,e1,rfl,I2,S2,T,t0,fk,jd⟩:=h2
 have eg:fP i gi gb Γ=dG gb i ds Γ:=km e1
 rw[eg] at hg ⊢
 have cA:=hp pins H F (dG gb i ds Γ)
 have nq:∀{H':Hp},(∀b∈fp,H' b=none)->∀b∈fp,fL X pins H' b:=λhn b hb=>⟨hn b hb,(fk b hb).2⟩
 refine SK (λn s'=>∃(j:Nat) (aQ:St) (H':Hp) (F':List Addr) (Γ':G),n=ds.length-j/\j<=ds.length/\Inv X pins aQ H' s'/\tn j s'.heap/\(∀b∈fp,H' b=none)/\bZ H' F'/\Rel X.K H' F' Γ' aQ/\Ext H2 F H' F'/\dG gb i (ds.drop j) Γ'=dG gb i ds Γ) ?_ ds.length
  ⟨0,σ,H2,F,Γ,by lia,iT _,I2,t0,λb hb=>(fk b hb).1,fo.same S2,rl.same S2,.refl,by rw[xg]⟩
 rintro n s3 ⟨j,i8,H3,F3,nu,en,hj,I3,t3,rV,p8,p9,E3,mf⟩
 have rX:Ext H F H3 F3:=(Ext.of_same S2).trans E3
 obtain⟨pU,pV⟩:=jd H3 λb o hb h=>E3.keep b o hb h
 by_cases a_:j<ds.length
 ·obtain⟨go,yl⟩:=pU j a_
  refine jL cA (eM (T.item X rfl rfl rfl eI j pins s3 i8 H3 _ I3 (nq rV) t3 go) λr s4 ⟨u,hr,h4⟩=>?_)
  subst hr
  refine jL cA (eM h4 λ_ s5 ⟨y,H5,I5,r5,y5,ip,pX⟩=>?_)
  obtain⟨e5,d,ed,iv⟩:=yl y H5 y5
  subst e5
  have ZL:=iv F3 λb hb=>E3.old b hb
  have pY:ds.drop j=d::ds.drop (j+1):=by
   rw[Ay a_]
   have:ds[j]=d:=by
    have:=cf a_
    rw[ed] at this;exact(iQ this).symm
   rw[this]
  have zq:=I5.pinned (nq pX) (T.obj _ _ ip)
  have pZ:PG X.bG (.Name x px) (nY i):=pf (X:=X.bG) hN zp hx hf
  refine jL cA (aC (pZ _ s5 i8 H5 y u (λaQ H'=>aQ=i8.set i (some y)/\H'=H5) (zq.cZ _) r5 ⟨rfl,rfl⟩) (λ_ s6 ⟨Cj,H6,I6,e6,p4⟩=>?_) λ_ _ z=>cT z)
  subst e6 p4
  have fS:dG gb i (d::ds.drop (j+1)) nu=dG gb i ds Γ:=by rw[<-pY];exact mf
  have uk:gb (nu.set i (.ro d)) ≠ .no:=λz=>by
   rw[<-fS] at hg
   unfold dG at hg
   rw[z] at hg
   exact hg rfl
  have back:∀{s7:ai} {b5:St} {H7:Hp},Inv X (pins++qR fp s5.heap) b5 H7 s7->Inv X pins b5 H7 s7/\tn (j+1) s7.heap/\∀b∈fp,H7 b=none:=λ{s7 b5 H7} I7=>by
   refine⟨I7.jk,T.keep _ _ _ ip λb hb o e=>(I7.pin (b,o) (c6 _ (c6 _ (n4 hb e)))).1,λb hb=>?_⟩
   obtain⟨o,e,dd⟩:=T.obj _ _ ip b hb
   exact(I7.pin (b,o) (c6 _ (c6 _ (n4 hb e)))).2.1
  refine jL cA (aC (hb.run _ s6 _ H6 F3 _ I6.dr p8 (p9.ug ZL) uk) (λf s7 q7=>?_) λx7 s7 q7=>?_)
  ·cases f with
   | next =>
     obtain⟨dz,e7,b5,H7,F7,I7,dA,dB,E7⟩:=q7
     obtain⟨b1,b2,b3⟩:=back I7
     refine⟨ds.length-(j+1),by lia,j+1,b5,H7,F7,dz,rfl,a_,b1,b2,b3,dA,dB,E3.trans E7,?_⟩
     rw[<-fS]
     conv=>rhs;unfold dG
     rw[e7]
   | cont =>
     obtain⟨dz,e7,b5,H7,F7,I7,dA,dB,E7⟩:=q7
     obtain⟨b1,b2,b3⟩:=back I7
     refine⟨ds.length-(j+1),by lia,j+1,b5,H7,F7,dz,rfl,a_,b1,b2,b3,dA,dB,E3.trans E7,?_⟩
     rw[<-fS]
     conv=>rhs;unfold dG
     rw[e7]
   | brk =>
     obtain⟨dz,e7,b5,H7,F7,I7,dA,dB,E7⟩:=q7
     refine⟨dz,?_,b5,H7,F7,I7.jk,dA,dB,rX.trans E7⟩
     rw[<-fS]
     conv=>lhs;unfold dG
     rw[e7]
   | ret v7 =>
     refine oK.map q7 rX (λ_ _ I7=>I7.jk) (λd7 e7=>?_) λd7 e7=>?_
     ·rw[<-fS]
      conv=>lhs;unfold dG
      rw[e7]
     ·rw[<-fS]
      conv=>lhs;unfold dG
      rw[e7]
  ·obtain⟨c7,dz,b5,H7,F7,e7,um,dA,dB,E7⟩:=q7
   refine⟨c7,dz,b5,H7,F7,?_,?_,dA,dB,rX.trans E7⟩
   ·rw[<-fS]
    conv=>lhs;unfold dG
    rw[e7]
   ·obtain⟨I7,e',C',oe,vs,q1,q2,q3,q4,q5,q6,zr,q8⟩:=um
    refine⟨I7.jk,e',C',oe,vs,q1,q2,q3,q4,q5,q6,λp jw=>zr p ?_,?_⟩
    ·rcases List.mem_append.mp jw with z | z
     ·exact je _ z
     ·exact c6 _ (je _ z)
    ·obtain⟨w1,w2,w3,w4,w5⟩:=q8
     refine⟨w1,w2,w3,w4,?_⟩
     rcases w5 with w5 | ⟨T',oT,ts,z1,z2,z3,z4,z5,z6,z7⟩
     ·exact .inl w5
     ·refine .inr ⟨T',oT,ts,z1,z2,z3,z4,z5,λp jw=>z6 p ?_,z7⟩
      rcases List.mem_append.mp jw with z | z
      ·exact je _ z
      ·exact c6 _ (je _ z)
 ·have ej:j=ds.length:=by lia
  subst ej
  refine jL cA (eM (T.done X rfl rfl rfl eI _ pins s3 i8 H3 _ I3 (nq rV) t3 pV) λr s4 ⟨hr,I4⟩=>?_)
  subst hr
  rw[Aj] at mf
  exact AB ⟨nu,mf.symm,i8,H3,F3,I4,p8,p9,rX⟩
theorem uq(n:Nat){Pr:Expr}{body:List Stmt}{gc:G->R Bool}{gb:G->R Fl}(hp:wm X)(hc:kx X Pr gc)(hb:kB X body gb):PQ X (.While Pr body [] pos) (dh gc gb n):=by
 refine⟨λpins s σ H F Γ I fo rl hg=>?_⟩
 have cA:=hp pins H F (dh gc gb n Γ)
 refine wpAny_While (codeAny_whileLoop (λm s'=>∃(aQ:St) (H':Hp) (F':List Addr) (Γ':G),Inv X pins aQ H' s'/\bZ H' F'/\Rel X.K H' F' Γ' aQ/\Ext H F H' F'/\dh gc gb m Γ'=dh gc gb n Γ) ?_ n ⟨σ,H,F,Γ,I,fo,rl,.refl,rfl⟩)
 rintro m s1 ⟨sP,H1,F1,lN,I1,Cm,Cn,E1,ir⟩
 have aW:dh gc gb m lN ≠ .no:=by rw[ir];exact hg
 cases m with
 | zero=>exact absurd rfl aW
 | succ m =>
   have ZM:dh gc gb (m+1) lN=lift (gc lN) lN λk=>if k=true then (match gb lN with
    | .ok (.nx Γ')=>dh gc gb m Γ'
    | .ok (.ct Γ')=>dh gc gb m Γ'
    | .ok (.bk Γ')=>.ok (.nx Γ')
    | .ok (.rt d)=>.ok (.rt d)
    | .ok (.dJ d)=>.ok (.dJ d)
    | .ok (.ex c Γ')=>.ok (.ex c Γ')
    | _=>.no) else .ok (.nx lN):=rfl
   rw[ZM] at aW ir
   refine jL cA (aC (hc.run pins s1 sP H1 F1 lN I1 Cm Cn (kj aW)) (λk s2 ⟨H2,e2,I2,S2⟩=>?_) λ_ _ x=>by rw[<-ir];exact(x.lift Cm Cn _).later E1)
   rw[km e2] at aW ir
   cases k with
   | false =>
     rw[if_neg qw] at ir ⊢
     exact AB ⟨lN,ir.symm,sP,H2,F1,I2,Cm.same S2,Cn.same S2,E1.trans (.of_same S2)⟩
   | true =>
     rw[if_pos rfl] at ir aW ⊢
     have uk:gb lN ≠ .no:=λz=>by rw[z] at aW;exact aW rfl
     refine jL cA (aC (hb.run pins s2 sP H2 F1 lN I2 (Cm.same S2) (Cn.same S2) uk) (λf s3 q3=>?_) λx3 s3 q3=>?_)
     ·cases f with
      | next =>
        obtain⟨dz,e7,b5,H7,F7,I7,dA,dB,E7⟩:=q3
        rw[e7] at ir
        exact⟨m,qx _,b5,H7,F7,dz,I7,dA,dB,(E1.trans (.of_same S2)).trans E7,ir⟩
      | cont =>
        obtain⟨dz,e7,b5,H7,F7,I7,dA,dB,E7⟩:=q3
        rw[e7] at ir
        exact⟨m,qx _,b5,H7,F7,dz,I7,dA,dB,(E1.trans (.of_same S2)).trans E7,ir⟩
      | brk =>
        obtain⟨dz,e7,b5,H7,F7,I7,dA,dB,E7⟩:=q3
        rw[e7] at ir
        exact⟨dz,ir.symm,b5,H7,F7,I7,dA,dB,(E1.trans (.of_same S2)).trans E7⟩
      | ret v =>
        exact oK.map q3 (E1.trans (.of_same S2)) (λ_ _ I7=>I7) (λd7 e7=>by rw[e7] at ir;exact ir.symm) λd7 e7=>by rw[e7] at ir;exact ir.symm
     ·obtain⟨c7,dz,b5,H7,F7,e7,um,dA,dB,E7⟩:=q3
      rw[e7] at ir
      exact⟨c7,dz,b5,H7,F7,ir.symm,um,dA,dB,(E1.trans (.of_same S2)).trans E7⟩
end
def rY(X:Cx)(pins:List (Addr×Obj))(σ:St)(H:Hp)(c:Er)(x:Value)(s:ai)(fl:Value):Prop :=
 Inv X pins σ H s/\∃(e C:Addr) (oe:Obj) (vs:Array Value),x = .ref e/\X.mg c.nm=some (.ref C)/\H e=none/\X.s₀.heap.get? e=none/\e≠X.env.locals/\(∀y k,X.env.cells.lookup y=some k->k≠e)/\(∀p∈X.pn++pins,p.1≠e) /\
  s.heap.get? e=some oe/\oe.cls = .ref C/\oe.data = .fields vs/\(∃a0,vs[0]? = some a0) /\
  ∃(T:Addr) (oT:Obj) (ts:Array Value),vs[1]? = some (.ref T)/\H T=none/\X.s₀.heap.get? T=none/\T≠X.env.locals/\(∀y k,X.env.cells.lookup y=some k->k≠T)/\(∀p∈X.pn++pins,p.1≠T)/\T≠e /\
   s.heap.get? T=some oT/\oT.data = .fields ts/\ts[3]? = some fl
section
variable {X:Cx}{pins:List (Addr×Obj)}{σ:St}{H:Hp}{c:Er}{x:Value}{s:ai}{E:Value->ai->Prop}{Q:Unit->ai->Prop}
theorem rY.none(h:rY X pins σ H c x s .none):rN X pins σ H c x s:=by
 obtain⟨I,e,C,oe,vs,h1,h2,h3,h4,h5,h6,h7,h8,h9,jE,j6,T,oT,ts,k1,k2,k3,k4,k5,k6,k7,k8,k9,kC⟩:=h
 exact⟨I,e,C,oe,vs,h1,h2,h3,h4,h5,h6,h7,h8,h9,jE,j6,.inr ⟨T,oT,ts,k1,k2,k3,k4,k5,k6,k7,k8,k9,.inl kC⟩⟩
theorem rY.here{L:Addr}(hf:X.env.frame=some L)(h:rY X pins σ H c x s (rawInt L)):rN X pins σ H c x s:=by
 obtain⟨I,e,C,oe,vs,h1,h2,h3,h4,h5,h6,h7,h8,h9,jE,j6,T,oT,ts,k1,k2,k3,k4,k5,k6,k7,k8,k9,kC⟩:=h
 exact⟨I,e,C,oe,vs,h1,h2,h3,h4,h5,h6,h7,h8,h9,jE,j6,.inr ⟨T,oT,ts,k1,k2,k3,k4,k5,k6,k7,k8,k9,.inr ⟨L,hf,kC⟩⟩⟩
theorem Pt{P:aY}{w:aO}{H:Hp}{h:Heap}{a:Addr}{o:HO}(x:iW P w H h a o):∃ob,h.get? a=some ob:=by
 cases o with
 | lst xs=>obtain⟨_,_,_,_,e⟩:=x;exact⟨_,e⟩
 | tup xs=>obtain⟨_,_,_,ob,e,_⟩:=x;exact⟨_,e⟩
 | dK fe=>obtain⟨_,_,_,_,o,_,_,e,_⟩:=x;exact⟨_,e⟩
 | dT fe=>obtain⟨_,_,_,_,o,_,_,e,_⟩:=x;exact⟨_,e⟩
 | set S n=>obtain⟨o,_,_,_,e,_⟩:=x;exact⟨_,e⟩
 | ins C dx fs=>obtain⟨_,_,_,e,_⟩:=x;exact⟨_,e⟩
 | own y=>exact x
 | xd fs=>obtain⟨_,⟨_,_,_,e,_⟩,_⟩:=x;exact⟨_,e⟩
 | AK lo hi=>obtain⟨_,_,_,e⟩:=x;exact⟨_,e⟩
 | fh ob u=>obtain⟨e,_⟩:=x;exact⟨_,e⟩
 | qP ps=>exact⟨_,x⟩
 | met f y=>exact⟨_,x⟩
 | ext φ=>exact x.2.1
theorem Inv.Pu{ch:List Addr}{h':Heap}(I:Inv X pins σ H s)(iY:∀b∈ch,H b=none/\X.s₀.heap.get? b=none/\b≠X.env.locals/\(∀y k,X.env.cells.lookup y=some k->k≠b)/\∀p∈X.pn++pins,p.1≠b)
 (keep:∀b o,b ∉ cW X.stack->b ∉ ch->s.heap.get? b=some o->h'.get? b=some o) (slot:∀b o,b ∉ ch->s.heap.get? b=some o->∃sl,h'.get? b=some { o with slots:=sl }):Inv X pins σ H { s with heap:=h' }:=by
 refine I.call (g':=s.gens) (t':=s.toks) (d':=s.drawn) (ch:=ch) ⟨λb o e _ hb hc=>keep b o hb hc e,λb o e _ _ hc=>slot b o hc e,λ_ _ _ n _=>n,λb o e hc=>let ⟨sl,q⟩:=slot b o hc e;⟨_,q⟩,λ_ _ q=>q,λ_ _ _ q=>q,λ_ ps q=>⟨#[],by rw[q];simp⟩⟩ (λb u e=>?_) I.bare λb hb=>?_
 ·have tr:∀d w',H d=some w'->d ∉ cW X.stack/\d ∉ ch:=λd w' q=>by
   refine⟨λz=>?_,λz=>?_⟩
   ·rw[I.AQ d z] at q;cases q
   ·rw[(iY d z).1] at q;cases q
  refine(I.aS b u e).mD (λd v hd q=>?_) (λ_ q=>q) λ_ _ q=>q
  rcases hd with z | z
  ·rw[z] at q ⊢;exact keep b v (tr b u e).1 (tr b u e).2 q
  ·exact keep d v (tr d _ z).1 (tr d _ z).2 q
 ·obtain⟨h1,h2,h3,h4,h5⟩:=iY b hb
  exact⟨.inr h2,h3,h4,h5⟩
def hx(l:List Addr):Hp:=λb=>if b∈l then some (.own 0) else none
theorem ZN{l:List Addr}{b:Addr}(h:b∈l):hx l b=some (.own 0):=by unfold hx;rw[if_pos h]
theorem Pw{l:List Addr}{b:Addr}(h:b ∉ l):hx l b=none:=by unfold hx;rw[if_neg h]
theorem zt{h:Heap}{l:List Addr}{b:Addr}(hb:b∈l):(jj h (hx l)).get? b=none:=by
 cases q:(jj h (hx l)).get? b with
 | none=>rfl
 | some o =>
   have z:=(DR q).2
   rw[ZN hb] at z;cases z
theorem Px{L e C:Addr}{a0:Value}{ch:List Addr}{h':Heap}(hex:X.ex=[])(I:Inv X pins σ H s)(pj:X.mg c.nm=some (.ref C))(he:e∈ch)(iY:∀b∈ch,H b=none/\X.s₀.heap.get? b=none/\b≠X.env.locals/\(∀y k,X.env.cells.lookup y=some k->k≠b)/\∀p∈X.pn++pins,p.1≠b)
 (hN:Heap.NotedW (jj s.heap (hx (cW X.stack++ch))) X.stack e (.ref C) a0 (rawInt L) s.heap h'):rY X pins σ H c (.ref e) { s with heap:=h' } (rawInt L):=by
 obtain⟨st,ff,⟨ZO,ZP,T',ZQ,ZR,q1,⟨q2,ZS⟩,q3,q4,q5,q6,q7,q8,q9⟩,up⟩:=hN
 have keep:∀b o,b ∉ cW X.stack->b ∉ ch->s.heap.get? b=some o->h'.get? b=some o:=λb o h1 h2 q=>st b o (DQ q (Pw λz=>(List.mem_append.mp z).elim h1 h2))
 have slot:∀b o,b ∉ ch->s.heap.get? b=some o->∃sl,h'.get? b=some { o with slots:=sl }:=λb o h2 q=>by
  by_cases hb:b∈cW X.stack
  ·obtain⟨_,o',dR,wo⟩:=I.stack.mem hb
   rw[q] at dR;cases dR
   exact up b o q wo
  ·exact⟨o.slots,keep b o hb h2 q⟩
 have hT:H T'=none/\X.s₀.heap.get? T'=none/\T'≠X.env.locals/\(∀y k,X.env.cells.lookup y=some k->k≠T')/\∀p∈X.pn++pins,p.1≠T':=by
  cases q:s.heap.get? T' with
  | none =>
    refine⟨?_,I.gone hex q⟩
    cases z:H T' with
    | none=>rfl
    | some u =>
      obtain⟨o,eo⟩:=Pt (I.aS T' u z)
      rw[q] at eo;cases eo
  | some o =>
    have ZT:T'∈cW X.stack++ch:=by
     by_cases z:T'∈cW X.stack++ch
     ·exact z
     ·have:=DQ q (Pw z)
      rw[q5] at this;cases this
    rcases List.mem_append.mp ZT with z | z
    ·exfalso
     obtain⟨_,o',dR,wo⟩:=I.stack.mem z
     rw[q] at dR;cases dR
     obtain⟨sl,e1⟩:=up T' o q wo
     rw[q7] at e1;cases e1
     exact wo _ q8
    ·exact iY T' z
 obtain⟨f1,f2,f3,f4,f5⟩:=iY e he
 obtain⟨g1,g2,g3,g4,g5⟩:=hT
 exact⟨Inv.Pu I iY keep slot,e,C,ZO,ZP,rfl,pj,f1,f2,f3,f4,f5,q1,q2,q3,⟨a0,ZS⟩,T',ZQ,ZR,q4,g1,g2,g3,g4,g5,q6,q7,q8,q9⟩
theorem Py{M:oO}{L:Addr}(hex:X.ex=[])(wq:X.stack=X.env::X.outer)(hf:X.env.frame=some L)(h:rN X pins σ H c x s)(hQ:∀s',rY X pins σ H c x s' (rawInt L)->Q () s'):ax M X.A (SM x X.env) Q E s:=by
 obtain⟨I,e,C,oe,vs,h1,h2,h3,h4,h5,h6,h7,h8,h9,jE,j6,Co⟩:=h
 subst h1
 obtain⟨a0,j6⟩:=j6
 have rZ:X.A.frames=some (X.env::X.outer):=by rw[<-wq];exact I.ok.frames
 have nfe:∀{b:Addr} {o:Obj} {ws:Array Value},s.heap.get? b=some o->o.data = .fields ws->b ∉ cW X.stack:=λ{b o ws} q1 q2 z=>by
  obtain⟨_,o',dR,wo⟩:=I.stack.mem z
  rw[q1] at dR;cases dR
  exact wo _ q2
 have hl:∀ch:List Addr,s.heap.FunFrames (jj s.heap (hx (cW X.stack++ch))) (X.env::X.outer):=λch=>by
  have gen:∀(l:List Env),(∀b∈cW l,b∈cW X.stack)->s.heap.FunFrames X.base l->s.heap.FunFrames (jj s.heap (hx (cW X.stack++ch))) l:=by
   intro l
   induction l with
   | nil=>intro _ _;trivial
   | cons env r ih =>
     intro hs ⟨hk,⟨L',o,tP,hn,ho,hd⟩,hr⟩
     have m1:∀b∈cW r,b∈cW (env::r):=λb hb=>by unfold cW at hb ⊢;rw[wV,tP];exact bL _ hb
     have m0:L'∈cW (env::r):=by unfold cW;rw[wV,tP];exact bB
     exact⟨hk,⟨L',o,tP,zt (je _ (hs L' m0)),ho,hd⟩,ih (λb hb=>hs b (m1 b hb)) hr⟩
  rw[<-wq]
  exact gen X.stack (λ_ h=>h) I.stack
 have stays:∀ch:List Addr,(jj s.heap (hx (cW X.stack++ch))).StaysIn s.heap:=λch b o q=>(DR q).1
 rcases Co with Co | ⟨T,oT,ts,k1,k2,k3,k4,k5,k6,k7,k8,k9,kC⟩
 ·have iF:1<vs.size:=(Array.getElem?_eq_some_iff.mp Co).1
  unfold SM
  simp only[hf]
  refine ay (nK h8 jE Co ?_)
  rw[if_neg (by decide)]
  refine wpAny_entryW rZ (hl [e]) hf h8 (stays [e]) (zt (by simp)) jE iF j6 λh' hN=>hQ _ ?_
  rw[h9,<-wq] at hN
  refine Px (ch:=[e]) hex I h2 (by simp) (λb hb=>?_) hN
  have:b=e:=by simpa using hb
  subst this
  exact⟨h3,h4,h5,h6,h7⟩
 ·have AS:∀b∈[e,T],H b=none/\X.s₀.heap.get? b=none/\b≠X.env.locals/\(∀y k,X.env.cells.lookup y=some k->k≠b)/\∀p∈X.pn++pins,p.1≠b:=λb hb=>by
   have:b=e∨b=T:=by simpa using hb
   rcases this with rfl | rfl
   ·exact⟨h3,h4,h5,h6,h7⟩
   ·exact⟨k2,k3,k4,k5,k6⟩
  rcases kC with kC | ⟨L',Pz,kC⟩
  ·refine wpAny_noteFrame_onW (cls:=.ref C) (a0:=a0) rZ (hl [e,T]) hf ⟨oe,vs,T,oT,ts,h8,⟨h9,j6⟩,jE,k1,zt (by simp),k7,k8,k9,kC⟩ (stays [e,T]) (zt (by simp)) λh' hN=>hQ _ ?_
   rw[<-wq] at hN
   exact Px (ch:=[e,T]) hex I h2 (by simp) AS hN
  ·rw[hf] at Pz;cases Pz
   refine wpAny_noteFrame_againW (base:=jj s.heap (hx (cW X.stack++[e,T]))) (cls:=.ref C) (a0:=a0) hf ⟨oe,vs,T,oT,ts,h8,⟨h9,j6⟩,jE,k1,zt (by simp),k7,k8,k9,kC⟩ (hQ s ?_)
   exact⟨I,e,C,oe,vs,rfl,h2,h3,h4,h5,h6,h7,h8,h9,jE,⟨a0,j6⟩,T,oT,ts,k1,k2,k3,k4,k5,k6,k7,k8,k9,kC⟩
theorem PA{M:oO}{A:Around}{fl:Value}{fr:Option Addr}(h:rY X pins σ H c x s fl)(hQ:∀s',rY X pins σ H c x s' (fr.elim .none λf=>rawInt f)->Q () s'):ax M A (setFlight x fr) Q E s:=by
 obtain⟨I,e,C,oe,vs,h1,h2,h3,h4,h5,h6,h7,h8,h9,jE,j6,T,oT,ts,k1,k2,k3,k4,k5,k6,k7,k8,k9,kC⟩:=h
 subst h1
 have PB:3<ts.size:=(Array.getElem?_eq_some_iff.mp kC).1
 have other:∀b,b≠T->(s.heap.update T (xr (·.setIfInBounds 3 (fr.elim kE λf=>rawInt f)))).get? b=s.heap.get? b:=λb hb=>C4 _ _ (gJ hb)
 unfold setFlight
 refine ay (nK h8 jE k1 ?_)
 rw[if_pos (show(c_ T != kE)=true from by simp)]
 refine xt k8 k9 PB (hQ _ ⟨Inv.Pu (ch:=[T]) I (λb hb=>?_) (λb o hb hc q=>?_) (λb o hc q=>?_),e,C,oe,vs,rfl,h2,h3,h4,h5,h6,h7,(other e (gJ k7)).trans h8,h9,jE,j6,T,_,_,k1,k2,k3,k4,k5,k6,k7,
  sA _ k8 (Dx (qJ k9 _)),qJ k9 _,by simp[PB]⟩)
 ·have:b=T:=by simpa using hb
  subst this
  exact⟨k2,k3,k4,k5,k6⟩
 ·have sM:b≠T:=by simpa using hc
  exact(other b sM).trans q
 ·have sM:b≠T:=by simpa using hc
  exact⟨o.slots,(other b sM).trans q⟩
theorem ZU{L:Addr}(hex:X.ex=[])(wq:X.stack=X.env::X.outer)(hf:X.env.frame=some L):wm X:=λpins H F r e s' h=>by
 obtain⟨c,Γ',aQ,H',F',e1,fl,fo,rl,Ex⟩:=h
 refine Py hex wq hf fl λs1 f1=>?_
 obtain⟨I,e',C,oe,vs,h1,h2,h3,h4,h5,h6,h7,h8,h9,jE,j6,T,oT,ts,k1,kr⟩:=id f1
 subst h1
 show ax _ _ _ _ _ _
 refine ay (nK h8 jE k1 ?_)
 rw[if_neg (show ¬((c_ T==kE)=true) from by simp)]
 rw[hf]
 exact PA f1 λs2 f2=>⟨c,Γ',aQ,H',F',e1,f2.here hf,fo,rl,Ex⟩
end
theorem ZV{H:Hp}:aV [] H=H:=by funext b;unfold aV;simp
theorem PC{K:aD}{H:Hp}{N:List Str}{ds:List D}{vs:List V}(i:aA K H ds vs):Rel K H [] (gr N.length ds) (L2.start N vs):=by
 have hl:=i.length
 have key:∀(j:Nat) (en:En),(gr N.length ds)[j]? = some en->(∃d,en = .ro d/\ds[j]? = some d)∨en = .no:=λj en h=>by
  unfold gr at h
  by_cases hj:j<ds.length
  ·rw[sy (by simpa using hj),cm,cf hj] at h
   cases h
   exact .inl ⟨_,rfl,cf hj⟩
  ·rw[su (by simpa using hj),RJ] at h
   split at h
   ·cases h;exact .inr rfl
   ·cases h
 refine⟨?_,λj d h=>?_,λj es h=>?_,λj k es fs a h1 _ _ _=>?_⟩
 ·unfold gr L2.start
  simp[hl]
 ·rcases key j _ h with ⟨d',e,hd⟩ | e
  ·cases e
   obtain⟨v,hv,iv⟩:=i.get hd
   refine⟨v,?_,by rw[ZV];exact iv⟩
   unfold L2.start
   rw[sy (by rw[bu];exact(List.getElem?_eq_some_iff.mp hv).1),cm,hv];rfl
  ·cases e
 ·rcases key j _ h with ⟨d',e,_⟩ | e<;>cases e
 ·rcases key j _ h1 with ⟨d',e,_⟩ | e<;>cases e
section
variable {P:aY}{w:aO}{K:aD}{mg:Str->Option Value}{base:Heap}
abbrev kZ (P:aY) (w:aO) (K:aD) (mg:Str->Option Value) (base:Heap) (N:List Str) (qual:Str) (st:Stmt) (f:Addr) (bH:Value) (A:Around) (outer:List Env) (s:ai) (H:Hp) (E:XK):Cx :=
 sS (pR P w) P w K mg base N qual (bN st) f bH A outer s H E
theorem PH{N:List Str}{qual:Str}{st:Stmt}{f:Addr}{bH:Value}{A:Around}{outer:List Env}{s s':ai}{H H':Hp}{E:XK}{pins:List (Addr×Obj)}{aQ:St}{F':List Addr}{c:Er}{x:Value}
 (fl:rN (kZ P w K mg base N qual st f bH A outer s H E) pins aQ H' c x s') (hE:∀C,mg c.nm=some (.ref C)->E (.ref C) none H'):(kZ P w K mg base N qual st f bH A outer s H E).xe x s':=by
 show ax _ _ (RH _ x) _ _ s'
 unfold RH
 refine ay (Py (L:=s.heap.objs.size) rfl rfl rfl fl λs1 f1=>?_)
 refine PA (fr:=none) f1 λs2 f2=>?_
 obtain⟨I,e,C,oe,vs,h1,h2,h3,h4,h5,h6,h7,h8,h9,jE,j6,T,oT,ts,k1,k2,k3,k4,k5,k6,k7,k8,k9,kC⟩:=f2
 exact⟨e,C,T,oe,oT,vs,ts,H',h1,I.os,I.bare,I.base,I.aS,h3,h4,h8,h9,jE,j6,k1,k2,k3,k7,k8,k9,kC,hE C h2⟩
theorem Cp{x qual:Str}{st:Stmt}{f:Addr}{fd:cP}{N ps:List Str}{k:Nat}{φ:List D->R D}(Fu:mI K x qual st f fd)(S:bW N ps (bN st))(hb:n6 K fd ps [])(hlen:∀ds,φ ds ≠ .no->ds.length=ps.length)
 (mG:∀(bH:Value) (A:Around) (outer:List Env) (s:ai) (H:Hp) (E:XK),dE k (kZ P w K mg base N qual st f bH A outer s H E).A->∃g,kB (kZ P w K mg base N qual st f bH A outer s H E) (oi st) g/\∀ds,φ ds ≠ .no->fin (g (gr N.length ds))=φ ds) :
 gF P w K mg base (k+1) f fd ps φ:=by
 refine⟨?_,hb,Fu.kp⟩
 obtain⟨oc,od,kV,doc,pm,an,bH,ct,n9,rfl,lk,d8⟩:=Fu.ex
 refine AY lk d8 S (λvs H Q E h=>?_) λA outer s H vs Q E hr fm=>?_
 ·obtain⟨ds,i,a8,_⟩:=h
  rw[<-i.length];exact hlen ds a8
 obtain⟨g,hq,hg⟩:=mG bH A outer s H E hr
 obtain⟨ds,i,a8,aS,B_⟩:=fm
 have e0:=hg ds a8
 refine⟨λD' aQ H'=>D'={ nx:=λ_ H'=>Q .b_ H',rt:=Q }/\aQ=L2.start N vs/\H'=H,?_,rfl,rfl,rfl⟩
 intro pins s1 sP H1 D1 I hw
 obtain⟨rfl,rfl,rfl⟩:=hw
 have G_:g (gr N.length ds) ≠ .no:=λz=>a8 (by rw[<-e0,z];rfl)
 refine aC (hq.run pins s1 (L2.start N vs) H1 [] (gr N.length ds) I bZ.nil (PC i) G_) (λfl s' q=>?_) λx' s' q=>?_
 ·cases fl with
  | next =>
    obtain⟨Γ',e1,aQ,H',F',I',_,_,Ex⟩:=q
    exact⟨aQ,H',I',aS .b_ .b_ H' (by rw[<-e0,e1];rfl) Ex.same (Is.B4.mpr rfl)⟩
  | ret u =>
    obtain⟨v,aQ,H',F',I',rv,Ex,⟨d,e1,iv⟩ | ⟨es,a,xs,e1,ev,hn,ha,ia⟩⟩:=q
    ·exact⟨v,aQ,H',I',rv,aS d v H' (by rw[<-e0,e1];rfl) Ex.same iv⟩
    ·exact absurd (by rw[<-e0,e1];rfl) a8
  | brk=>obtain⟨Γ',e1,_⟩:=q;exact absurd (by rw[<-e0,e1];rfl) a8
  | cont=>obtain⟨Γ',e1,_⟩:=q;exact absurd (by rw[<-e0,e1];rfl) a8
 ·obtain⟨c,Γ',aQ,H',F',e1,fl,fo,rl,Ex⟩:=q
  exact PH (F':=F') fl λC hC=>B_ c C H' (by rw[<-e0,e1];rfl) hC Ex.same
theorem ZW{x qual:Str}{st:Stmt}{f:Addr}{fd:cP}{N ps:List Str}{k:Nat}{φ:List D->R (List D)}(Fu:mI K x qual st f fd)(S:bW N ps (bN st))(hb:n6 K fd ps [])(hlen:∀ds,φ ds ≠ .no->ds.length=ps.length)
 (mG:∀(bH:Value) (A:Around) (outer:List Env) (s:ai) (H:Hp) (E:XK),dE k (kZ P w K mg base N qual st f bH A outer s H E).A->∃g,kB (kZ P w K mg base N qual st f bH A outer s H E) (oi st) g/\∀ds,φ ds ≠ .no->Bn (g (gr N.length ds))=φ ds) :
 rO P w K mg base (k+1) f fd ps φ:=by
 refine⟨?_,hb,Fu.kp⟩
 obtain⟨oc,od,kV,doc,pm,an,bH,ct,n9,rfl,lk,d8⟩:=Fu.ex
 refine AY lk d8 S (λvs H Q E h=>?_) λA outer s H vs Q E hr fm=>?_
 ·obtain⟨ds,i,a8,_⟩:=h
  rw[<-i.length];exact hlen ds a8
 obtain⟨g,hq,hg⟩:=mG bH A outer s H E hr
 obtain⟨ds,i,a8,aS,B_⟩:=fm
 have e0:=hg ds a8
 refine⟨λD' aQ H'=>D'={ nx:=λ_ H'=>Q .b_ H',rt:=Q }/\aQ=L2.start N vs/\H'=H,?_,rfl,rfl,rfl⟩
 intro pins s1 sP H1 D1 I hw
 obtain⟨rfl,rfl,rfl⟩:=hw
 have G_:g (gr N.length ds) ≠ .no:=λz=>a8 (by rw[<-e0,z];rfl)
 refine aC (hq.run pins s1 (L2.start N vs) H1 [] (gr N.length ds) I bZ.nil (PC i) G_) (λfl s' q=>?_) λx' s' q=>?_
 ·cases fl with
  | next =>
    obtain⟨Γ',e1,_⟩:=q
    exact absurd (by rw[<-e0,e1];rfl) a8
  | ret u =>
    obtain⟨v,aQ,H',F',I',rv,Ex,⟨d,e1,iv⟩ | ⟨es,a,xs,e1,ev,hn,ha,ia⟩⟩:=q
    ·exact absurd (by rw[<-e0,e1];rfl) a8
    ·subst ev
     exact⟨.ref a,aQ,H',I',rv,aS es a xs H' (by rw[<-e0,e1];rfl) Ex.same (hn.elim (λz=>absurd z (by simp)) λz=>z) ha ia⟩
  | brk=>obtain⟨Γ',e1,_⟩:=q;exact absurd (by rw[<-e0,e1];rfl) a8
  | cont=>obtain⟨Γ',e1,_⟩:=q;exact absurd (by rw[<-e0,e1];rfl) a8
 ·obtain⟨c,Γ',aQ,H',F',e1,fl,fo,rl,Ex⟩:=q
  exact PH (F':=F') fl λC hC=>B_ c C H' (by rw[<-e0,e1];rfl) hC Ex.same
theorem gd{N:List Str}{qual:Str}{st:Stmt}{f:Addr}{bH:Value}{A:Around}{outer:List Env}{s:ai}{H:Hp}{E:XK}:wm (kZ P w K mg base N qual st f bH A outer s H E):=ZU (L:=s.heap.objs.size) rfl rfl rfl
end
section
variable {X:Cx}{e a b c:Expr}{g ga gb gc:G->R D}{pos p:Pos}
def zu:Expr->Bool
 | .Constant (.int _) _ _=>true
 | _=>false
def ZX:Expr->D
 | .Constant (.int i) _ _=>.int i
 | _=>.b_
theorem p_{es:List Expr}(h:es.all zu=true:=by rfl):mZ X es (λ_=>.ok (es.map ZX)):=by
 induction es with
 | nil=>exact aK
 | cons e es ih =>
   have h1:zu e=true/\es.all zu=true:=by simpa using h
   have h2:=ih h1.2
   cases e with
   | Constant c j q =>
     cases c with
     | int i =>
       refine⟨λpos pins s σ H F Γ I fo rl hg=>?_⟩
       exact(ar (X:=X) (e:=.Constant (.int i) j q) aN h2 (by rfl)).run pos pins s σ H F Γ I fo rl (λz=>nomatch z)
     | _=>exact absurd h1.1 (by simp[zu])
   | _=>exact absurd h1.1 (by simp[zu])
theorem ZY{pins:List (Addr×Obj)}{σ:St}{H:Hp}{s:ai}{A:Around}{E:Value->ai->Prop}{Q:Value->ai->Prop}{d:D}{v:V}{u cv:Value}{b:Bool}(I:Inv X pins σ H s)(r6:d.kh=true)(i:Is X.K H d v)(r:RelV v u)(e:AD X.K (.type d.ty) cv=some b)(h:∀tk,Q (.bool b) { s with toks:=tk }) :
 ax (aF X.prog X.w) A (call (.builtin "isinstance") [u,cv]) Q E s:=by
 cases d with
 | b_=>rw[Is.B4.mp i] at r;cases (show u=kE from r);exact xu PySem.W.kitx_none I.iD C1 e (λz=>nomatch z) h
 | bl y=>rw[Is.gy.mp i] at r;cases (show u=JB y from r);exact xu PySem.W.kitx_bool I.iD C1 e (λz=>nomatch z) h
 | int y=>rw[Is.bO.mp i] at r;obtain⟨t,q⟩:=(show ∃t,u=lh y t from r);cases q;exact xu PySem.W.kitx_int I.iD C1 e (λz=>nomatch z) h
 | str y=>rw[Is.Gv.mp i] at r;obtain⟨t,q⟩:=(show ∃t,u=JA y t from r);cases q;exact xu PySem.W.kitx_str I.iD C1 e (λz=>nomatch z) h
 | tup ds =>
   obtain⟨a,xs,rfl,h1,_⟩:=Is.eZ.mp i
   cases (show u=c_ a from r)
   obtain⟨its,_,⟨o,ho,hc,_⟩,_⟩:=I.tuple h1
   exact xu PySem.W.kitx_tuple I.iD ⟨o,ho,hc⟩ e (λz=>nomatch z) h
 | lst ds =>
   obtain⟨a,xs,rfl,h1,_⟩:=Is.fA.mp i
   cases (show u=c_ a from r)
   obtain⟨its,_,⟨o,n,ho,hc,_⟩,_⟩:=I.list h1
   exact xu PySem.W.kitx_list I.iD ⟨o,ho,hc⟩ e (λz=>nomatch z) h
 | jR =>
   obtain⟨a,ob,rfl,h1,h2⟩:∃a ob,v=V.ref a/\H a=some (.fh ob (.own 0))/\ob.cls = .type "dict":=by unfold Is at i;exact i
   cases (show u=c_ a from r)
   exact xu PySem.W.kitx_dict I.iD ⟨ob,(I.aS a _ h1).1,h2⟩ e (λz=>nomatch z) h
 | exc c=>simp[D.kh] at r6
theorem zv{y:Str}{py:Pos}{cv:Value}(f:String->Bool)(ha:PD X a ga)(hm:X.mg "isinstance"=none)(hb:∀{E:Value->ai->Prop} {pins σ H s} {Q:Value->ai->Prop},Inv X pins σ H s->Q cv s->ax (aF X.prog X.w) X.A (eval (.Name y py) X.env) Q E s)
 (hk:∀d:D,d.kh=true->AD X.K (.type d.ty) cv=some (f d.ty)) (hg:Gl X "isinstance":=by rfl)
 (he:bA [a,.Name y py] X.env=(false,eval a X.env)::(false,eval (.Name y py) X.env)::[]:=by rfl) (fM:(cK pos (bA [.Name y py] X.env)).any (·.1)=false:=by rfl) (yW:bA [.Name y py] X.env=[(false,eval (.Name y py) X.env)]:=by rfl) :
 PD X (.Call (.Name "isinstance" p) [a,.Name y py] [] pos) (sZ f ga):=by
 refine⟨λpins s σ H F Γ I fo rl cw=>?_⟩
 refine mB (iE I hg hm (by decide +kernel:oN "isinstance"=some (.builtin "isinstance")) ?_ (by decide) (by decide))
 refine Kh ?_ (by rw[he,yW]) fM
 rw[he]
 show ax _ _ (gf ((false,eval a X.env)::cK pos [(false,eval (.Name y py) X.env)])) _ _ s
 refine iA (aC (ha.run pins s σ H F Γ I fo rl (R.left cw)) (λu s1 ⟨d,v,H1,e1,I1,r1,S1,i1⟩=>?_) λ_ _ x=>x.bind _)
 show ax _ _ (gf ((false,eval (.Name y py) X.env)::cK pos [])) _ _ s1
 refine iA (hb I1 (ke ?_))
 obtain⟨r6,e2⟩:=VH (R.next cw e1)
 exact ZY I1 r6 i1 r1 (hk d r6) λtk=>dj.bind e1 S1 ⟨.bl (f d.ty),.bl (f d.ty),H1,e2,I1.tok _,rfl,.refl _,Is.gy.mpr rfl⟩
theorem ZZ{K:aD}(d:D)(h:d.kh=true):AD K (.type d.ty) (.type "int")=some (Bf d.ty):=by cases d<;>first | rfl | (simp[D.kh] at h)
theorem Z0{K:aD}(d:D)(h:d.kh=true):AD K (.type d.ty) (.type "bool")=some (Bg d.ty):=by cases d<;>first | rfl | (simp[D.kh] at h)
theorem PJ{K:aD}(d:D)(h:d.kh=true):AD K (.type d.ty) (.type "tuple")=some (vj d.ty):=by cases d<;>first | rfl | (simp[D.kh] at h)
theorem Z1{K:aD}(d:D)(h:d.kh=true):AD K (.type d.ty) (.type "list")=some (Bh d.ty):=by cases d<;>first | rfl | (simp[D.kh] at h)
theorem Z2{x:Str}{i:Int}{u:Value}(hm:X.mg x=some u)(hu:∃t,u = .int i t)(hg:Gl X x:=by rfl)(hd:(x==("__debug__":Str))=false:=by decide):PD X (.Name x pos) (gC (.int i)) :=
 Y1 hg hm (v:=.int i) hu (λ_=>Is.bO.mpr rfl) hd
end
theorem rO.mono{P:aY}{w:aO}{K:aD}{mg:Str->Option Value}{base:Heap}{j k:Nat}{f:Addr}{fd:cP}{ps:List Str}{φ:List D->R (List D)}(F:rO P w K mg base j f fd ps φ)(h:j<=k):rO P w K mg base k f fd ps φ:=⟨F.ok.mono h,F.binds,F.kp⟩
def wt(φ:List D->R D)(K:aD):Sp:=λvs H Q _=>∃ds d,aA K H ds vs/\φ ds = .ok d/\(∀v H',aT H H'->Is K H' d v->Q v H')
theorem Z3{φ:List D->R D}{K:aD}{mg:Str->Option Value}{vs:List V}{H:Hp}{Q:VK}{E:XK}(h:wt φ K vs H Q E):B8 K mg φ vs H Q E:=by
 obtain⟨ds,d,i,e,q⟩:=h
 exact⟨ds,i,(by rw[e];exact(λz=>nomatch z)),(λd' v H' e' S iv=>by rw[e] at e';cases e';exact q v H' S iv),(λc C H' e'=>by rw[e] at e';cases e')⟩
theorem gF.okN{P:aY}{w:aO}{K:aD}{mg:Str->Option Value}{base:Heap}{k:Nat}{f:Addr}{fd:cP}{ps:List Str}{φ:List D->R D}(F:gF P w K mg base k f fd ps φ):jo P w K mg base (pR P w) k f fd ps (wt φ K) :=
 F.ok.imp λ_ _ _ _ h=>Z3 h
theorem Z4{c:List D->R D}(hc:∀ns:List Int,ns.length<=63->c [.lst (ns.map D.int)] = .ok (.bl true)){K:aD}{H:Hp}{a:Addr}{ns:List Int}(hl:ns.length<=63)(hS:bM K H a (ns.map V.int)):wt c K [.ref a] H (λv _=>v = .bl true) λ_ _ _=>False :=
 ⟨[.lst (ns.map D.int)],.bl true,aA.cons (Is.fA.mpr ⟨a,_,rfl,hS,aA.ints ns⟩) aA.nil,hc ns hl,λv H' _ iv=>Is.gy.mp iv⟩
theorem Z5{P:aY}{w:aO}{H:Hp}{s:ai}{e:Value}{s':ai}(h:pR P w [] H s (λ_ _ _=>False) e s'):False:=by
 obtain⟨_,_,_,_,_,_,_,_,_,_,_,_,_,_,_,_,_,_,_,_,_,_,_,_,_,_,z⟩:=h
 exact z
theorem Z6{l:a5h}{n k:Nat}{q:aY}{loose:List Str}{XP:(Str->Option Value)->Heap->Prop}{YP:aO->Heap->Prop}{d:DefRec}{K:qC->aD}{CX:aO->kf}(sp:aD->Sp){x:Str}
 (hn:l.most=some n) (sV:n<=ck) (xK:d.params.defaults=[]) (hr:dE k uH)
 (hY:∀(w:aO) (h:Heap),YP w h->(K w.params).In h)
 (F:∀(w:aO) (mg:Str->Option Value) (fa:Addr) (h:Heap),(K w.params).In h->h.Ns dP mg->mg d.name=some (.ref fa) ->
   ∃fd:cP,(∀(s:ai) (u:Value),BindsTo s fd ⟨[u],[]⟩ [(x,u)]) /\
    ∀base:Heap,(K w.params).In base->base.Ns dP mg->jo l.prog w (K w.params) mg base (CX w) k fa fd [x] (sp (K w.params)))
 (fm:∀(K:aD) (H:Hp) (a:Addr) (ns:List Int),ns.length<=n->bM K H a (ns.map V.int)->sp K [.ref a] H (λv _=>v = .bl true) λ_ _ _=>False)
 (xN:∀(w:aO) (H:Hp) (s:ai) (e:Value) (s':ai),CX w [] H s (λ_ _ _=>False) e s'->False) :
 PySem.W.WalkO q loose XP YP l.row.toRowW d [] (λf vs=>RY f vs) :=
 Ly (K:=K) (CX:=CX) (sp:=λw=>sp (K w.params)) hn sV xK hr hY F (λw H a ns h1 _ h3=>fm (K w.params) H a ns h1 h3) xN
end L3
namespace L3
open PySem PySem.Spec PyProof.Rows L2
def Cq(lo st:Int)(n:Nat):It:=⟨λi _=>i<n,λi H x H'=>H'=H/\x = .int (lo+st*(i:Int)),λi _=>n<=i⟩
theorem Z7{P:aY}{w:aO}{K:aD}{tg:Expr}(it:Addr)(lo st:Int)(n:Nat):Turn P w K tg (Cq lo st n) [it] it (λi h=>JF h it (lo+(i:Nat)*st) ((n:Int)-(i:Nat)) st) where
 mem:=by simp
 obj:=λi h st b hb=>by
  have e:b=it:=by simpa using hb
  subst e
  exact⟨_,st,λv z=>by
   have z':Data.fields _=Data.cell v:=z
   cases z'⟩
 keep:=λi h h' st k=>k it (by simp) _ st
 item:=by
  intro X hP hw hK hc i pins s σ H E I hf sx hg
  subst hP hw hK
  obtain⟨f0,f1,f2,f3,f4,f5⟩:=hf it (by simp)
  have W:=Walks.range (prog:=X.prog) (w:=X.w) (I.ok.hd hc) it lo st n
  refine W.item i s _ _ hg sx λv h' tk hv jQ kk=>?_
  obtain⟨t,rfl⟩:=hv
  have I1:Inv X pins σ H { s with heap:=h',toks:=tk }:=I.turned (λb o hb e=>kk b o (by simpa using hb) e) f0 f1 f3 f4 f5
  refine⟨_,rfl,AV (s:={ s with heap:=h',toks:=tk }) (n:="range_iterator") jQ rfl rfl (by decide) ⟨.int (lo+st*i),H,I1,⟨t,?_⟩,⟨rfl,rfl⟩,jQ,λb hb=>(hf b hb).1⟩⟩
  rw[j_]
 done:=by
  intro X hP hw hK hc i pins s σ H E I hf sx hg
  subst hP hw hK
  obtain⟨f0,f1,f2,f3,f4,f5⟩:=hf it (by simp)
  exact a4o (I.ok.hd hc) sx (by have:n<=i:=hg;lia) λh' eb=>⟨rfl,I.turned (t':=s.toks) (λb o hb e=>eb b o hb e) f0 f1 f3 f4 f5⟩
 self:=λ_ _ _ _ _ st h=>a4p st h
theorem Cr{a b c:Int}(hc:0<c):Ag a b c=((jU a b c:Nat):Int):=by
 unfold Ag jU
 rw[if_pos hc]
 by_cases h:a<b
 ·rw[if_pos h,show b-a+c-1=(b-a-1)+c*1 by lia,Int.add_mul_ediv_left _ _ (by lia)]
  have:0<=(b-a-1)/c:=a5s (by lia) (by lia)
  lia
 ·rw[if_neg h]
  have h1:(b-a+c-1)/c<=0:=by
   have:(b-a+c-1)/c<=(c-1)/c:=Int.ediv_le_ediv hc (by lia)
   have h2:(c-1)/c=0:=a6x (by lia) (by lia)
   lia
  lia
theorem Z8{a b c:Int}(hc:0<c)(h:a<=b):((jU a b c:Nat):Int)<=b-a:=by
 rw[<-Cr hc]
 unfold Ag
 rw[if_pos hc]
 by_cases h:a<b
 ·rw[if_pos h]
  have:=a5t (a:=b-a-1) c (by lia)
  lia
 ·rw[if_neg h];lia
theorem Z9{a b c:Int}(ha:-1073741824<=a)(Br:a<1073741824)(hb:-1073741824<=b)(fY:b<1073741824)(hc:0<c)(sM:c<1073741824):a6y a b c=true:=by
 unfold a6y
 have hs:((jU a b c:Nat):Int)<=4294967296:=by
  by_cases h:a<=b
  ·have:=Z8 hc h;lia
  ·rw[<-Cr hc]
   unfold Ag
   rw[if_pos hc,if_neg (by lia)];lia
 rw[Cr hc]
 generalize jU a b c=n at *
 simp only[Builtin.Range.rangeFitsLong,jf,Kk,decide_eq_true_eq,beq_iff_eq,if_pos (show c>0 from hc)]
 lia
section
variable {X:Cx}{tg a b c:Expr}{ga gb gc:G->R D}
theorem Z_{pins:List (Addr×Obj)}{σ:St}{H:Hp}{s:ai}{R:It->Hp->Prop}{E:Value->ai->Prop}{lo hi st:Int}{t u v:Tok}{tk:Nat}(I:Inv X pins σ H s)(h1:-1073741824<=lo)(h2:lo<1073741824)(h3:-1073741824<=hi)(h4:hi<1073741824)(h5:0<st)(h6:st<1073741824)
 (q:R (Cq lo st (jU lo hi st)) H):ax (aF X.prog X.w) X.A (qu (.ref s.heap.objs.size)) (DZ X pins σ tg R) E { s with heap:=s.heap.push { cls:=.type "range",data:=.fields #[.int lo t,.int hi u,.int st v] },toks:=tk }:=by
 refine a4q (IsRange.new ..) (Z9 h1 h2 h3 h4 h5 h6) ?_
 have I1:Inv X pins σ H { s with heap:=s.heap.push { cls:=.type "range",data:=.fields #[.int lo t,.int hi u,.int st v] },toks:=tk }:=I.kept λb o e=>bP _ e
 refine⟨(s.heap.push { cls:=.type "range",data:=.fields #[.int lo t,.int hi u,.int st v] }).objs.size,[(s.heap.push { cls:=.type "range",data:=.fields #[.int lo t,.int hi u,.int st v] }).objs.size],_,_,H,rfl,
  I1.kept (t':=tk) λb o e=>bP _ e,Z7 _ lo st (jU lo hi st),?_,λb hb=>?_,q⟩
 ·have e1:lo+((0:Nat):Int)*st=lo:=by simp
  have e2:((jU lo hi st:Nat):Int)-((0:Nat):Int)=Ag lo hi st:=by rw[Cr h5];lia
  show JF _ _ (lo+((0:Nat):Int)*st) (((jU lo hi st:Nat):Int)-((0:Nat):Int)) st
  rw[e1,e2]
  exact dQ _ rfl
 ·have e:b=(s.heap.push { cls:=.type "range",data:=.fields #[.int lo t,.int hi u,.int st v] }).objs.size:=by simpa using hb
  subst e
  exact I1.ve (a7 _) (I1.aS.fresh (a7 _))
theorem x4d(lo st:Int)(n:Nat):(kO lo st n).length=n:=by unfold kO;simp
theorem w3t{K:aD}{H:Hp}{F:List Addr}(lo st:Int)(n:Nat):JD K H F (Cq lo st n) (kO lo st n):=λH1 S=>by
 rw[x4d]
 refine⟨λj hj=>⟨hj,λx H2 y=>⟨y.1,.int (lo+st*(j:Int)),by unfold kO;simp[hj],λF' _=>?_⟩⟩,a7 _⟩
 exact Is.bO.mpr y.2
theorem x2r{p pos:Pos}(ha:PD X a ga)(hb:PD X b gb)(hc:PD X c gc)(hm:X.mg "range"=none)(hg:Gl X "range":=by rfl)(hs:bA [a,b,c] X.env=[(false,eval a X.env),(false,eval b X.env),(false,eval c X.env)]:=by rfl)(m6:bA [b,c] X.env=[(false,eval b X.env),(false,eval c X.env)]:=by rfl) :
 tW X tg (.Call (.Name "range" p) [a,b,c] [] pos) (EB ga gb gc):=by
 refine⟨λpins s σ H F Γ I fo rl cw=>?_⟩
 refine Kj (iE I hg hm SD (uU ?_ (by rw[hs,m6]) (by rw[m6];rfl)))
 rw[hs]
 show ax _ _ (gf ((false,eval a X.env)::cK pos [(false,eval b X.env),(false,eval c X.env)])) _ _ s
 refine iA (aC (ha.run pins s σ H F Γ I fo rl (R.left cw)) (λu s1 ⟨d,v,H1,e1,I1,r1,S1,i1⟩=>?_) λ_ _ x=>x.bind _)
 have aW:=R.next cw e1
 show ax _ _ (gf ((false,eval b X.env)::cK pos [(false,eval c X.env)])) _ _ s1
 refine iA (aC (hb.run pins s1 σ H1 F Γ I1 (fo.same S1) (rl.same S1) (R.left aW)) (λu2 s2 ⟨d2,v2,H2,e2,I2,r2,S2,i2⟩=>?_) λ_ _ x=>bV.later e1 S1 (x.bind _))
 have dH:=R.next aW e2
 show ax _ _ (gf ((false,eval c X.env)::cK pos [])) _ _ s2
 refine iA (aC (hc.run pins s2 σ H2 F Γ I2 ((fo.same S1).same S2) ((rl.same S1).same S2) (R.left dH)) (λu3 s3 ⟨d3,v3,H3,e3,I3,r3,S3,i3⟩=>ke ?_) λ_ _ x=>bV.later e1 S1 (bV.later e2 S2 (x.bind _)))
 have r8:=R.next dH e3
 cases d with
 | int i =>
   cases d2 with
   | int j =>
     cases d3 with
     | int k =>
       obtain⟨⟨⟨h1,h2⟩,⟨h3,h4⟩,h5,h6⟩,e4⟩:=R.dF (show R.guard ((-1073741824<=i/\i<1073741824)/\(-1073741824<=j/\j<1073741824)/\0<k/\k<1073741824) (.ok (kO i k (jU i j k))) ≠ .no from r8)
       rw[Is.bO.mp i1] at r1
       rw[Is.bO.mp i2] at r2
       rw[Is.bO.mp i3] at r3
       obtain⟨t,rfl⟩:=(show ∃t,u=lh i t from r1)
       obtain⟨t',rfl⟩:=(show ∃t,u2=lh j t from r2)
       obtain⟨t'',rfl⟩:=(show ∃t,u3=lh k t from r3)
       refine call_range_3 (by lia) (eM (Z_ (tg:=tg) (R:=λJ H'=>J=Cq i k (jU i j k)/\H'=H3) I3 h1 h2 h3 h4 h5 h6 ⟨rfl,rfl⟩) λkK s4 ⟨it,fp,tn,J,H',ei,I4,T,t0,fk,eJ,eH⟩=>?_) (.inl (a4s (by lia)))
       subst eJ eH
       exact⟨_,it,fp,tn,_,H',(R.step e1 _).trans ((R.step e2 _).trans ((R.step e3 _).trans e4)),ei,I4,(S1.trans S2).trans S3,T,t0,fk,w3t i k _⟩
     | _=>exact absurd rfl r8
   | _=>exact absurd rfl r8
 | _=>exact absurd rfl r8
end
section
variable {prog:aY}{w:aO}{A:Around}{E:Value->ai->Prop}{s:ai}
open HT in
theorem z9r{t sl:Addr}{items:Array Value}{vl vu:Value}{lo hi:Option Int}{Q:Value->ai->Prop}(ht:si s.heap t items)(hs:s.heap.IsSliceOf sl vl vu .none)(pl:qA vl lo)(pu:qA vu hi)
 (hw:HT.a9 items.size 0 lo=0/\HT.a9 items.size items.size hi=items.size) (h:Q (.ref t) s):ax (aF prog w) A (wW (.ref t) (.ref sl)) Q E s:=by
 obtain⟨os,sU,A1,xI⟩:=id hs
 have D9:s.TypeIs (.ref sl) "slice":=⟨os,sU,A1⟩
 unfold wW
 try with_reducible refine j9 ?_
 first | refine ay (aM ?_) | skip
 refine ay (a4z ht.typeIs (by decide) ?_)
 refine ay (uF (name:=cU "__getitem__") ht.typeIs JN
  (nM JN ht.typeIs a5a ?_ (a5b _ _)))
 show ax _ _ (a5c (.ref t)>>=_) _ _ s
 refine ay (tupleItemsOf_ ht ?_)
 refine ay (Ai D9 ?_)
 rw[if_pos (by decide)]
 refine ay (Lj hs pl pu ?_)
 have a0a:(((HT.a9 items.size 0 lo:Nat):Int)==0&&(1:Int)==1&&(HT.a9 items.size items.size hi-HT.a9 items.size 0 lo)==items.size)=true:=by
  rw[hw.1,hw.2];simp
 show ax _ _ (if (((HT.a9 items.size 0 lo:Nat):Int)==0&&(1:Int)==1&&(HT.a9 items.size items.size hi-HT.a9 items.size 0 lo)==items.size)=true then _ else _) _ _ s
 rw[if_pos a0a]
 unfold Builtin.Tuple.tupleIsExact
 refine ay (ay (Ai ht.typeIs ?_))
 refine aM ?_
 rw[if_pos (by decide)]
 exact ay (Dy (aM ⟨_,rfl,aM h⟩))
end
section
variable {X:Cx}{e a b c:Expr}{g ga gb gc:G->R D}{lo hi:Option Expr}{gl gh:G->R (Option Int)}{pos p2:Pos}
def a0b(K:aD):V->Option Int->Option Int->Hp->VK->Prop:=λx lo hi H Q=>∃a xs,x = .ref a/\b6 K H a xs/\(HT.a9 xs.length 0 lo=0/\HT.a9 xs.length xs.length hi=xs.length)/\Q (.ref a) H
theorem w2a:og X (a0b X.K):=by
 intro pins s σ H x v vl vu lo hi sl Q I rx hs pl pu h
 obtain⟨a,xs,rfl,hx,hw,q⟩:=h
 cases rx
 obtain⟨its,r,ht,hz⟩:=I.tuple hx
 have hlen:its.toArray.size=xs.length:=by rw[dc];exact r.length.symm
 refine⟨"tuple",_,PyProof.Rows.slot_tuple_getitem.lookup,ht.typeIs,?_⟩
 exact z9r ht hs pl pu (by rw[hlen];exact hw) ⟨.ref a,H,I,rfl,q⟩
structure wu (X:Cx) (e:Option Expr) (g:G->R (Option Int)):Prop where
 run:∀(pins:List (Addr×Obj)) (s:ai) (σ:St) (H:Hp) (F:List Addr) (Γ:G),Inv X pins σ H s->bZ H F->Rel X.K H F Γ σ->g Γ ≠ .no ->
  ax (aF X.prog X.w) X.A (evalPart e X.env) (λu s'=>∃o H',g Γ = .ok o/\Inv X pins σ H' s'/\qA u o/\aT H H') (bV X pins σ H (g Γ)) s
theorem Cs:wu X none lG:=⟨λpins s σ H F Γ I fo rl hg=>by
 rw[evalPart_none]
 exact aM ⟨none,H,rfl,I,.none,.refl _⟩⟩
theorem Ct(h:PD X e g):wu X (some e) (lH g):=⟨λpins s σ H F Γ I fo rl hg=>by
 rw[evalPart_some]
 refine aC (h.run pins s σ H F Γ I fo rl (R.left hg)) (λu s1 ⟨d,x,H1,e1,I1,r1,S1,i1⟩=>?_) λ_ _ x=>x.bind _
 have aW:=R.next hg e1
 cases d with
 | int i =>
   rw[Is.bO.mp i1] at r1
   obtain⟨t,rfl⟩:=(show ∃t,u=lh i t from r1)
   exact⟨some i,H1,R.step e1 _,I1,.int i t,S1⟩
 | _=>exact absurd rfl aW⟩
theorem aA.cut{K:aD}{H:Hp}{ds:List D}{xs:List V}(h:aA K H ds xs)(lo hi:Option Int):aA K H (q_ ds lo hi) (mH xs lo hi):=by
 have hl:=h.length
 unfold q_ mH
 rw[hl]
 exact(h.drop _).take _
theorem w5a{r:V->Option Int->Option Int->Hp->VK->Prop}(hr:og X.bG r)(ha:PD X a ga)(hl:wu X lo gl)(hh:wu X hi gh){pins:List (Addr×Obj)}{s:ai}{σ:St}{H:Hp}{F:List Addr}{Γ:G}(I:Inv X pins σ H s)(fo:bZ H F)(rl:Rel X.K H F Γ σ)
 {α:Type} {rr:R α} {k:D->Option Int->Option Int->R α} (lU:rr=(ga Γ>>=λd=>gl Γ>>=λl=>gh Γ>>=λh=>k d l h)) (hg:rr ≠ .no) {Q:Value->ai->Prop}
 (hq:∀d x l h H3,k d l h ≠ .no->rr=k d l h->aT H H3->Is X.K H3 d x->bZ H3 F->Rel X.K H3 F Γ σ->r x l h H3 λz H'=>∀u s',Inv X pins σ H' s'->RelV z u->Q u s') :
 ax (aF X.prog X.w) X.A (eval (.Subscript a (.Slice lo hi none p2) pos) X.env) Q (bV X pins σ H rr) s:=by
 subst lU
 refine Subscript_ (aC (ha.run pins s σ H F Γ I fo rl (R.left hg)) (λv s1 ⟨d,x,H1,e1,I1,r1,S1,i1⟩=>?_) λ_ _ x=>x.bind _)
 have aW:=R.next hg e1
 refine wpAny_Slice (aC (hl.run pins s1 σ H1 F Γ I1 (fo.same S1) (rl.same S1) (R.left aW)) (λvl s2 ⟨l,H2,e2,I2,pl,S2⟩=>?_) λ_ _ x=>bV.later e1 S1 (x.bind _))
 have dH:=R.next aW e2
 refine aC (hh.run pins s2 σ H2 F Γ I2 ((fo.same S1).same S2) ((rl.same S1).same S2) (R.left dH)) (λvu s3 ⟨h,H3,e3,I3,pu,S3⟩=>?_) λ_ _ x=>bV.later e1 S1 (bV.later e2 S2 (x.bind _))
 have r8:=R.next dH e3
 have Ha:=(S1.trans S2).trans S3
 rw[evalPart_none]
 refine aM ?_
 have I4:Inv X pins σ H3 { s3 with heap:=s3.heap.push { cls:=.type "slice",data:=.fields #[vl,vu,.none] } }:=I3.kept (t':=s3.toks) λb ob q=>bP _ q
 obtain⟨T,id,hT,ht,hgi⟩:=hr pins { s3 with heap:=s3.heap.push { cls:=.type "slice",data:=.fields #[vl,vu,.none] } } σ H3 x v vl vu l h s3.heap.objs.size _ (I4.cZ _) r1 (Heap.IsSliceOf.new ..) pl pu (hq d x l h H3 r8 ((R.step e1 _).trans ((R.step e2 _).trans (R.step e3 _))) Ha ((i1.same S2).same S3) (fo.same Ha) (rl.same Ha))
 show ax (aF X.prog X.w) X.A (subscriptTail a (.Slice lo hi none p2) v (.ref s3.heap.objs.size)) _ _ { s3 with heap:=s3.heap.push { cls:=.type "slice",data:=.fields #[vl,vu,.none] } }
 refine tail_any (ops:=[.ref s3.heap.objs.size,v]) ht hT (aC hgi (λu s5 ⟨z,H5,I5,rz,q5⟩=>q5 u s5 I5.dr rz) λ_ _ z=>cT z) (by with_unfolding_all rfl)
theorem Cu(ha:PD X a ga)(hl:wu X lo gl)(hh:wu X hi gh):PD X (.Subscript a (.Slice lo hi none p2) pos) (lI ga gl gh):=⟨λpins s σ H F Γ I fo rl hg =>
 w5a (og.or (og.or Uy w2a) UP) ha hl hh I fo rl (k:=xV) rfl hg λd x l h H3 hk er S i p8 p9=>by
  cases d with
  | tup ds =>
    obtain⟨p,xs,rfl,h1,h2⟩:=Is.eZ.mp i
    by_cases hw:HT.a9 xs.length 0 l=0/\HT.a9 xs.length xs.length h=xs.length
    ·refine .inl (.inr ⟨p,xs,rfl,h1,hw,λu s' I' rz=>⟨_,.ref p,H3,er,I',rz,S,Is.eZ.mpr ⟨p,xs,rfl,h1,?_⟩⟩⟩)
     have:=h2.cut l h
     unfold mH at this
     rw[hw.1,hw.2,xg,C_,uI] at this
     exact this
    ·refine .inl (.inl ⟨p,xs,rfl,h1,hw,λq hq u s' I' rz=>?_⟩)
     have S2:=jD hq (.tup (mH xs l h))
     exact⟨_,.ref q,_,er,I',rz,S.trans S2,Is.eZ.mpr ⟨q,_,rfl,b6.of dI,(h2.cut l h).same S2⟩⟩
  | lst ds =>
    obtain⟨p,xs,rfl,h1,h2⟩:=Is.fA.mp i
    refine .inr ⟨p,xs,rfl,h1,λq hq u s' I' rz=>?_⟩
    have S2:=jD hq (.lst (mH xs l h))
    exact⟨_,.ref q,_,er,I',rz,S.trans S2,Is.fA.mpr ⟨q,_,rfl,bM.of dI,(h2.cut l h).same S2⟩⟩
  | _=>exact absurd rfl hk⟩
end
end L3
namespace L3
open PySem PySem.Spec PyProof.Rows L2
section
variable {prog:aY}{w:aO}{A:Around}{E:Value->ai->Prop}{s:ai}
end
section
variable {X:Cx}{e:Expr}{g:G->R D}{pos pt:Pos}
end
def Hc:List Value:=[.type "ValueError",.type "Exception",.type "BaseException",.type "object"]
def w7d(h:Heap)(C:Addr):Prop:=∃bm N nm q bs hdct sn sub ab col dd k0 k1 k2 k3 k5 mN,h.get? C=some (excClassObj nm q C N bs bm hdct sn sub ab col dd k0 k1 k2 k3 k5 "ValueError.__new__")/\h.Ns N mN/\mN "__init__"=none/\OwnTail h Hc bm
theorem x6y{K:aD}{h:Heap}{C:Addr}(X:K.In h)(q:SN K C Hc "ValueError.__new__"=true):w7d h C:=by
 unfold SN at q
 cases e:K.lookup C with
 | none=>rw[e] at q;cases q
 | some o =>
   rw[e] at q
   obtain⟨cls,dd,data,sl⟩:=o
   split at q
   ·rename_i heq
    obtain⟨rfl,rfl,rfl,rfl⟩:cls=_/\dd=_/\data=_/\sl=_:=by
     have z:=iQ heq
     injection z with z1 z2 z3 z4
     exact⟨z1,z2,z3,z4⟩
    split at q
    ·rename_i hm hs
     rename_i cd xa xb C' bm k0 k1 k2 k3 n k5
     simp only[jf,beq_iff_eq,Bool.not_eq_true'] at q
     obtain⟨⟨⟨⟨⟨q1,q2⟩,q3⟩,q4⟩,q5⟩,q6⟩:=q
     obtain⟨nm,bs,mro,ns,qn,hd,sn,sub,ab,col,del⟩:=cd
     subst q1 q2
     have h1:mro = .ref C'::bm:=hm
     have h2:del=false:=q3
     subst h1 h2
     have h3:sl=#[k0,k1,k2,k3,some (.builtin "ValueError.__new__"),k5]:=by
      cases sl with | mk l=>exact congrArg Array.mk hs
     subst h3
     exact⟨bm,ns,nm,qn,bs,hd,sn,sub,ab,col,dd,k0,k1,k2,k3,k5,_,X _ _ e,.of_isNs (PySem.W.isNs_of_in X q5),PySem.W.nsMap_none_of_in X q5 q6,PySem.W.tail_of_in X q4⟩
    ·cases q
   ·cases q
structure Hd (K:aD) (mg:Str->Option Value) (c:Er) (C:Addr):Prop where
 ns:mz K dP c.nm=some (some (.ref C))
 mg:mg c.nm=some (.ref C)
 ex:SN K C Hc "ValueError.__new__"=true
section
variable {X:Cx}{e:Expr}{g:G->R D}{pos np d_:Pos}
theorem w8h{pins:List (Addr×Obj)}{σ:St}{H:Hp}{s:ai}{q:Addr}(I:Inv X pins σ H s)(hq:s.heap.get? q=none):H q=none:=by
 cases e:H q with
 | none=>rfl
 | some o=>obtain⟨ob,h⟩:=Pt (I.aS q o e);rw[hq] at h;cases h
theorem x8s{c:Er}{C:Addr}{x:Str}{d:D}(hX:Hd X.K X.mg c C)(he:PD X e (gC d))(hc:X.calm=true)(hex:X.ex=[]:=by rfl)(hxn:x=c.nm:=by rfl)(hg:Gl X x:=by rfl)(jZ:(x==("__debug__":Str))=false:=by decide)
 (hs:bA [e] X.env=(false,eval e X.env)::bA [] X.env:=by rfl):PQ X (.Raise (some (.Call (.Name x np) [e] [] d_)) none pos) (Bm c):=by
 refine⟨λpins s σ H F Γ I fo rl _=>?_⟩
 subst hxn
 obtain⟨bm,N,nm,q,bs,hdct,sn,sub,ab,col,dd,k0,k1,k2,k3,k5,mN,hC,hN,hni,T⟩:=x6y I.mod.sJ hX.ex
 refine wpAny_Raise_call_subT (C:=C) (nm:=nm) (q:=q) (N:=N) (bs:=bs) (bm:=bm) (hdct:=hdct) (sn:=sn) (sub:=sub) (ab:=ab) (col:=col) (dd:=dd) (k0:=k0) (k1:=k1) (k2:=k2) (k3:=k3) (k5:=k5)
  PySem.F.excBase_ValueError (mN:=mN) (T.hasType PySem.F.excBase_ValueError.hasBase) (I.ok.hd hc) (by rw[hs];rfl) hni (vd I hg hX.mg ⟨rfl,?_⟩ jZ)
 rw[hs]
 refine Kq (iA (aC (he.run pins s σ H F Γ I fo rl (λz=>nomatch z)) (λu s1 ⟨d',v,H1,e1,I1,r1,S1,i1⟩=>ke ?_) λx s1 ⟨c',H',e',_⟩=>by cases e'))
 refine⟨rfl,by show 1<=ck;decide,I1.bk _ _ hC,hN.keeps I1.bk,T.keeps I1.bk,λh' en M=>?_⟩
 obtain⟨t,hte,PK,ht1⟩:=M.there
 have I2:Inv X pins σ H1 { s1 with heap:=h' }:=I1.kept (t':=s1.toks) λb o q=>M.keeps b o q
 obtain⟨g1,g2,g3,g4⟩:=I1.gone hex M.new
 exact⟨c,Γ,σ,H1,F,rfl,⟨I2,en,C,_,_,rfl,hX.mg,w8h I1 M.new,g1,g2,g3,g4,hte,rfl,rfl,⟨_,rfl⟩,.inl rfl⟩,fo.same S1,rl.same S1,.of_same S1⟩
end
section
variable {K:aD}{M:oO}{A:Around}{E:Value->ai->Prop}{s:ai}
end
structure He (K:aD) (C:Addr):Prop where
 ga:uB K (.ref C) "__getattribute__"=some (some (.builtin "BaseException.__getattribute__"))
 gn:uB K (.ref C) "__getattr__"=some none
 cl:uB K (.ref C) "__class__"=some (some (.builtin "object.__class__"))
 mo:JH K C (.type "object")=some true
 mb:JH K C (.type "BaseException")=some true
 ty:PySem.W.typeIn K (.ref C)=some (.type "type")
 is:(PySem.W.clsIn K C).isSome=true
section
variable {K:aD}{prog:aY}{w:aO}{A:Around}{E:Value->ai->Prop}{s:ai}{a C:Addr}{o:Obj}
end
section
variable {X:Cx}{pos p pn:Pos}
structure PCl (X:Cx) (es:List Expr) (vs:List Value):Prop where
 run:∀{E:Value->ai->Prop} {pos:Pos} {pins:List (Addr×Obj)} {σ:St} {H:Hp} {s:ai} {Q:List Value->ai->Prop},Inv X pins σ H s->Q vs s->ax (aF X.prog X.w) X.A (gf (cK pos (bA es X.env))) Q E s
def mk(X:Cx)(v:Value):Cx:={ X with A:=X.A.mark (some v),calm:=false }
end
section
variable {X:Cx}{pos np OY:Pos}
structure a9k (X:Cx) (B:Addr):Prop where
 cl:He X.K B
 ns:∀(c:Er) (C:Addr),X.mg c.nm=some (.ref C)->mz X.K dP c.nm=some (some (.ref C))/\JH X.K C (.ref B)=some true
end
section
variable {X:Cx}{pos p pn:Pos}
end
section
variable {X:Cx}{e a b c:Expr}{g ga gb gc:G->R D}{pos pos':Pos}{es:List Expr}{gs:G->R (List D)}
end
section
variable {P:aY}{w:aO}{K:aD}{mg:Str->Option Value}{base:Heap}
theorem PL{x qual:Str}{st:Stmt}{f:Addr}{fd:cP}{N ps:List Str}{k:Nat}(Fu:mI K x qual st f fd)(S:bW N ps (bN st))(hb:n6 K fd ps []):gF P w K mg base (k+1) f fd ps (λ_=>.no):=by
 refine⟨?_,hb,Fu.kp⟩
 obtain⟨oc,od,kV,doc,pm,an,bH,ct,n9,rfl,lk,d8⟩:=Fu.ex
 exact AY lk d8 S (λvs H Q E h=>absurd rfl h.choose_spec.2.1) λA outer s H vs Q E hr fm=>absurd rfl fm.choose_spec.2.1
end
section
variable {X:Cx}{e a b c:Expr}{g ga gb gc:G->R D}{pos pos' p p2:Pos}{es:List Expr}{gs:G->R (List D)}{lo hi:Option Expr}{gl gh:G->R (Option Int)}
def w7p(K:aD):R2:=λx y H Q=>∃l b xs zs,x = .ref l/\y = .ref b/\bM K H l xs/\bM K H b zs/\xs.length+zs.length<=ck/\∀p,H p=none->Q (.ref p) (upd H p (.lst (xs++zs)))
theorem w3f:fi X (iS .Add) (w7p X.K):=by
 intro pins s σ H x y v u Q I rx ry h
 obtain⟨l,b,xs,zs,rfl,rfl,hH,hB,hz,q⟩:=h
 cases rx
 cases ry
 obtain⟨i1,r1,pl1,_⟩:=I.list hH
 obtain⟨i2,r2,pl2,_⟩:=I.list hB
 have n1:=r1.length
 have n2:=r2.length
 obtain⟨⟨c1,d1,t1,s1⟩,o1,k1,m1,j1⟩:=pl1.isList
 obtain⟨⟨c2,d2,t2,s2⟩,o2,k2,m2,j2⟩:=pl2.isList
 simp only at k1 j1 k2 j2
 subst k1 j1 k2 j2
 refine JL ⟨_,o1,rfl⟩ ⟨_,o2,rfl⟩ noFill_list_add seq_list_add PySem.F.slot_list_add PySem.F.entry_list_add (PySem.F.args_list_add_2 _ _) (list_addW l b i1.toArray i2.toArray m1 m2 d1 d2 s1 s2 (by simp only[dc];lia)) ⟨o1,o2,?_⟩
 have ea:i1.toArray++i2.toArray=(i1++i2).toArray:=by simp
 rw[ea]
 exact⟨.ref _,_,I.Lr (t':=s.toks) (r1.append r2) (by rw[fD];lia),rfl,q _ I.fresh⟩
theorem PM(ha:PD X a ga)(hb:PD X b gb):PF X (.BinOp a .Add b pos) (xW ga gb):=by
 refine⟨λpins s σ H F Γ I fo rl hg=>?_⟩
 refine Sv (aC (ha.run pins s σ H F Γ I fo rl (R.left hg)) (λv s1 ⟨dx,x,H1,e1,I1,r1,S1,i1⟩=>?_) λ_ _ x=>x.bind _)
 have aW:=R.next hg e1
 refine aC (hb.run pins s1 σ H1 F Γ I1 (fo.same S1) (rl.same S1) (R.left aW)) (λu s2 ⟨dy,y,H2,e2,I2,r2,S2,i2⟩=>?_) λ_ _ x=>bV.later e1 S1 (x.bind _)
 have fR:=R.next aW e2
 have we:=i1.same S2
 have key:∀xs ys,dx = .lst xs->dy = .lst ys->∃zx zy,x = .ref zx/\y = .ref zy/\∃vx vy,bM X.K H2 zx vx/\bM X.K H2 zy vy/\aA X.K H2 xs vx/\aA X.K H2 ys vy:=λxs ys q1 q2=>by
  subst q1 q2
  obtain⟨zx,vx,rfl,a1,a2⟩:=Is.fA.mp we
  obtain⟨zy,vy,rfl,b1,b2⟩:=Is.fA.mp i2
  exact⟨zx,zy,rfl,rfl,vx,vy,a1,b1,a2,b2⟩
 have both:∃xs ys,dx = .lst xs/\dy = .lst ys:=by
  cases dx with
  | lst xs =>
    cases dy with
    | lst ys=>exact⟨xs,ys,rfl,rfl⟩
    | _=>exact absurd rfl fR
  | _=>cases dy<;>exact absurd rfl fR
 obtain⟨xs,ys,rfl,rfl⟩:=both
 obtain⟨zx,zy,rfl,rfl,vx,vy,a1,b1,a2,b2⟩:=key xs ys rfl rfl
 obtain⟨⟨hc,hn⟩,e3⟩:=R.dF (show R.guard (xs.length+ys.length<=1000/\D.bI (xs++ys)=true) (.ok (xs++ys)) ≠ .no from fR)
 have hz:vx.length+vy.length<=ck:=by rw[<-a2.length,<-b2.length];exact tR hc
 refine aC (w3f (X:=X.bG) pins s2 σ H2 (.ref zx) (.ref zy) _ _ (λz H'=>∃l,z = .ref l/\H2 l=none/\H'=upd H2 l (.lst (vx++vy))) (I2.cZ _) r1 r2 ⟨zx,zy,vx,vy,rfl,rfl,a1,b1,hz,λl hl=>⟨l,rfl,hl,rfl⟩⟩) (λu s' ⟨z,H',I',rz,l,ez,hl,eH⟩=>?_) λ_ _ z=>cT z
 subst ez eH
 have S3:=jD hl (.lst (vx++vy))
 exact⟨xs++ys,l,vx++vy,_,(R.step e1 _).trans ((R.step e2 _).trans e3),I'.dr,rz,(S1.trans S2).trans S3,S1.free (S2.free hl),dI,aA.aV ((((fo.same S1).same S2).same S3).cons dI) _ _ hn ((a2.append b2).same S3)⟩
end
section
variable {X:Cx}{e a b c:Expr}{g ga gb gc:G->R D}{lo:Option Expr}{gl:G->R (Option Int)}{pos p2 p3:Pos}
end
section
variable {X:Cx}
theorem w3i:gE X (iS .Mult) y9x:=B6 (C:=x_) (d:=λi j=>.int (i*j)) (λ_ _ _ _=>Is.bO.mpr rfl) (v:=λi j=>.int (i*j)) (xG λ_ _ _ _ _ _ _ hc q=>mul_int q (by
 have key:∀{k:Int},k.natAbs<x8->Kr k<=4000:=λ{k} h=>PyProof.Rows.intBits_le (cI h (by unfold x8;decide +kernel))
 exact PyProof.Rows.mulOk_of_bits (key hc.1) (key hc.2) (by decide)))
theorem w6z:oH X (.type "int") dInt:=by
 refine⟨_,Uk (X:=X.bG),λH xs ds i hg=>?_⟩
 unfold dInt at hg
 split at hg
 ·rename_i k
  obtain⟨v,rfl,h⟩:=oI i
  exact .inl ⟨k,by rw[Is.bO.mp h],_,rfl,.refl _,Is.bO.mpr rfl⟩
 ·rename_i k
  obtain⟨v,rfl,h⟩:=oI i
  exact .inr ⟨k,by rw[Is.gy.mp h],_,rfl,.refl _,Is.bO.mpr rfl⟩
 ·exact absurd rfl hg
end
section
variable {X:Cx}{e a b c:Expr}{g ga gb gc:G->R D}{lo:Option Expr}{st:Expr}{gl gt:G->R (Option Int)}{pos p2 p3:Pos}
end
theorem Is.isNon{K:aD}{H:Hp}{d:D}{v:V}(h:Is K H d v):decide (v = .b_)=d.isNon:=by
 cases d with
 | b_=>rw[Is.B4.mp h];rfl
 | bl b=>rw[Is.gy.mp h];rfl
 | int b=>rw[Is.bO.mp h];rfl
 | str b=>unfold Is at h;rw[h];rfl
 | tup ds=>obtain⟨a,xs,rfl,_⟩:=Is.eZ.mp h;rfl
 | lst ds=>obtain⟨a,xs,rfl,_⟩:=Is.fA.mp h;rfl
 | jR=>unfold Is at h;obtain⟨a,ob,rfl,_⟩:=h;rfl
 | exc c=>unfold Is at h;obtain⟨a,ob,C,rfl,_⟩:=h;rfl
section
variable {X:Cx}{a b:Expr}{pos:Pos}
end
section
variable {X:Cx}{e a b c:Expr}{g ga gb gc:G->R D}{pos pos' p p2:Pos}{es:List Expr}{gs:G->R (List D)}
theorem x9u{a b:Int}(ha:0<=a)(hb:0<=b)(h:b≥((Kr a:Nat):Int)):a/2^b.toNat=0:=by
 obtain⟨n,rfl⟩:=qF ha
 obtain⟨k,rfl⟩:=qF hb
 have hk:n<2^k:=by
  unfold Kr at h
  by_cases hn:n=0
  ·subst hn;exact R5 k
  ·rw[a5m,if_neg (by simpa using hn)] at h
   exact(Nat.log2_lt hn).mp (by lia)
 rw[mq]
 exact a6x (R9 n) (by exact_mod_cast hk)
theorem w5t:gE X (iS .RShift) ED:=B6 (C:=λi j=>0<=i/\0<=j) (d:=λi j=>.int (i/2^j.toNat)) (λ_ _ _ _=>Is.bO.mpr rfl) (v:=λi j=>.int (i/2^j.toNat)) (xG λi j _ _ _ _ _ hc q=>by
 have h1:(0:Int)<=i:=hc.1
 have h2:(0:Int)<=j:=hc.2
 by_cases hb:j≥((Kr i:Nat):Int)
 ·refine AutoIntOps.rshift_1 (by lia) hb ?_
  rw[if_neg (by lia),<-x9u h1 h2 hb]
  exact q
 ·refine AutoIntOps.rshift_2 (by lia) hb ?_
  rw[a4r i (Sk (Int.pow_pos (by lia)))]
  exact q)
theorem w3b{apos d_:Pos}(ha:PD X a ga)
 (uh:Kn a "bit_length" X.env (eval a X.env)=eval a X.env:=by rfl)
 (ui:((cK d_ (bA [] X.env)).all (λx=>!x.1)&&(qH d_ (qI [] X.env)).all (λx=>x.1.isSome)
   && decide (([]:List Expr).length+([]:List qz).length+(if ([]:List qz).isEmpty then 0 else 1)<30))=true:=by rfl)
 (uj:(apos.endLine==d_.line)=true:=by rfl) (hs:bA [] X.env=[]:=by rfl) :
 PD X (.Call (.Attribute a "bit_length" apos) [] [] d_) (y9t ga):=by
 refine⟨λpins s σ H F Γ I fo rl hg=>?_⟩
 refine Ko uh ui uj rfl (aC (ha.run pins s σ H F Γ I fo rl (R.left hg)) (λv s1 ⟨d,x,H1,e1,I1,r1,S1,i1⟩=>?_) λ_ _ x=>x.bind _)
 have aW:=R.next hg e1
 cases d with
 | int i =>
   rw[Is.bO.mp i1] at r1
   obtain⟨t,rfl⟩:=r1
   refine⟨"int",_,PySem.F.plainAttrs_int,slot_int_bit_length,type_int_bit_length,typeIs_int _ _ _,(λ_ e=>nomatch e),?_⟩
   rw[hs]
   refine Kp rfl ?_
   show ax _ _ (evalArgs (Value.builtin "int.bit_length") true [] []) _ _ s1
   refine PyProof.Rows.evalArgs_nil3 ?_
   exact call_int_bit_length (dj.bind e1 S1 ⟨.int (ya i),.int (ya i),H1,rfl,I1.tok _,⟨_,rfl⟩,.refl _,Is.bO.mpr rfl⟩)
 | _=>exact absurd rfl aW
end
section
variable {X:Cx}{e a b c:Expr}{g ga gb gc:G->R D}{pos pos' p p2:Pos}{es:List Expr}{gs:G->R (List D)}
structure Cv (X:Cx) (es:List Expr) (g:G->R (List D)):Prop where
 run:∀(pos:Pos) (pins:List (Addr×Obj)) (s:ai) (σ:St) (H:Hp) (F:List Addr) (Γ:G),Inv X pins σ H s->bZ H F->Rel X.K H F Γ σ->g Γ ≠ .no ->
  ax (aF X.prog X.w) X.A (gf (cK pos (bA es X.env))) (λus s'=>∃ds vs H',g Γ = .ok ds/\Inv X pins σ H' s'/\Vals vs us/\aT H H'/\aA X.K (aV F H') ds vs) (bV X pins σ H (g Γ)) s
theorem zw:Cv X [] az:=⟨λpos pins s σ H F Γ I fo rl hg=>ke ⟨[],[],H,rfl,I,.nil,.refl _,aA.nil⟩⟩
theorem gI(ha:iL X e g)(hr:Cv X es gs)(hs:bA (e::es) X.env=(false,eval e X.env)::bA es X.env:=by rfl):Cv X (e::es) (ae g gs):=by
 refine⟨λpos pins s σ H F Γ I fo rl hg=>?_⟩
 rw[hs]
 show ax _ _ (gf ((false,eval e X.env)::cK pos (bA es X.env))) _ _ s
 refine iA (aC (ha.run pins s σ H F Γ I fo rl (R.left hg)) (λu s1 ⟨d,x,H1,e1,I1,r1,S1,i1⟩=>?_) λ_ _ x=>x.bind _)
 have aW:=R.next hg e1
 refine aC (hr.run pos pins s1 σ H1 F Γ I1 (fo.same S1) (rl.same S1) (R.left aW)) (λus s2 ⟨ds,vs,H2,e2,I2,r2,S2,i2⟩=>?_) λ_ _ x=>bV.later e1 S1 (x.bind _)
 exact⟨d::ds,x::vs,H2,(R.step e1 _).trans (R.step e2 _),I2,.cons r1 r2,S1.trans S2,aA.cons (i1.same (jC S2)) i2⟩
end
def Hf(N:List Str)(env:Env)(x0 y:Str)(scope:da):Bool :=
 decide (scope.kind = .function)&&scope.names.all (λp=>decide (p.2 ≠ .cell)&&(decide (p.2 ≠ .local)||decide (scope.names.lookup p.1=some .local))&&(decide (p.2 ≠ .free)||((env.cells.lookup p.1).isSome&&(decide (env.scope.names.lookup p.1=some .cell)||decide (env.scope.names.lookup p.1=some .free)))))
  && decide (scope.names.lookup x0=some .local/\scope.names.lookup y=some .local/\x0≠y/\(x0 ∉ N∨y ∉ N))&&decide (scope.names.lookup (("":Str))=none)&&N.all (λz=>decide (scope.names.lookup z≠some .local)||decide (z=x0∨z=y))&&decide ((∀z∈N,z≠("":Str))∨(x0 ∉ N/\y ∉ N))
structure Cw (N:List Str) (env:Env) (x0 y:Str) (scope:da):Prop where
 kind:scope.kind = .function
 rP:∀p∈scope.names,p.2 ≠ .cell
 names:∀p∈scope.names,p.2 = .local->scope.names.lookup p.1=some .local
 free:∀p∈scope.names,p.2 = .free->(∃c,env.cells.lookup p.1=some c)/\(env.scope.names.lookup p.1=some .cell∨env.scope.names.lookup p.1=some .free)
 loc:scope.names.lookup x0=some .local/\scope.names.lookup y=some .local/\x0≠y/\(x0 ∉ N∨y ∉ N)
 nil:scope.names.lookup (("":Str))=none
 only:∀z∈N,scope.names.lookup z=some .local->z=x0∨z=y
 none:(∀z∈N,z≠("":Str))∨(x0 ∉ N/\y ∉ N)
theorem x3f{N:List Str}{env:Env}{x0 y:Str}{scope:da}(h:Hf N env x0 y scope=true):Cw N env x0 y scope:=by
 unfold Hf at h
 simp only[jf,qD,Kk,decide_eq_true_eq] at h
 obtain⟨⟨⟨⟨⟨h1,h2⟩,h3⟩,h4⟩,h5⟩,h6⟩:=h
 refine⟨h1,λp hp=>(h2 p hp).1.1,λp hp e=>((h2 p hp).1.2).resolve_left λz=>z e,λp hp e=>?_,h3,h4,λz hz e=>(h5 z hz).resolve_left λq=>q e,h6⟩
 have q:=((h2 p hp).2).resolve_left λz=>z e
 exact⟨Option.isSome_iff_exists.mp q.1,q.2⟩
def fJ(X:Cx)(x0 y:Str)(scope:da)(C:Addr)(aB:ai)(aI:Hp)(fp:List Addr)(pn:List (Addr×Obj)):Cx :=
 { X with N:=x0::y::X.N.map (λz=>if z=x0∨z=y then ("":Str) else z),s₀:=aB,H₀:=aI,env:=iB scope (cL X.env scope.names []) C X.env,outer:=X.stack,ex:=fp,fn:=λ_=>false,pn:=pn,xe:=λ_ _=>False }
theorem x3h{X:Cx}{x0 y:Str}{scope:da}{C Dd:Addr}{fp:List Addr}{pins pl:List (Addr×Obj)}{σ aQ:St}{aI H':Hp}{aB s1:ai}{xs:List V}{its:List Value}{n:Nat}(I:Inv X pins σ aI aB)
 (J:Inv (fJ X x0 y scope C aB aI fp (X.pn++pins)) pl aQ H' s1) (hD:aB.heap.objs.size<=Dd) (hn:H' Dd=none) (hd:s1.heap.get? Dd=some { cls:=.type "list",data:=.seq its.toArray n }) (rv:Vals xs its) (hz:xs.length<=ck) (hf:∀b∈fp,fL X pins aI b) :
 Inv X pins σ (upd H' Dd (.lst xs)) s1:=by
 have os:s1.os=aB.os:=J.os
 have un:Un (cW X.stack) fp aI H' aB.heap s1.heap:=J.base
 have aS:dq X.prog X.w H' s1.heap:=J.aS
 have bare:nD s1.gens:=J.bare
 clear J
 obtain⟨hh,gg,dd,tt,kL⟩:=s1
 obtain rfl:kL=aB.os:=os
 have GI:∀b o,aB.heap.get? b=some o->b≠Dd:=λb o e=>cN (cI (bE e) hD)
 refine I.call (h':=hh) (g':=gg) (d':=dd) (t':=tt) (ch:=fp) ⟨un.keep,un.slot,λb o e n' hx=>?_,un.there,λb ys e=>?_,λb o u e=>?_,λb ps e=>?_⟩ (Pm aS hn ⟨hz,its,n,rv,hd⟩) bare λb hb=>?_
 ·rw[bS (GI b o e)];exact un.free b o e n' hx
 ·have q:=un.jO b ys e
  rw[bS (g_ q hn)];exact q
 ·have q:=un.ji b o u e
  rw[bS (g_ q hn)];exact q
 ·obtain⟨more,q⟩:=un.jP b ps e
  exact⟨more,by rw[bS (g_ q hn)];exact q⟩
 ·obtain⟨f0,f1,f2,f3,f4,f5⟩:=hf b hb
  exact⟨f3.imp_right λz=>Ad z,f1,f4,f5⟩
theorem w0f{X:Cx}{x0 y:Str}{scope:da}{C:Addr}{fp:List Addr}{pins:List (Addr×Obj)}{σ:St}{aI:Hp}{aB:ai}(I:Inv X pins σ aI aB)(c:Cw X.N X.env x0 y scope)(hC:aB.heap.objs.size<=C)(hf:∀b∈fp,fL X pins aI b)(ho:∀b∈fp,b<aB.heap.objs.size) :
 (fJ X x0 y scope C aB aI fp (X.pn++pins)).Ok:=by
 have cells:∀x k,(cL X.env scope.names []).lookup x=some k->X.env.cells.lookup x=some k:=λx k e=>by
  rcases m7 scope.names [] (jI e) with q | q
  ·simp at q
  ·exact q
 refine⟨I.ok.mod,c.kind,I.ok.glob,I.ok.blt,hC,λx z k h1 h2=>I.ok.inj x z k (cells x k h1) (cells z k h2),λx hx=>?_,λx k h _=>absurd h (by simp[fJ]),I.ok.hd,I.ok.frames,.inl rfl,λb hb=>?_,I.bs,fB I.ok.kI I.sz,λb o e hb=>?_,λb hb z=>?_,I.stack,I.AQ⟩
 ·have qZ:(lA scope X.env).names.lookup x=some .cell∨(lA scope X.env).names.lookup x=some .free:=hx
  have hm:∃k,(x,k)∈scope.names/\(k = .free∨k = .cell):=by
   rcases qZ with q | q <;>
   ·have m:=jI q
    unfold lA at m
    simp only[uO] at m
    obtain⟨⟨n,k⟩,hm,e⟩:=m
    by_cases hc:(k==qG&&X.env.scope.kind == .function&&X.env.kindOf n==some .cell)=true
    ·rw[if_pos hc] at e
     have e1:n=x:=congrArg uV e
     subst e1
     rw[jf,jf] at hc
     exact⟨k,hm,.inl (Cb hc.1.1)⟩
    ·rw[if_neg hc] at e
     have e1:n=x:=congrArg uV e
     have e2:=congrArg Ax e
     dsimp only at e2
     subst e1 e2
     exact⟨_,hm,by first | exact .inr rfl | exact .inl rfl⟩
  obtain⟨k,hm,hk⟩:=hm
  rcases hk with rfl | rfl
  ·obtain⟨⟨a,ea⟩,_⟩:=c.free _ hm rfl
   obtain⟨c',h1,_⟩:=t5 (t4 ea scope.names [] hm)
   exact⟨c',h1⟩
  ·exact absurd rfl (c.rP _ hm)
 ·refine⟨cN (cI (ho b hb) hC),λx k e=>(hf b hb).2.2.2.2.1 x k (cells x k e)⟩
 ·rcases(hf b hb).2.2.2.1 with z | z
  ·exact I.ok.u9 b o e z
  ·exact absurd (cI (cI (bE e) I.ok.kI) z) (jb _)
 ·rcases List.mem_cons.mp (I.nX b z) with q | q
  ·exact(hf b hb).2.1 q
  ·exact(hf b hb).2.2.1 q
section
variable {X:Cx}{x0 y:Str}{scope:da}
theorem x0c{C Dd:Addr}{fp:List Addr}{pins:List (Addr×Obj)}{σ:St}{aI:Hp}{aB:ai}{eG:Heap}{tk:Nat}{oD:Obj}{m:Str->Option Value}(I:Inv X pins σ aI aB)(c:Cw X.N X.env x0 y scope)(hC:aB.heap.objs.size<=C)(hD:aB.heap.objs.size<=Dd)(gG:Dd≠C)(hf:∀b∈fp,fL X pins aI b)(ho:∀b∈fp,b<aB.heap.objs.size)
 (old:∀b o,aB.heap.get? b=some o->eG.get? b=some o) (vg:eG.Ns C m) (hd:eG.get? Dd=some oD) (GJ:∀v,oD.data ≠ .cell v) :
 Inv (fJ X x0 y scope C aB aI fp (X.pn++pins)) [(Dd,oD)] (none::none::σ) aI { aB with heap:=eG,toks:=tk }:=by
 have cells:∀x k,(cL X.env scope.names []).lookup x=some k->X.env.cells.lookup x=some k:=λx k e=>by
  rcases m7 scope.names [] (jI e) with q | q
  ·simp at q
  ·exact q
 have GK:∀b,aB.heap.objs.size<=b->b ∉ cW X.stack:=λb hb z=>by
  rcases List.mem_cons.mp (I.nX b z) with q | q
  ·exact absurd (cI I.lt (by rw[<-q];exact hb)) (jb _)
  ·exact I.DS hb q
 refine⟨w0f I c hC hf ho,rfl,I.bare,Un.kept old,⟨m,vg,λi x v e1 e2 e3=>?_⟩,λx k e=>?_,I.aS.fresh hC,λx k e=>I.mE x k (cells x k e),λp hp=>?_,I.aS.kept old,?_⟩
 ·cases i with
  | zero=>simp at e2
  | succ i =>
  cases i with
  | zero=>simp at e2
  | succ i =>
    have GL:σ[i]? = some (some v):=by simpa using e2
    have ik:(X.N.map (λz=>if z=x0∨z=y then ("":Str) else z))[i]? = some x:=by simpa [fJ] using e1
    rw[cm] at ik
    cases hz:X.N[i]? with
    | none=>rw[hz] at ik;cases ik
    | some z =>
      rw[hz] at ik
      simp only[xh,sE] at ik
      have t6:nV (lA scope X.env) x:=e3
      have m8:∀{k:nJ},(lA scope X.env).names.lookup x=some k->∃k',(x,k')∈scope.names/\(k'=k∨(k' = .free/\k = .cell)):=λ{k} q=>by
       have m':=jI q
       unfold lA at m'
       simp only[uO] at m'
       obtain⟨⟨n,k0⟩,hm,e⟩:=m'
       by_cases hc:(k0==qG&&X.env.scope.kind == .function&&X.env.kindOf n==some .cell)=true
       ·rw[if_pos hc] at e
        have e1:n=x:=congrArg uV e
        have e2:=congrArg Ax e
        dsimp only at e2
        subst e1 e2
        rw[jf,jf] at hc
        exact⟨k0,hm,.inr ⟨Cb hc.1.1,rfl⟩⟩
       ·rw[if_neg hc] at e
        have e1:n=x:=congrArg uV e
        have e2:=congrArg Ax e
        dsimp only at e2
        subst e1 e2
        exact⟨_,hm,.inl rfl⟩
      have GN:∀k',(x,k')∈scope.names->x≠("":Str):=λk' hm z=>by
       subst z
       obtain⟨c',h1,_⟩:=t5 hm
       rw[c.nil] at h1;cases h1
      have ne:x≠("":Str):=by
       rcases t6 with q | q | q<;>(obtain⟨k',hm,_⟩:=m8 q;exact GN k' hm)
      by_cases pS:z=x0∨z=y
      ·rw[if_pos pS] at ik;exact absurd ik.symm ne
      ·rw[if_neg pS] at ik
       subst ik
       have fr:(z,qG)∈scope.names:=by
        rcases t6 with q | q | q
        ·obtain⟨k',hm,hk⟩:=m8 q
         rcases hk with rfl | ⟨_,hk⟩
         ·exact absurd (c.only z (fV hz) (c.names _ hm rfl)) pS
         ·cases hk
        ·obtain⟨k',hm,hk⟩:=m8 q
         rcases hk with rfl | ⟨rfl,_⟩
         ·exact absurd rfl (c.rP _ hm)
         ·exact hm
        ·obtain⟨k',hm,hk⟩:=m8 q
         rcases hk with rfl | ⟨_,hk⟩
         ·exact hm
         ·cases hk
       obtain⟨⟨ca,ZF⟩,hv⟩:=c.free _ fr rfl
       obtain⟨m0,B1,GO⟩:=I.loc
       obtain⟨u,ru,lk⟩:=GO i z v hz GL (.inr hv)
       refine⟨u,ru,?_⟩
       rcases lk with ⟨q,_⟩ | ⟨_,k,ek,hk⟩
       ·exfalso
        have q':X.env.scope.names.lookup z=some .local:=q
        rcases hv with w | w<;>(rw[q'] at w;cases w)
       ·obtain⟨c',h1,_⟩:=t5 (t4 ek scope.names [] fr)
        have h2:=cells z c' h1
        rw[ek] at h2;cases h2
        refine .inr ⟨?_,k,h1,?_⟩
        ·rcases t6 with q | q | q
         ·exfalso
          obtain⟨k',hm,b9⟩:=m8 q
          rcases b9 with rfl | ⟨_,b9⟩
          ·exact pS (c.only z (fV hz) (c.names _ hm rfl))
          ·cases b9
         ·exact .inl q
         ·exact .inr q
        ·obtain⟨o,dR,iX⟩:=hk
         exact⟨o,old _ _ dR,iX⟩
 ·obtain⟨v,o,dR,iX⟩:=I.cell x k (cells x k e)
  exact⟨v,o,old _ _ dR,iX⟩
 ·rcases List.mem_append.mp hp with q | q
  ·obtain⟨h1,h2,h3,h4,h5⟩:=I.pin p q
   refine⟨old _ _ h1,h2,cN (cI (bE h1) hC),λz=>?_,h5⟩
   rcases List.mem_cons.mp (I.nX p.1 z) with q' | q'
   ·exact h3 q'
   ·exact h4 q'
  ·have e:p=(Dd,oD):=by simpa using q
   subst e
   exact⟨hd,I.aS.fresh hD,gG,GK Dd hD,GJ⟩
 ·show σ.length+1+1=(x0::y::X.N.map _).length
  rw[de,de,bu,I.len]
structure Hg (X:Cx) (x0 y:Str) (scope:da) (ifs:List Expr) (elt:Expr) (f:D->D->G->R (Option D)):Prop where
 run:∀(C:Addr) (aB:ai) (aI:Hp) (fp:List Addr) (pn:List (Addr×Obj)) (pins:List (Addr×Obj)) (s:ai) (σ:St) (H:Hp) (F:List Addr) (Γ:G) (d d2:D),Inv (fJ X x0 y scope C aB aI fp pn) pins σ H s->bZ H F->Rel X.K H F (.ro d :: .ro d2::Γ) σ->(∃o,f d d2 Γ = .ok o) ->
  ax (aF X.prog X.w) X.A (forIn ifs true λc r=>if r=true then do let ok <-oP c (iB scope (cL X.env scope.names []) C X.env) (eval c (iB scope (cL X.env scope.names []) C X.env));pure (nQ ok) else pure (nQ r)) (λok iM =>
   if ok=true then ax (aF X.prog X.w) X.A (eval elt (iB scope (cL X.env scope.names []) C X.env)) (λu gH=>∃e v H',f d d2 Γ = .ok (some e)/\Inv (fJ X x0 y scope C aB aI fp pn) pins σ H' gH/\RelV v u/\aT H H'/\Is X.K (aV F H') e v) (λ_ _=>False) iM
   else f d d2 Γ = .ok none/\∃H',Inv (fJ X x0 y scope C aB aI fp pn) pins σ H' iM/\aT H H') (λ_ _=>False) s
theorem x8y{elt c:Expr}{gc:G->R Bool}{ge:G->R D}(hc:∀C aB aI fp pn,kx (fJ X x0 y scope C aB aI fp pn) c gc)(he:∀C aB aI fp pn,iL (fJ X x0 y scope C aB aI fp pn) elt ge):Hg X x0 y scope [c] elt (vq gc ge):=by
 refine⟨λC aB aI fp pn pins s σ H F Γ d d2 I fo rl ⟨o,eo⟩=>?_⟩
 have a8:gc (.ro d :: .ro d2::Γ) ≠ .no:=λz=>by unfold vq at eo;rw[z] at eo;cases eo
 refine a6l (aC ((hc C aB aI fp pn).run pins s σ H F (.ro d :: .ro d2::Γ) I fo rl a8) (λk s3 ⟨H1,e1,I1,S1⟩=>?_) λx s' ⟨c',H',e1,_⟩=>?_)
 ·have m9:(if k=true then ge (.ro d :: .ro d2::Γ)>>=λe=>R.ok (some e) else .ok none) = .ok o:=by
   unfold vq at eo;rw[e1] at eo;exact eo
  cases k with
  | false =>
    rw[if_neg qw]
    exact⟨R.step e1 _,H1,I1,S1⟩
  | true =>
    rw[if_pos rfl] at m9 ⊢
    have GP:ge (.ro d :: .ro d2::Γ) ≠ .no:=λz=>by rw[z] at m9;cases m9
    refine aC ((he C aB aI fp pn).run pins s3 σ H1 F (.ro d :: .ro d2::Γ) I1 (fo.same S1) (rl.same S1) GP) (λu s4 ⟨e,v,H',e2,I',rv,S,iv⟩=>⟨e,v,H',(R.step e1 _).trans (R.step e2 _),I',rv,S1.trans S,iv⟩) λx s' ⟨c',H',e2,_⟩=>?_
    rw[e2] at m9;cases m9
 ·unfold vq at eo;rw[e1] at eo;cases eo
def Cy(K:aD)(H:Hp)(F:List Addr)(J:It)(ds:List D):Prop:=∀H1,aT H H1 ->
 (∀i:Nat,i<ds.length->J.go i H1/\∀v H2,J.xE i H1 v H2->aT H1 H2/\∃d1 d2 q v1 v2,ds[i]? = some (.tup [d1,d2])/\v = .ref q/\b6 K H2 q [v1,v2]/\Is K (aV F H2) d1 v1/\Is K (aV F H2) d2 v2)/\J.stop ds.length H1
theorem x8z{prog:aY}{w:aO}{A:Around}{Z:Ah->ai->Prop}{s0:ai}{elt iter:Expr}{es ifs:List Expr}{kt}{pt pos:Pos}{scope:da}{it acc:Value}{env:Env}(K:Nat->ai->Prop)
 (one:∀n s,K n s->ax (aF prog w) A (iR it) (λr s1=>match r with
   | some v=>ax (aF prog w) A (JE (.Tuple es kt pt) it v) (λ_ s2=>ax (aF prog w) A (qt (.Tuple es kt pt) env v) (λ_ s3 =>
      ax (aF prog w) A (forIn ifs true λc r=>if r=true then do let ok <-oP c env (eval c env);pure (nQ ok) else pure (nQ r)) (λok s4 =>
       if ok=true then ax (aF prog w) A (eval elt env) (λx s5 =>
        ax (aF prog w) A (call (.builtin "list.append") [acc,x]) (λ_ s6=>∃m,m<n/\K m s6) (AE (aF prog w) A env λe s'=>Z (.error e) s') s5) (AE (aF prog w) A env λe s'=>Z (.error e) s') s4
       else ∃m,m<n/\K m s4) (AE (aF prog w) A env λe s'=>Z (.error e) s') s3) (AE (aF prog w) A env λe s'=>Z (.error e) s') s2) (AE (aF prog w) A env λe s'=>Z (.error e) s') s1
   | none=>Z (.ok .next) s1) (AE (aF prog w) A env λe s'=>Z (.error e) s') s)
 (n:Nat) (h0:K n s0):nG (aF prog w) A (.compLoop (.ListComp elt [⟨.Tuple es kt pt,iter,ifs,0⟩] scope pos) 0 it acc env) Z s0:=by
 refine codeAny_loop rfl K (λn s hK=>?_) n h0
 show ax _ A ((compTurn (.ListComp elt [⟨.Tuple es kt pt,iter,ifs,0⟩] scope pos) 0 it acc env).onRaise (λx=>do SM x env;theTreesLotGoes x)) _ _ s
 refine wpAny_noted ?_
 rw[compTurn_list]
 refine ay (Km (ay (aC (one n s hK) (λr s1 q1=>?_) λ_ _ q=>q)))
 cases r with
 | some v =>
   refine ay (aC q1 (λ_ s2 q2=>?_) λ_ _ q=>q)
   refine ay (aC q2 (λ_ s3 q3=>ay (aC q3 (λok s4 q4=>?_) λ_ _ q=>q)) λ_ _ q=>q)
   cases ok with
   | true=>exact ay (ay (aC q4 (λx s5 q5=>ay (aC q5 (λ_ s6 q6=>aM (aM ⟨rfl,q6⟩)) λ_ _ q=>q)) λ_ _ q=>q))
   | false=>exact aM ⟨rfl,q4⟩
 | none=>exact aM q1
theorem x3i{elt iter:Expr}{p0 px pt pos:Pos}{kt}{ifs:List Expr}{f:D->D->G->R (Option D)}{pins:List (Addr×Obj)}{σ:St}{aI:Hp}{aB:ai}{F:List Addr}{Γ:G}{items:List D}{it:Addr}{fp:List Addr}{tn:Nat->Heap->Prop}{J:It}{E:Value->ai->Prop}{total:List D}
 (hp:Hg X x0 y scope ifs elt f) (c:Cw X.N X.env x0 y scope) (hN:X.N.Nodup) (eI:X.calm=true) (I:Inv X pins σ aI aB) (fo:bZ aI F) (rl:Rel X.K aI F Γ σ) (T:Turn X.prog X.w X.K (.Tuple [.Name x0 p0,.Name y px] kt pt) J fp it tn) (t0:tn 0 aB.heap) (hf:∀b∈fp,fL X pins aI b) (hj:Cy X.K aI F J items)
 (ht:cD (y0y f Γ) items [] = .ok total) (hl:items.length<=100000) {RR:Value->Addr->Ah->ai->Prop}
 (hR:∀(Dd C:Addr) (xs:List V) (H':Hp) (m:Str->Option Value) (s':ai),aB.heap.objs.size<=C->Dd≠C->aI Dd=none->H' Dd=none->H' C=none->aB.heap.objs.size<=Dd->aT aI H'->aA X.K (aV F H') total xs->Inv X pins σ (upd H' Dd (.lst xs)) s'->s'.heap.Ns C m->RR (.ref Dd) C (.ok .next) s') :
 ax (aF X.prog X.w) X.A (Kl []) (λacc iM=>ax (aF X.prog X.w) X.A (a6m scope X.env.globals (cL X.env scope.names []) [] X.env.qual none .none (some X.env)) (λyY gH =>
  nG (aF X.prog X.w) X.A (.compStart (.ListComp elt [⟨.Tuple [.Name x0 p0,.Name y px] kt pt,iter,ifs,0⟩] scope pos) 0 (.ref it) acc { yY with scope:=lA scope X.env }) (RR acc yY.locals) gH) E iM) E aB:=by
 have ho:∀b∈fp,b<aB.heap.objs.size:=λb hb=>by obtain⟨o,e,_⟩:=T.obj _ _ t0 b hb;exact bE e
 refine oR (a6n c.rP (by intro y hy;simp at hy) (λeG pT m_=>?_) c.kind)
 dsimp only at pT m_ ⊢
 generalize t7:aB.heap.push { cls:=.type "list",dict:=none,data:=.seq ([]:List Value).toArray }=H2 at pT m_ ⊢
 have t9:H2.objs.size=aB.heap.objs.size+1:=by rw[<-t7,iw]
 generalize ZH:H2.objs.size=C at pT m_ t9 ⊢
 generalize yZ:aB.heap.objs.size=Dd at t9 ⊢
 obtain⟨⟨gG,hC,hD⟩,below⟩:=Po t9 yZ
 have old:∀b o,aB.heap.get? b=some o->eG.get? b=some o:=λb o e=>by
  refine m_.extBut b o (below b (bE e)).1 ?_
  exact bP _ (t7 ▸ bP _ e)
 have t_:eG.get? Dd=some { cls:=.type "list",dict:=none,data:=.seq ([]:List Value).toArray }:=by
  refine m_.extBut _ _ gG ?_
  refine bP _ ?_
  rw[<-t7,<-yZ]
  exact dQ _ rfl
 have J0:∀tk,Inv (fJ X x0 y scope C aB aI fp (X.pn++pins)) [(Dd,{ cls:=.type "list",dict:=none,data:=.seq ([]:List Value).toArray })] (none::none::σ) aI { aB with heap:=eG,toks:=tk }:=λtk =>
  x0c I c hC hD gG hf ho old pT t_ (λv z=>nomatch z)
 have t1:tn 0 eG:=T.keep _ _ _ t0 λb hb o e=>old b o e
 have ua:∀{H':Hp} {o:Obj},(∀b∈fp,H' b=none)->∀b∈fp,fL (fJ X x0 y scope C aB aI fp (X.pn++pins)) [(Dd,o)] H' b:=λ{H' o} hn b hb=>by
  obtain⟨f0,f1,f2,f3,f4,f5⟩:=hf b hb
  have lt:=ho b hb
  refine⟨hn b hb,(below b lt).1,λz=>?_,.inl hb,λx k e=>?_,λp cA=>?_⟩
  ·rcases List.mem_cons.mp (I.nX b z) with q | q
   ·exact f1 q
   ·exact f2 q
  ·rcases m7 scope.names [] (jI e) with q | q
   ·simp at q
   ·exact f4 x k q
  ·rcases List.mem_append.mp cA with q | q
   ·exact f5 p q
   ·have e:p=(Dd,o):=by simpa using q
    subst e
    exact gJ (below b lt).2
 have Ci:(fJ X x0 y scope C aB aI fp (X.pn++pins)).N.Nodup:=by
  show(x0::y::X.N.map (λz=>if z=x0∨z=y then ("":Str) else z)).Nodup
  have ne0:∀q:Str,scope.names.lookup q=some .local->q ∉ X.N.map (λz=>if z=x0∨z=y then ("":Str) else z)∨True:=λ_ _=>.inr trivial
  have out:∀q:Str,scope.names.lookup q=some .local->(q=x0∨q=y)->q ∉ X.N.map (λz=>if z=x0∨z=y then ("":Str) else z):=λq hq hqq z=>by
   obtain⟨z',hz,e⟩:=List.mem_map.mp z
   by_cases w':z'=x0∨z'=y
   ·rw[if_pos w'] at e
    subst e
    rw[c.nil] at hq;cases hq
   ·rw[if_neg w'] at e
    subst e
    exact w' hqq
  refine List.nodup_cons.mpr ⟨λz=>?_,List.nodup_cons.mpr ⟨out y c.loc.2.1 (.inr rfl),?_⟩⟩
  ·rcases List.mem_cons.mp z with e | e
   ·exact c.loc.2.2.1 e
   ·exact out x0 c.loc.1 (.inl rfl) e
  ·have inj:∀a∈X.N,∀b∈X.N,(if a=x0∨a=y then ("":Str) else a)=(if b=x0∨b=y then ("":Str) else b)->a=b∨((a=x0∨a=y)/\(b=x0∨b=y)):=λa ha b hb e=>by
    by_cases qa:a=x0∨a=y
    ·by_cases qb:b=x0∨b=y
     ·exact .inr ⟨qa,qb⟩
     ·rw[if_pos qa,if_neg qb] at e;exact absurd e.symm ((c.none.resolve_right λz=>qa.elim (λe=>z.1 (e ▸ ha)) λe=>z.2 (e ▸ ha)) b hb)
    ·by_cases qb:b=x0∨b=y
     ·rw[if_neg qa,if_pos qb] at e;exact absurd e ((c.none.resolve_right λz=>qb.elim (λe=>z.1 (e ▸ hb)) λe=>z.2 (e ▸ hb)) a ha)
     ·rw[if_neg qa,if_neg qb] at e;exact .inl e
   have gen:∀l:List Str,(∀a∈l,a∈X.N)->l.Nodup->(l.map (λz=>if z=x0∨z=y then ("":Str) else z)).Nodup:=by
    intro l
    induction l with
    | nil=>intro _ _;exact a6o
    | cons a l ih =>
      intro hs nd
      obtain⟨n1,n2⟩:=List.nodup_cons.mp nd
      rw[cJ]
      refine List.nodup_cons.mpr ⟨λz=>?_,ih (λb hb=>hs b (bL _ hb)) n2⟩
      obtain⟨b,hb,e⟩:=List.mem_map.mp z
      rcases inj b (hs b (bL _ hb)) a (hs a bB) e with q | q
      ·exact n1 (q ▸ hb)
      ·have ha:=hs a bB
       have fY:=hs b (bL _ hb)
       have mX:b≠a:=λz=>n1 (z ▸ hb)
       have both:x0∈X.N/\y∈X.N:=by
        rcases q.1 with rfl | rfl<;>rcases q.2 with rfl | rfl
        ·exact absurd rfl mX
        ·exact⟨fY,ha⟩
        ·exact⟨ha,fY⟩
        ·exact absurd rfl mX
       rcases c.loc.2.2.2 with z | z
       ·exact z both.1
       ·exact z both.2
   exact gen X.N (λ_ h=>h) hN
 let L:Nat->ai->Prop:=λn s'=>∃(i:Nat) (H':Hp) (o o2:Option V) (xs:List V) (its:List Value) (acc:List D) (k:Nat),n=items.length-i/\i<=items.length/\Inv (fJ X x0 y scope C aB aI fp (X.pn++pins)) [(Dd,{ cls:=.type "list",dict:=none,data:=.seq its.toArray k })] (o::o2::σ) H' s' /\
  aT aI H'/\(∀b∈fp,H' b=none)/\tn i s'.heap/\Vals xs its/\acc.length<=i/\aA X.K (aV F H') acc xs/\cD (y0y f Γ) (items.drop i) acc = .ok total
 have loop:∀gH:ai,L items.length gH->nG (aF X.prog X.w) X.A (.compLoop (.ListComp elt [⟨.Tuple [.Name x0 p0,.Name y px] kt pt,iter,ifs,0⟩] scope pos) 0 (.ref it) (.ref Dd) (iB scope (cL X.env scope.names []) C X.env)) (RR (.ref Dd) C) gH:=λgH h4=>by
  refine x8z L (λn s' hL=>aC (E:=λ_ _=>False) ?_ (λ_ _ q=>q) λ_ _ z=>z.elim) items.length h4
  obtain⟨i,H',o,o2,xs,its,acc,k,en,hi,J',S',y7,y8,rv,rM,ia,eg⟩:=hL
  obtain⟨pU,pV⟩:=hj H' S'
  have ZI:=J'.pin (Dd,{ cls:=.type "list",dict:=none,data:=.seq its.toArray k }) (c6 _ (by simp))
  have i6:xs.length<=100000:=by rw[<-ia.length];exact fB rM (fB hi hl)
  have pN:(100000:Nat)<=ck:=by rw[nE];decide
  by_cases a_:i<items.length
  ·obtain⟨go,yl⟩:=pU i a_
   refine eM (T.item (fJ X x0 y scope C aB aI fp (X.pn++pins)) rfl rfl rfl eI i _ s' _ H' (λ_ _=>False) J' (ua y7) y8 go) λr s2 ⟨u,hr,h1⟩=>?_
   subst hr
   refine aC h1 (λ_ s2 ⟨x,H5,J5,r5,y5,ip,pX⟩=>?_) λ_ _ z=>z.elim
   obtain⟨S5,d1,d2,q,v1,v2,ed,rfl,zA,zB,zC⟩:=yl x H5 y5
   have GR:=J5.pinned (ua pX) (T.obj _ _ ip)
   have S6:=S'.trans S5
   have pY:items.drop i = .tup [d1,d2]::items.drop (i+1):=by
    rw[Ay a_]
    have:items[i] = .tup [d1,d2]:=by
     have:=cf a_
     rw[ed] at this;exact(iQ this).symm
    rw[this]
   rw[pY] at eg
   have GS:∃od,f d1 d2 Γ = .ok od/\(match od with | some e=>cD (y0y f Γ) (items.drop (i+1)) (acc++[e]) | none=>cD (y0y f Γ) (items.drop (i+1)) acc) = .ok total:=by
    unfold cD at eg
    have ep:y0y f Γ (.tup [d1,d2])=f d1 d2 Γ:=rfl
    rw[ep] at eg
    cases q:f d1 d2 Γ with
    | no=>rw[q] at eg;cases eg
    | er c'=>rw[q] at eg;cases eg
    | ok od =>
      refine⟨od,rfl,?_⟩
      rw[q] at eg
      cases od with
      | none=>exact eg
      | some e=>exact eg
   obtain⟨od,ub,y9⟩:=GS
   have pZ:PG (fJ X x0 y scope C aB aI fp (X.pn++pins)).bG (.Tuple [.Name x0 p0,.Name y px] kt pt) (L2.cq X.K 2 (L2.ae (nY 0) (L2.ae (nY 1) L2.az))) :=
    DY (X:=(fJ X x0 y scope C aB aI fp (X.pn++pins)).bG) eI (sO (pf (X:=(fJ X x0 y scope C aB aI fp (X.pn++pins)).bG) Ci rfl (.inl (Az c.loc.1)) (.inr (Az c.loc.1))) (sO (pf (X:=(fJ X x0 y scope C aB aI fp (X.pn++pins)).bG) Ci rfl (.inl (Az c.loc.2.1)) (.inr (Az c.loc.2.1))) DX rfl) rfl) rfl rfl
   refine aC (pZ _ s2 (o::o2::σ) H5 (.ref q) u (λaQ H'=>aQ=some v1::some v2::σ/\H'=H5) (GR.cZ _) r5 ⟨q,[v1,v2],rfl,zA,rfl,v1,[v2],rfl,v2,[],rfl,rfl,rfl,rfl⟩) (λ_ s3 ⟨Cj,H6,J6,e6,p4⟩=>?_) λ_ _ z=>z.elim
   subst e6 p4
   have GU:=J6.dr
   have GV:=fo.same S6
   have back:∀{s5:ai} {H7:Hp} {b5:St},Inv (fJ X x0 y scope C aB aI fp (X.pn++pins)) ([(Dd,{ cls:=.type "list",dict:=none,data:=.seq its.toArray k })]++qR fp s2.heap) b5 H7 s5->tn (i+1) s5.heap/\(∀b∈fp,H7 b=none):=λ{s5 H7 b5} J7=>by
    refine⟨T.keep _ _ _ ip λb hb o' e=>(J7.pin (b,o') (c6 _ (c6 _ (n4 hb e)))).1,λb hb=>?_⟩
    obtain⟨o',e,dd⟩:=T.obj _ _ ip b hb
    exact(J7.pin (b,o') (c6 _ (c6 _ (n4 hb e)))).2.1
   refine aC (hp.run C aB aI fp (X.pn++pins) _ s3 _ H6 F Γ d1 d2 GU GV (GQ (GQ (rl.same S6) zC) zB) ⟨od,ub⟩) (λok s4 h4=>?_) λ_ _ z=>z.elim
   cases ok with
   | false =>
     rw[if_neg qw] at h4 ⊢
     obtain⟨ef,H7,J7,S7⟩:=h4
     rw[ub] at ef;cases ef
     obtain⟨uc,ud⟩:=back J7
     exact⟨items.length-(i+1),Cg en a_,i+1,H7,some v1,some v2,xs,its,acc,k,rfl,a_,J7.jk,S6.trans S7,ud,uc,rv,a6p rM,ia.same (jC (S5.trans S7)),y9⟩
   | true =>
     rw[if_pos rfl] at h4 ⊢
     refine aC h4 (λu7 s5 ⟨e,v7,H7,ef,J7,r7,S7,GW⟩=>?_) λ_ _ z=>z.elim
     rw[ub] at ef;cases ef
     obtain⟨uc,ud⟩:=back J7
     have J8:=J7.jk
     have p5:=J8.pin (Dd,{ cls:=.type "list",dict:=none,data:=.seq its.toArray k }) (c6 _ (by simp))
     have hlen:its.length=acc.length:=by rw[<-rv.length,<-ia.length]
     refine a6q (l:=Dd) (items:=its.toArray) (x:=u7) ⟨k,p5.1⟩ (λh' GX tQ=>?_) (by rw[dc,<-rv.length];exact fB i6 pN)
     obtain⟨k',b9⟩:=GX
     have GY:its.toArray.push u7=(its++[u7]).toArray:=by simp
     rw[GY] at b9
     have J9:Inv (fJ X x0 y scope C aB aI fp (X.pn++pins)) [] (some v1::some v2::σ) H7 s5:=J8.u_ λp cA=>by simp at cA
     have GZ:Inv (fJ X x0 y scope C aB aI fp (X.pn++pins)) [] (some v1::some v2::σ) H7 { s5 with heap:=h' }:=J9.turned (t':=s5.toks) (it:=Dd) (λb o' hb e'=>(tQ.2 b hb).trans e') p5.2.1 gG (.inr hD) (λx' y_ e' z=>by
      rcases m7 scope.names [] (jI e') with q | q
      ·simp at q
      ·obtain⟨v',o',dR,_⟩:=I.cell x' y_ q
       exact(below y_ (bE dR)).2 z) (λp cA z=>by
      rcases List.mem_append.mp cA with q | q
      ·obtain⟨za,_⟩:=I.pin p q
       exact(below p.1 (bE za)).2 z
      ·simp at q)
     have G0:Inv (fJ X x0 y scope C aB aI fp (X.pn++pins)) [(Dd,{ cls:=.type "list",dict:=none,data:=.seq (its++[u7]).toArray k' })] (some v1::some v2::σ) H7 { s5 with heap:=h' }:=GZ.u_ λp cA=>by
      have e':p=(Dd,{ cls:=.type "list",dict:=none,data:=.seq (its++[u7]).toArray k' }):=by simpa using cA
      subst e'
      exact⟨b9,p5.2.1,gG,p5.2.2.2.1,λv z=>nomatch z⟩
     refine⟨items.length-(i+1),Cg en a_,i+1,H7,some v1,some v2,xs++[v7],its++[u7],acc++[e],k',rfl,a_,G0,S6.trans S7,ud,T.keep _ _ _ uc λb hb o' e'=>(tQ.2 b (below b (ho b hb)).2).trans e',rv.append (.cons r7 .nil),by rw[fD,xc];exact a6r rM,(ia.same (jC (S5.trans S7))).append (aA.cons GW aA.nil),y9⟩
  ·have rD:i=items.length:=a6s hi (RX a_)
   subst rD
   refine eM (T.done (fJ X x0 y scope C aB aI fp (X.pn++pins)) rfl rfl rfl eI _ _ s' _ H' (λ_ _=>False) J' (ua y7) y8 pV) λr s1 ⟨hr,J1⟩=>?_
   subst hr
   have ue:=J1.pin (Dd,{ cls:=.type "list",dict:=none,data:=.seq its.toArray k }) (c6 _ (by simp))
   rw[Aj] at eg
   have:acc=total:=by unfold cD at eg;cases eg;rfl
   subst this
   obtain⟨mC,p6,_⟩:=J1.loc
   exact hR Dd C xs H' mC s1 hC gG (I.aS.fresh hD) ue.2.1 J1.free hD S' ia (x3h I J1 hD ue.2.1 ue.1 rv (fB i6 pN) hf) p6
 have L0:∀tk,L items.length { aB with heap:=eG,toks:=tk }:=λtk=>⟨0,aI,none,none,[],[],[],_,rfl,iT _,J0 tk,.refl _,λb hb=>(hf b hb).1,t1,.nil,a7 _,aA.nil,by rw[xg];exact ht⟩
 exact a6t (loop _ (L0 _)) (T.self _ 0 _ _ _ t1 (loop _ (L0 _)))
theorem x8w{elt iter:Expr}{p0 px pt pos:Pos}{kt}{ifs:List Expr}{f:D->D->G->R (Option D)}{gi:G->R (List D)}(hi:kA Cy X (.Tuple [.Name x0 p0,.Name y px] kt pt) iter gi)(hp:Hg X x0 y scope ifs elt f)(hN:X.N.Nodup)(eI:X.calm=true)
 (zb:Hf X.N X.env x0 y scope=true:=by rfl) (zc:SE scope X.env=pure (cL X.env scope.names []):=by rfl) (hs:∀x,AA iter X.env x=pure x:=by intro _;rfl) :
 PF X (.ListComp elt [⟨.Tuple [.Name x0 p0,.Name y px] kt pt,iter,ifs,0⟩] scope pos) (y3n gi f):=by
 refine⟨λpins s σ H F Γ I fo rl hg=>?_⟩
 have c:=x3f zb
 rw[eval_ListComp]
 refine SF (use:=none) rfl hs zc c.kind c.names (aC (hi.run pins s σ H F Γ I fo rl (R.left hg)) (λxv cu eG=>aC eG (λkK aB zd=>?_) λ_ _ x=>x.bind _) λ_ _ x=>x.bind _)
 obtain⟨items,it,fp,tn,J,aI,e1,rfl,I2,S2,T,t0,fk,jc⟩:=zd
 have fR:=R.next hg e1
 obtain⟨hl,e2⟩:=R.dF fR
 have a8:cD (y0y f Γ) items [] ≠ .no:=by
  have:=R.next hg e1
  rw[e2] at this;exact this
 obtain⟨total,et⟩:=xY a8
 refine x3i (RR:=λacc C=>SG (aF X.prog X.w) X.A _ none _ acc C) hp c hN eI I2 (fo.same S2) (rl.same S2) T t0 fk jc et hl ?_
 intro Dd C xs H' m s' hC gG hn gm p6 hD S' ia I' ze
 refine⟨m,ze,λni zf=>?_⟩
 have p7:∀{b:Addr} {o:Obj},aB.heap.get? b=some o->b≠C:=λe=>cN (cI (bE e) hC)
 have G1:Inv X pins σ (upd H' Dd (.lst xs)) { s' with heap:=ni }:=I'.turned (t':=s'.toks) (it:=C) (λb o hb e=>zf.extBut b o hb e) (by rw[bS (gJ gG)];exact p6) (mi (cI I2.lt hC)) (.inr (fB I2.sz hC))
  (λx k e=>by obtain⟨v,o,ho,_⟩:=I2.cell x k e;exact p7 ho) (λp cA=>p7 (I2.pin p cA).1)
 have S3:=jD gm (.lst xs)
 refine⟨total,Dd,xs,_,(R.step e1 _).trans (e2.trans et),G1,rfl,(S2.trans S').trans S3,S2.free hn,dI,ia.same λb o hb=>?_⟩
 obtain⟨z1,z2⟩:=kW hb
 have m5:b≠Dd:=g_ z2 gm
 rw[e8 λz=>(List.mem_cons.mp z).elim m5 z1,bS m5]
 exact z2
end
section
variable {prog:aY}{w:aO}{A:Around}{E:Value->ai->Prop}{s:ai}
def zD(b:Bool)(h:Heap)(it l:Addr)(i:Nat):Prop:=if b=true then h.IsListIter it l i else h.IsTupleIter it l i
def Hh(b:Bool)(h:Heap)(l:Addr)(xs:Array Value):Prop:=if b=true then h.IsList l xs else h.IsTuple l xs
theorem zD.mv{b:Bool}{h h':Heap}{it l:Addr}{i:Nat}(st:zD b h it l i)(k:∀o,h.get? it=some o->h'.get? it=some o):zD b h' it l i:=by
 cases b
 ·exact Heap.IsTupleIter.at (h:=h) st k
 ·exact Heap.IsListIter.at (h:=h) st k
theorem Hh.mv{b:Bool}{h h':Heap}{l:Addr}{xs:Array Value}(st:Hh b h l xs)(k:∀o,h.get? l=some o->h'.get? l=some o):Hh b h' l xs:=by
 cases b
 ·obtain⟨o,e,r⟩:=(show h.IsTuple l xs from st);exact⟨o,k o e,r⟩
 ·exact Heap.IsList.at (h:=h) st k
theorem zD.obj{b:Bool}{h:Heap}{it l:Addr}{i:Nat}(st:zD b h it l i):∃o vs,h.get? it=some o/\o.data = .fields vs:=by
 cases b
 ·obtain⟨o,e,c,d⟩:=(show h.IsTupleIter it l i from st);exact⟨o,_,e,d⟩
 ·obtain⟨o,e,c,d⟩:=(show h.IsListIter it l i from st);exact⟨o,_,e,d⟩
end
section
variable {prog:aY}{w:aO}{A:Around}{E:Value->ai->Prop}{s:ai}{b1 b2:Bool}
end
section
variable {prog:aY}{w:aO}{A:Around}{E:Value->ai->Prop}{s:ai}{b1 b2:Bool}
end
section
variable {X:Cx}{pins:List (Addr×Obj)}{σ:St}{H:Hp}{s:ai}{h':Heap}
theorem PN{ch:List Addr}{t':Nat}(I:Inv X pins σ H s)(hf:∀b∈ch,fL X pins H b)(k:∀b o,b ∉ ch->s.heap.get? b=some o->h'.get? b=some o):Inv X pins σ H { s with heap:=h',toks:=t' }:=by
 have qQ:∀b u,H b=some u->b ∉ ch:=λb u e z=>by rw[(hf b z).1] at e;cases e
 have nL:X.env.locals ∉ ch:=λz=>(hf _ z).2.1 rfl
 refine I.step (g':=s.gens) (d':=s.drawn) (ch:=ch) (λb hb=>?_) (λb o _ _ hc e _=>k b o hc e) (λb o _ _ hc e _=>⟨o.slots,k b o hc e⟩) (λ_ _ _ _ n=>n) (λb o hc e=>⟨o,k b o hc e⟩) (λ_ _ e=>e) (λ_ _ _ e=>e) (λb ps e=>⟨#[],by rw[e];simp⟩) (λm hm=>?_) (λb u e=>?_) I.bare
 ·obtain⟨f0,f1,f2,f3,f4,f5⟩:=hf b hb
  exact⟨f3.imp_right λz=>Ad z,f1,f4,f5⟩
 ·obtain⟨o,es,ep,ho,r⟩:=hm
  exact⟨o,es,ep,k _ o nL ho,r⟩
 ·refine(I.aS b u e).mD (λc v hc q=>k c v ?_ q) (λ_ q=>q) λ_ _ q=>q
  rcases hc with z | z
  ·rw[z];exact qQ b u e
  ·exact qQ c _ z
theorem PO{ch:List Addr}{t':Nat}{T:Addr}{xs:List V}{its:List Value}(I:Inv X pins σ H s)(hf:∀b∈ch,fL X pins H b)(k:∀b o,b ∉ ch->s.heap.get? b=some o->h'.get? b=some o)(hT:s.heap.objs.size<=T)(hz:xs.length<=ck)(rv:Vals xs its)(ht:si h' T its.toArray):Inv X pins σ (upd H T (.tup xs)) { s with heap:=h',toks:=t' }:=by
 have qQ:∀b u,H b=some u->b ∉ ch:=λb u e z=>by rw[(hf b z).1] at e;cases e
 have nL:X.env.locals ∉ ch:=λz=>(hf _ z).2.1 rfl
 have hn:H T=none:=I.aS.fresh hT
 have neT:∀b o,s.heap.get? b=some o->b≠T:=λb o e=>cN (cI (bE e) hT)
 have nT:∀b u,H b=some u->b≠T:=λb u e=>g_ e hn
 refine I.step (g':=s.gens) (d':=s.drawn) (ch:=ch) (λb hb=>?_) (λb o _ _ hc e _=>k b o hc e) (λb o _ _ hc e _=>⟨o.slots,k b o hc e⟩) (λb o _ e n=>by rw[bS (neT b o e)];exact n) (λb o hc e=>⟨o,k b o hc e⟩)
  (λb u e=>by rw[bS (nT b _ e)];exact e) (λb o u e=>by rw[bS (nT b _ e)];exact e) (λb ps e=>⟨#[],by rw[bS (nT b _ e),e];simp⟩) (λm hm=>?_) (λb u e=>?_) I.bare
 ·obtain⟨f0,f1,f2,f3,f4,f5⟩:=hf b hb
  exact⟨f3.imp_right λz=>Ad z,f1,f4,f5⟩
 ·obtain⟨o,es,ep,ho,r⟩:=hm
  exact⟨o,es,ep,k _ o nL ho,r⟩
 ·by_cases hb:b=T
  ·subst hb
   rw[dI] at e
   cases e
   exact⟨hz,its,rv,ht⟩
  ·rw[bS hb] at e
   refine(I.aS b u e).mD (λc v hc q=>k c v ?_ q) (λc q=>by rw[bS (nT c _ q)];exact q) λc u' q=>by rw[bS (nT c _ q)];exact q
   rcases hc with z | z
   ·rw[z];exact qQ b u e
   ·exact qQ c _ z
def Sq(b:Bool)(K:aD)(H:Hp)(l:Addr)(xs:List V):Prop:=if b=true then bM K H l xs else b6 K H l xs
theorem Sq.same{b:Bool}{K:aD}{H H':Hp}{l:Addr}{xs:List V}(h:Sq b K H l xs)(S:aT H H'):Sq b K H' l xs:=by
 cases b
 ·exact pO S h
 ·exact S.seq h
end
section
variable {X:Cx}{a b:Expr}{ga gb:G->R D}
end
def Hi(K:aD)(H:Hp)(F:List Addr)(J:It)(ds:List D):Prop:=∀H1,(∀b o,b ∉ F->H b=some o->H1 b=some o) ->
 (∀i:Nat,i<ds.length->J.go i H1/\∀v H2,J.xE i H1 v H2->aT H1 H2/\∃d1 d2 q v1 v2,ds[i]? = some (.tup [d1,d2])/\v = .ref q/\b6 K H2 q [v1,v2]/\∀F',(∀b,b∈F'->b∈F∨H b=none)->Is K (aV F' H2) d1 v1/\Is K (aV F' H2) d2 v2)/\J.stop ds.length H1
section
variable {X:Cx}{e a b c:Expr}{g ga gb gc:G->R D}{pos:Pos}
theorem w2u(i k:Nat){x y0:Str}{px py pt:Pos}{kt}{iter:Expr}{body:List Stmt}{gi:G->R (List D)}{gb:G->R Fl}(hp:wm X)(eI:X.calm=true)(hi:kA Hi X (.Tuple [.Name x px,.Name y0 py] kt pt) iter gi)(hb:kB X body gb)(hN:X.N.Nodup)(zp:X.N[i]? = some x:=by rfl)(Hj:X.N[k]? = some y0:=by rfl)(hx:Loc X.env.scope x:=by first | exact gZ rfl | exact fb rfl)(hy:Loc X.env.scope y0:=by first | exact gZ rfl | exact fb rfl)
 (hf:X.fn x=true∨X.env.scope.names.lookup x=some .local:=by first | exact .inl rfl | exact .inr rfl | assumption)
 (Hk:X.fn y0=true∨X.env.scope.names.lookup y0=some .local:=by first | exact .inl rfl | exact .inr rfl | assumption)
 (hs:∀x,AA iter X.env x=pure x:=by intro _;rfl):PQ X (.For (.Tuple [.Name x px,.Name y0 py] kt pt) iter body [] pos) (vt i k gi gb):=by
 refine⟨λpins s σ H F Γ I fo rl hg=>?_⟩
 refine SJ (aC (hi.run pins s σ H F Γ I fo rl (kj hg)) (λv s1 h1=>aC h1 (λkK s2 h2=>?_) λ_ _ x=>x.lift fo rl _) λ_ _ x=>x.lift fo rl _) hs
 obtain⟨ds,it,fp,tn,J,H2,e1,rfl,I2,S2,T,t0,fk,jd⟩:=h2
 have eg:vt i k gi gb Γ=gu gb i k ds Γ:=km e1
 rw[eg] at hg ⊢
 have cA:=hp pins H F (gu gb i k ds Γ)
 have nq:∀{H':Hp},(∀b∈fp,H' b=none)->∀b∈fp,fL X pins H' b:=λhn b hb=>⟨hn b hb,(fk b hb).2⟩
 refine SK (λn s'=>∃(j:Nat) (aQ:St) (H':Hp) (F':List Addr) (Γ':G),n=ds.length-j/\j<=ds.length/\Inv X pins aQ H' s'/\tn j s'.heap/\(∀b∈fp,H' b=none)/\bZ H' F'/\Rel X.K H' F' Γ' aQ/\Ext H2 F H' F'/\gu gb i k (ds.drop j) Γ'=gu gb i k ds Γ) ?_ ds.length
  ⟨0,σ,H2,F,Γ,by lia,iT _,I2,t0,λb hb=>(fk b hb).1,fo.same S2,rl.same S2,.refl,by rw[xg]⟩
 rintro n s3 ⟨j,i8,H3,F3,nu,en,hj,I3,t3,rV,p8,p9,E3,mf⟩
 have rX:Ext H F H3 F3:=(Ext.of_same S2).trans E3
 obtain⟨pU,pV⟩:=jd H3 λb o hb h=>E3.keep b o hb h
 by_cases a_:j<ds.length
 ·obtain⟨go,yl⟩:=pU j a_
  refine jL cA (eM (T.item X rfl rfl rfl eI j pins s3 i8 H3 _ I3 (nq rV) t3 go) λr s4 ⟨u,hr,h4⟩=>?_)
  subst hr
  refine jL cA (eM h4 λ_ s5 ⟨y,H5,I5,r5,y5,ip,pX⟩=>?_)
  obtain⟨S5,d1,d2,q,v1,v2,ed,rfl,zA,iv⟩:=yl y H5 y5
  obtain⟨zB,zC⟩:=iv F3 λb hb=>E3.old b hb
  have Hl:=p8.same S5
  have Hm:=p9.same S5
  have E5:=E3.trans (Ext.of_same S5)
  have ur:Ext H F H5 F3:=(Ext.of_same S2).trans E5
  have pY:ds.drop j = .tup [d1,d2]::ds.drop (j+1):=by
   rw[Ay a_]
   have:ds[j] = .tup [d1,d2]:=by
    have:=cf a_
    rw[ed] at this;exact(iQ this).symm
   rw[this]
  have zq:=I5.pinned (nq pX) (T.obj _ _ ip)
  have pZ:PG X.bG (.Tuple [.Name x px,.Name y0 py] kt pt) (L2.cq X.K 2 (L2.ae (nY i) (L2.ae (nY k) L2.az))):=DY (X:=X.bG) eI (sO (pf (X:=X.bG) hN zp hx hf) (sO (pf (X:=X.bG) hN Hj hy Hk) DX rfl) rfl) rfl rfl
  refine jL cA (aC (pZ _ s5 i8 H5 (.ref q) u (λaQ H'=>aQ=(i8.set i (some v1)).set k (some v2)/\H'=H5) (zq.cZ _) r5 ⟨q,[v1,v2],rfl,zA,rfl,v1,[v2],rfl,v2,[],rfl,rfl,rfl,rfl⟩) (λ_ s6 ⟨Cj,H6,I6,e6,p4⟩=>?_) λ_ _ z=>cT z)
  subst e6 p4
  have fS:gu gb i k (.tup [d1,d2]::ds.drop (j+1)) nu=gu gb i k ds Γ:=by rw[<-pY];exact mf
  have uk:gb ((nu.set i (.ro d1)).set k (.ro d2)) ≠ .no:=λz=>by
   rw[<-fS] at hg
   unfold gu at hg
   rw[z] at hg
   exact hg rfl
  have back:∀{s7:ai} {b5:St} {H7:Hp},Inv X (pins++qR fp s5.heap) b5 H7 s7->Inv X pins b5 H7 s7/\tn (j+1) s7.heap/\∀b∈fp,H7 b=none:=λ{s7 b5 H7} I7=>by
   refine⟨I7.jk,T.keep _ _ _ ip λb hb o e=>(I7.pin (b,o) (c6 _ (c6 _ (n4 hb e)))).1,λb hb=>?_⟩
   obtain⟨o,e,dd⟩:=T.obj _ _ ip b hb
   exact(I7.pin (b,o) (c6 _ (c6 _ (n4 hb e)))).2.1
  refine jL cA (aC (hb.run _ s6 _ H6 F3 _ I6.dr Hl ((Hm.ug zB).ug zC) uk) (λf s7 q7=>?_) λx7 s7 q7=>?_)
  ·cases f with
   | next =>
     obtain⟨dz,e7,b5,H7,F7,I7,dA,dB,E7⟩:=q7
     obtain⟨b1,b2,b3⟩:=back I7
     refine⟨ds.length-(j+1),by lia,j+1,b5,H7,F7,dz,rfl,a_,b1,b2,b3,dA,dB,E5.trans E7,?_⟩
     rw[<-fS]
     conv=>rhs;unfold gu
     rw[e7]
   | cont =>
     obtain⟨dz,e7,b5,H7,F7,I7,dA,dB,E7⟩:=q7
     obtain⟨b1,b2,b3⟩:=back I7
     refine⟨ds.length-(j+1),by lia,j+1,b5,H7,F7,dz,rfl,a_,b1,b2,b3,dA,dB,E5.trans E7,?_⟩
     rw[<-fS]
     conv=>rhs;unfold gu
     rw[e7]
   | brk =>
     obtain⟨dz,e7,b5,H7,F7,I7,dA,dB,E7⟩:=q7
     refine⟨dz,?_,b5,H7,F7,I7.jk,dA,dB,ur.trans E7⟩
     rw[<-fS]
     conv=>lhs;unfold gu
     rw[e7]
   | ret v7 =>
     refine oK.map q7 ur (λ_ _ I7=>I7.jk) (λd7 e7=>?_) λd7 e7=>?_
     ·rw[<-fS]
      conv=>lhs;unfold gu
      rw[e7]
     ·rw[<-fS]
      conv=>lhs;unfold gu
      rw[e7]
  ·obtain⟨c7,dz,b5,H7,F7,e7,um,dA,dB,E7⟩:=q7
   refine⟨c7,dz,b5,H7,F7,?_,?_,dA,dB,ur.trans E7⟩
   ·rw[<-fS]
    conv=>lhs;unfold gu
    rw[e7]
   ·obtain⟨I7,e',C',oe,vs,q1,q2,q3,q4,q5,q6,zr,q8⟩:=um
    refine⟨I7.jk,e',C',oe,vs,q1,q2,q3,q4,q5,q6,λp jw=>zr p ?_,?_⟩
    ·rcases List.mem_append.mp jw with z | z
     ·exact je _ z
     ·exact c6 _ (je _ z)
    ·obtain⟨w1,w2,w3,w4,w5⟩:=q8
     refine⟨w1,w2,w3,w4,?_⟩
     rcases w5 with w5 | ⟨T',oT,ts,z1,z2,z3,z4,z5,z6,z7⟩
     ·exact .inl w5
     ·refine .inr ⟨T',oT,ts,z1,z2,z3,z4,z5,λp jw=>z6 p ?_,z7⟩
      rcases List.mem_append.mp jw with z | z
      ·exact je _ z
      ·exact c6 _ (je _ z)
 ·have ej:j=ds.length:=by lia
  subst ej
  refine jL cA (eM (T.done X rfl rfl rfl eI _ pins s3 i8 H3 _ I3 (nq rV) t3 pV) λr s4 ⟨hr,I4⟩=>?_)
  subst hr
  rw[Aj] at mf
  exact AB ⟨nu,mf.symm,i8,H3,F3,I4,p8,p9,rX⟩
end
def Hn(K:aD)(l:Addr):It :=
 ⟨λi H=>∃xs x,bM K H l xs/\xs[i]? = some x,
  λi H v H'=>∃T x,v = .ref T/\H T=none/\H'=upd H T (.tup [.int (i:Int),x])/\∀xs,bM K H l xs->xs[i]? = some x,
  λi H=>∃xs,bM K H l xs/\xs.length<=i⟩
theorem x3v{P:aY}{w:aO}{K:aD}{elts:List Expr}{kt}{pt:Pos}{e it l:Addr}(qc:e≠it):Turn P w K (.Tuple elts kt pt) (Hn K l) [e,it] e (λi h=>(∃old,oZ h e it (i:Nat) old)/\h.IsListIter it l i) where
 mem:=by simp
 obj:=λi h ⟨⟨old,q1⟩,q2⟩ c hc=>by
  simp only[fF,gN,or_false] at hc
  rcases hc with rfl | rfl
  ·exact⟨_,q1,λv z=>nomatch z⟩
  ·obtain⟨o,e,c,d⟩:=q2;exact⟨o,e,λv z=>by rw[d] at z;cases z⟩
 keep:=λi h h' ⟨⟨old,q1⟩,q2⟩ k=>⟨⟨old,k e (by simp) _ q1⟩,q2.at λo z=>k it (by simp) o z⟩
 item:=by
  intro X hP hw hK hc i pins s σ H E I hf ⟨⟨old,q1⟩,q2⟩ ⟨xs,x,s1,ex⟩
  subst hP hw hK
  obtain⟨its,rv,p,hz⟩:=I.list s1
  obtain⟨u,hu,ru⟩:=rv.get ex
  refine wpAny_pyNext_enum_item q1 q2 p.isList (x:=u) (by simpa using hu) qc λh' a1 a2 a3 a4 a5=>⟨_,rfl,?_⟩
  refine a6z (s:={ s with heap:=h',toks:=s.toks+1 }) a1 λni c1 c2=>?_
  have Te:s.heap.objs.size≠e:=mi (bE q1)
  have kk:∀c o,c ∉ [e,it]->s.heap.get? c=some o->ni.get? c=some o:=λc o hc z=>by
   simp only[fF,gN,or_false,not_or] at hc
   exact c2.extBut _ _ hc.1 (a5 c o hc.1 hc.2 z)
  have tT:si ni s.heap.objs.size [lh i s.toks,u].toArray:=⟨_,c2.extBut _ _ Te a3,rfl,_,rfl⟩
  have I1:=PO (t':=s.toks+1) (xs:=[.int (i:Int),x]) I hf kk (a7 _) (by rw[nE];exact(by decide:(2:Nat)<=16777216)) (.cons ⟨_,rfl⟩ (.cons ru .nil)) tT
  refine⟨.ref s.heap.objs.size,_,I1,rfl,⟨_,x,rfl,I.aS.fresh (a7 _),rfl,λxs' q=>by rw[I.DW q s1];exact ex⟩,⟨⟨u,c1⟩,a2.extBut c2.extBut (gJ qc)⟩,λc hc=>?_⟩
  rw[bS]
  ·exact(hf c hc).1
  ·intro z
   have ex:∃o,s.heap.get? c=some o:=by
    simp only[fF,gN,or_false] at hc
    rcases hc with rfl | rfl
    ·exact⟨_,q1⟩
    ·obtain⟨o,e,_⟩:=q2;exact⟨o,e⟩
   obtain⟨o,eo⟩:=ex
   exact absurd (bE eo) (by rw[z];exact jb _)
 done:=by
  intro X hP hw hK hc i pins s σ H E I hf ⟨⟨old,q1⟩,q2⟩ ⟨xs,s1,a0c⟩
  subst hP hw hK
  obtain⟨its,rv,p,hz⟩:=I.list s1
  have n1:=rv.length
  refine wpAny_pyNext_enum_end (I.ok.hd hc) q1 q2 p.isList (by simp;lia) λh' kk=>⟨rfl,PN (t':=s.toks) I hf λc o hc z=>?_⟩
  simp only[fF,gN,or_false,not_or] at hc
  exact kk c o hc.2 z
 self:=λ_ _ _ _ _ st h=>by obtain⟨⟨old,q1⟩,_⟩:=st;exact Ks q1 h
theorem Ho:∀{k:Nat} {xs:List D} {i:Nat} {x:D},xs[i]? = some x->(dS k xs)[i]? = some (.tup [.int ((k+i:Nat):Int),x])
 | _,[],_,_,h=>by simp at h
 | k,a::xs,0,x,h=>by simp at h;subst h;simp[dS]
 | k,a::xs,i+1,x,h=>by
   simp only[dS,List.getElem?_cons_succ] at *
   rw[Ho h,show k+1+i=k+(i+1) by lia]
theorem Hr:∀(k:Nat) (xs:List D),(dS k xs).length=xs.length
 | _,[]=>rfl
 | k,a::xs=>by simp[dS,Hr (k+1) xs]
theorem x9l{K:aD}{H:Hp}{F:List Addr}{l:Addr}{xs:List V}{ds:List D}(h1:bM K H l xs)(i1:aA K (aV F H) ds xs):Cy K H F (Hn K l) (dS 0 ds):=λH1 S=>by
 have q1:=S.seq h1
 have n1:=i1.length
 have nz:=Hr 0 ds
 refine⟨λi hi=>⟨⟨xs,xs[i]'(by lia),q1,cf (by lia)⟩,λv H2 y=>?_⟩,⟨xs,q1,by lia⟩⟩
 obtain⟨T,x,rfl,hT,rfl,e1⟩:=y
 obtain⟨d,ed,iv⟩:=i1.v_ (e1 xs q1)
 have S2:=jD hT (.tup [.int (i:Int),x])
 have eg:=Ho (k:=0) ed
 rw[fE] at eg
 exact⟨S2,.int (i:Int),d,T,.int (i:Int),x,eg,rfl,b6.of dI,Is.bO.mpr rfl,iv.same (jC (S.trans S2))⟩
theorem PR:oN ("enumerate":Str)=some (.type "enumerate"):=by decide +kernel
section
variable {X:Cx}{a b:Expr}{ga gb:G->R D}
theorem x4y{elts:List Expr}{kt}{pt p pos:Pos}(ha:PD X a ga)(hm:X.mg "enumerate"=none)(hg:Gl X "enumerate":=by rfl)(hs:bA [a] X.env=[(false,eval a X.env)]:=by rfl) :
 kA Cy X (.Tuple elts kt pt) (.Call (.Name "enumerate" p) [a] [] pos) (y7z ga):=by
 refine⟨λpins s σ H F Γ I fo rl cw=>?_⟩
 refine Kj (iE I hg hm PR (uU ?_ hs rfl))
 rw[hs]
 show ax _ _ (gf ((false,eval a X.env)::cK pos [])) _ _ s
 refine iA (aC (ha.run pins s σ H F Γ I fo rl (R.left cw)) (λu s1 ⟨d,v,H1,e1,I1,r1,S1,i1⟩=>ke ?_) λ_ _ x=>x.bind _)
 have aW:=R.next cw e1
 cases d with
 | lst ds =>
   obtain⟨n1,e5⟩:=R.dF (show R.guard (D.bI ds=true) (.ok (dS 0 ds)) ≠ .no from aW)
   obtain⟨l,xs,rfl,q1,j1⟩:=Is.fA.mp i1
   have j1':=aA.aV (fo.same S1) _ xs n1 j1
   cases (show u=c_ l from r1)
   obtain⟨its,rv,pl,hz⟩:=I1.list q1
   refine call_enumerate_list pl.isList λh' a1 a2 a3 a4=>?_
   refine Ks (s:={ s1 with heap:=h' }) a1 ?_
   have I3:Inv X pins σ H1 { s1 with heap:=h' }:=I1.kept (t':=s1.toks) a4
   refine⟨dS 0 ds,s1.heap.objs.size+1,_,_,Hn X.K l,H1,(R.step e1 _).trans e5,rfl,I3,S1,x3v (it:=s1.heap.objs.size) (by show @Ne Nat _ _;lia),⟨⟨_,a1⟩,a2⟩,λc hc=>?_,x9l q1 j1'⟩
   simp only[fF,gN,or_false] at hc
   have vZ:s1.heap.objs.size<=c:=by rcases hc with rfl | rfl<;>lia
   exact I1.ve vZ (I1.aS.fresh vZ)
 | _=>exact absurd rfl aW
end
section
variable {X:Cx}{e a b c:Expr}{g ga gb gc:G->R D}{pos pos' p:Pos}
end
section
variable {X:Cx}{e a b c:Expr}{g ga gb gc:G->R D}{pos pos' p:Pos}{gs:G->R (List D)}
end
theorem Rel.vv{K:aD}{H:Hp}{F:List Addr}{Γ:G}{σ:St}(fo:bZ H F)(r:Rel K H F Γ σ)(i:Nat):∃F',(∀b∈F',b∈F)/\bZ H F'/\Rel K H F' (L3.vv i Γ) σ:=by
 unfold L3.vv
 split
 ·rename_i ds e
  obtain⟨a,xs,h1,h2,h3,h4⟩:=r.own i ds e
  have sub:∀b∈F.filter (λb=>decide (b≠a)),b∈F:=λb hb=>(List.mem_filter.mp hb).1
  have out:a ∉ F.filter (λb=>decide (b≠a)):=λz=>(of_decide_eq_true (List.mem_filter.mp z).2) rfl
  have S:aT (aV F H) (aV (F.filter (λb=>decide (b≠a))) H):=λb o h=>by
   obtain⟨z1,z2⟩:=kW h
   rw[e8 λz=>z1 (sub b z)]
   exact z2
  have hi:i<Γ.length:=by
   rcases cG i Γ.length with z | z
   ·exact z
   ·rw[fK z] at e;cases e
  refine⟨F.filter (λb=>decide (b≠a)),sub,λb hb=>fo b (sub b hb),⟨by rw[jJ];exact r.len,λj d h=>?_,λj es h=>?_,λj k es fs c g1 g2 g3 g4=>?_⟩⟩
  ·by_cases hj:i=j
   ·subst hj
    rw[gY hi] at h
    cases h
    exact⟨.ref a,h1,Is.fA.mpr ⟨a,xs,rfl,bM.of (by rw[e8 out];exact h3),h4.same S⟩⟩
   ·rw[fC hj] at h
    obtain⟨v,q1,q2⟩:=r.ro j d h
    exact⟨v,q1,q2.same S⟩
  ·by_cases hj:i=j
   ·subst hj
    rw[gY hi] at h
    cases h
   ·rw[fC hj] at h
    obtain⟨c,ys,q1,q2,q3,q4⟩:=r.own j es h
    refine⟨c,ys,q1,List.mem_filter.mpr ⟨q2,decide_eq_true λz=>?_⟩,q3,q4.same S⟩
    subst z
    exact hj (r.inj i j ds es c e h h1 q1)
  ·have back:∀(m:Nat) (es:List D),(Γ.set i (.ro (.lst ds)))[m]? = some (.own es)->Γ[m]? = some (.own es):=λm es h=>by
    by_cases hm:i=m
    ·subst hm
     rw[gY hi] at h
     cases h
    ·rw[fC hm] at h;exact h
   exact r.inj j k es fs c (back j es g1) (back k fs g2) g3 g4
 ·exact⟨F,λ_ h=>h,fo,r⟩
theorem w5e{X:Cx}(i:Nat){st:Stmt}{g:G->R Fl}(h:PQ X st g):PQ X st (yb i g):=by
 refine⟨λpins s σ H F Γ I fo rl hg=>?_⟩
 obtain⟨F',sub,zg,nj⟩:=rl.vv fo i
 have E:Ext H F H F':=⟨λb o _ q=>q,λb hb=>.inl (sub b hb)⟩
 exact aC (h.run pins s σ H F' _ I zg nj hg) (λ_ _ q=>uf.later E q) λ_ _ q=>rQ.later E q
def w3h(y:Str)(names:List (Str×nJ)):Bool:=decide (names.filter (λp=>p.2 == .cell)=[(y,.cell)])
structure a9l (N:List Str) (env:Env) (y:Str) (scope:da):Prop where
 kind:scope.kind = .function
 rP:∀p∈scope.names,p.2 ≠ .cell∨p.1=y
 names:∀p∈scope.names,p.2 = .local->scope.names.lookup p.1=some .local
 free:∀p∈scope.names,p.2 = .free->(∃c,env.cells.lookup p.1=some c)/\(env.scope.names.lookup p.1=some .cell∨env.scope.names.lookup p.1=some .free)
 loc:w3h y scope.names=true/\scope.names.lookup y=some .cell
 nil:scope.names.lookup (("":Str))=none
 only:∀z∈N,scope.names.lookup z≠some .local
 none:∀z∈N,z≠("":Str)
def Hs(X:Cx)(y:Str)(scope:da)(C cc:Addr)(aB:ai)(aI:Hp)(fp:List Addr)(pn:List (Addr×Obj)):Cx :=
 { X with N:=y::X.N.map (λz=>if z=y then ("":Str) else z),s₀:=aB,H₀:=aI,env:=iB scope ((y,cc)::cL X.env scope.names []) C X.env,outer:=X.stack,ex:=fp,fn:=λz=>z==y,pn:=pn,xe:=λ_ _=>False }
section
variable {X:Cx}{y:Str}{scope:da}
structure a9m (X:Cx) (y:Str) (scope:da) (ifs:List Expr) (elt:Expr) (f:D->G->R (Option D)):Prop where
 run:∀(C cc:Addr) (aB:ai) (aI:Hp) (fp:List Addr) (pn:List (Addr×Obj)) (pins:List (Addr×Obj)) (s:ai) (σ:St) (H:Hp) (F:List Addr) (Γ:G) (d:D),Inv (Hs X y scope C cc aB aI fp pn) pins σ H s->bZ H F->Rel X.K H F (.ro d::Γ) σ->(∃o,f d Γ = .ok o) ->
  ax (aF X.prog X.w) X.A (forIn ifs true λc r=>if r=true then do let ok <-oP c (iB scope ((y,cc)::cL X.env scope.names []) C X.env) (eval c (iB scope ((y,cc)::cL X.env scope.names []) C X.env));pure (nQ ok) else pure (nQ r)) (λok iM =>
   if ok=true then ax (aF X.prog X.w) X.A (eval elt (iB scope ((y,cc)::cL X.env scope.names []) C X.env)) (λu gH=>∃e v H',f d Γ = .ok (some e)/\Inv (Hs X y scope C cc aB aI fp pn) pins σ H' gH/\RelV v u/\aT H H'/\Is X.K (aV F H') e v) (λ_ _=>False) iM
   else f d Γ = .ok none/\∃H',Inv (Hs X y scope C cc aB aI fp pn) pins σ H' iM/\aT H H') (λ_ _=>False) s
end
section
variable {X:Cx}{e:Expr}{pos p:Pos}{x:Str}{es:List Expr}{gs:G->R (List D)}
theorem w4a{P:aY}{w:aO}{H:Hp}{h:Heap}{F:List Addr}(fo:bZ H F)(k:dq P w H h):dq P w (aV F H) h:=λb u e=>by
 have out:∀{c:Addr} {o:HO},H c=some o->(∀xs,o ≠ .lst xs)->aV F H c=some o:=λ{c o} q n=>by
  rw[e8 λz=>by obtain⟨xs,e⟩:=fo c z;rw[q] at e;cases e;exact n xs rfl];exact q
 exact(k b u (kW e).2).mD (λc v _ q=>q) (λc q=>out q λxs z=>nomatch z) λc xs q=>out q λxs z=>nomatch z
end
section
variable {M:oO}{A:Around}{E:Value->ai->Prop}{env:Env}{s:ai}
end
section
variable {X:Cx}{y:Str}{scope:da}
structure a9n (X:Cx) (y:Str) (scope:da) (ifs:List Expr) (elt:Expr) (f:D->G->R (Option D)):Prop where
 run:∀(C:Addr) (aB:ai) (aI:Hp) (fp:List Addr) (pn:List (Addr×Obj)),(∀b∈fp,∃o,(b,o)∈pn)->∀(pins:List (Addr×Obj)) (s:ai) (σ:St) (H:Hp) (F:List Addr) (Γ:G) (d:D),Inv (dw X y scope C aB aI fp pn) pins σ H s->bZ H F->Rel X.K H F (.ro d::Γ) σ->f d Γ ≠ .no ->
  ax (aF X.prog X.w) X.A (forIn ifs true λc r=>if r=true then do let ok <-oP c (iB scope (cL X.env scope.names []) C X.env) (eval c (iB scope (cL X.env scope.names []) C X.env));pure (nQ ok) else pure (nQ r)) (λok iM =>
   if ok=true then ax (aF X.prog X.w) X.A (eval elt (iB scope (cL X.env scope.names []) C X.env)) (λu gH=>∃e v H',f d Γ = .ok (some e)/\Inv (dw X y scope C aB aI fp pn) pins σ H' gH/\RelV v u/\aT H H'/\Is X.K (aV F H') e v) (λx s'=>∃c H',f d Γ = .er c/\aT H H'/\rN (dw X y scope C aB aI fp pn) pins σ H' c x s') iM
   else f d Γ = .ok none/\∃H',Inv (dw X y scope C aB aI fp pn) pins σ H' iM/\aT H H') (λx s'=>∃c H',f d Γ = .er c/\aT H H'/\rN (dw X y scope C aB aI fp pn) pins σ H' c x s') s
end
section
variable {X:Cx}{e a b c:Expr}{g ga gb gc:G->R D}{pos p:Pos}{x:Str}{es:List Expr}{gs:G->R (List D)}
end
theorem aA.eraseIdx{K:aD}{H:Hp}:∀{ds:List D} {xs:List V} (k:Nat),aA K H ds xs->aA K H (ds.eraseIdx k) (xs.eraseIdx k)
 | [],[],_,h=>h
 | [],_::_,_,h=>by have:=h.length;simp at this
 | _::_,[],_,h=>by have:=h.length;simp at this
 | d::ds,x::xs,0,h=>by
   obtain⟨_,_,e,_,h2⟩:=aA.gD.mp h
   cases e;exact h2
 | d::ds,x::xs,k+1,h=>by
   obtain⟨_,_,e,h1,h2⟩:=aA.gD.mp h
   cases e;exact aA.cons h1 (aA.eraseIdx k h2)
section
variable {X:Cx}{e:Expr}{g:G->R D}{pos p pos':Pos}
end
section
variable {X:Cx}{e a b c:Expr}{g ga gb gc:G->R D}{pos:Pos}
theorem PS:∀bs:List Bool,((bK bs.length).all λi=>(bs[i]?).getD true)=bs.all (λb=>b)
 | []=>rfl
 | b::bs=>by
   rw[de,JT,xp,C8,xp,<-PS bs]
   rfl
theorem x7v(hc:X.calm=true):lB X (.builtin "all") (λxs H Q=>∃(a:Addr) (bs:List Bool),xs=[.ref a]/\bM X.K H a (bs.map V.bl)/\Q (.bl (bs.all (λb=>b))) H):=by
 intro pins s σ H xs us Q I r h
 obtain⟨a,bs,rfl,hq,q⟩:=h
 obtain⟨u,rfl,ru⟩:=sQ r
 cases ru
 obtain⟨its,rv,pl,_⟩:=I.list hq
 have hl:=pl.isList
 have a_:a<s.heap.objs.size:=by obtain⟨_,e,_⟩:=hl;exact bE e
 have hlen:its.length=bs.length:=by rw[<-rv.length,bu]
 refine call_all_walk (xq hl ?_)
 refine⟨s.heap.objs.size,[s.heap.objs.size,a],[s.heap.objs.size],its.toArray.size,_,_,λi=>(bs[i]?).getD true,rfl,SO (A:=X.A.in1) (I.ok.hd hc) _ a (cN a_) its.toArray,
  ⟨⟨_,dQ _ rfl,rfl,rfl⟩,hl.push _⟩,λi v s' Q' E' hP hQ=>?_,λh' tk hk=>?_⟩
 ·obtain⟨b,e,rfl⟩:=Pb rv (i:=i) (v:=v) (by simpa using hP)
  simp only[e,xj] at hQ
  exact Ds hQ
 ·have e:((bK its.toArray.size).all λi=>(bs[i]?).getD true)=bs.all (λb=>b):=by
   rw[dc,hlen];exact PS bs
  refine⟨.bl (bs.all (λb=>b)),H,I.kept (λb x ex=>hk b x (λhm=>by rw[List.mem_singleton.mp hm] at ex;exact jb _ (bE ex)) (bP _ ex)),by rw[e];rfl,q⟩
theorem w7a(hc:X.calm=true):oH X (.builtin "all") sY:=by
 refine⟨_,x7v (X:=X.bG) hc,λH xs ds i hg=>?_⟩
 unfold sY at hg
 split at hg
 ·rename_i ys
  obtain⟨v,rfl,h⟩:=oI i
  obtain⟨a,zs,rfl,h1,h2⟩:=Is.fA.mp h
  cases q:om ys with
  | none=>rw[q] at hg;exact absurd rfl hg
  | some ns =>
    have:=LQ q
    subst this
    rw[h2.Pa] at h1
    exact⟨a,ns,rfl,h1,.bl (ns.all (λb=>b)),by show sY [.lst (ns.map D.bl)]=_;simp only[sY,q],.refl _,Is.gy.mpr rfl⟩
 ·exact absurd rfl hg
end
namespace Rv
theorem owner:List.lookup (String.ofList ['d','e','s','r','e','v','e','r'].reverse) Manifest.owners=some Manifest.sig_reversed:=rfl
end Rv
section
variable {prog:aY}{w:aO}{A:Around}{E:Value->ai->Prop}{s:ai}
end
section
variable {X:Cx}{a:Expr}{ga:G->R D}
end
section
variable {X:Cx}{e:Expr}{pos p:Pos}{x:Str}{es:List Expr}{gs:G->R (List D)}
theorem w7l{k:Nat}{f:Addr}{fd:cP}{ps:List Str}{φ:List D->R D}(Fn:gF X.prog X.w X.K X.mg X.base k f fd ps φ)(hr:dE k X.A){pins:List (Addr×Obj)}{σ:St}{H:Hp}{F:List Addr}{s:ai}{us:List Value}{vs:List V}{ds:List D}{d':D}{EE:Value->ai->Prop}
 (I:Inv X pins σ H s) (fo:bZ H F) (r:Vals vs us) (i:aA X.K (aV F H) ds vs) (hg:φ ds = .ok d'):ax (aF X.prog X.w) X.A (call (.ref f) us) (λu s'=>∃v H',Inv X pins σ H' s'/\RelV v u/\aT H H'/\Is X.K (aV F H') d' v) EE s:=by
 have fm:B8 X.K X.mg φ vs (aV F H) (λv H'=>aT (aV F H) H'/\Is X.K H' d' v) (λ_ _ _=>False) :=
  ⟨ds,i,(by rw[hg];exact λz=>nomatch z),λd v H' e S iv=>by rw[hg] at e;cases e;exact⟨S,iv⟩,λc C H' e=>by rw[hg] at e;cases e⟩
 have hl:us.length=ps.length:=by rw[<-r.length];exact Fn.ok.len _ _ _ _ fm
 have hb:=Fn.binds s us I.iD (by rw[lu];exact hl)
 rw[lu] at hb
 have nh:∀{b:Addr},H b=none->aV F H b=none:=λ{b} q=>by
  by_cases hb:b∈F
  ·exact yT hb
  ·rw[e8 hb];exact q
 have e0:=I.D6
 have en:qT X.prog X.w X.K X.mg X.base X.A X.stack s (aV F H):=⟨e0.frames,e0.mod,λb o q=>⟨(e0.bs b o q).1,nh (e0.bs b o q).2⟩,e0.kI,e0.kJ,λb hb=>nh (e0.pb b hb),w4a fo e0.aS,e0.bare⟩
 refine Aw (oV (Fn.ok.run X.A X.stack s (aV F H) ⟨us,[]⟩ us vs _ _ hr en hb r fm) λr' s' hq=>?_)
 cases r' with
 | error u=>obtain⟨_,_,_,_,_,_,_,_,_,_,_,_,_,_,_,_,_,_,_,_,_,_,_,_,_,_,hE⟩:=hq;exact hE.elim
 | ok fl =>
   cases fl with
   | ret u =>
     obtain⟨v,H1,os,bare,un,aS,rv,S,h3⟩:=hq
     have own:∀b,b∈F->∃ys its n,H b=some (.lst ys)/\ys.length<=ck/\Vals ys its/\s'.heap.get? b=some { cls:=.type "list",data:=.seq its.toArray n }/\H1 b=none:=λb hb=>by
      obtain⟨ys,ey⟩:=fo b hb
      obtain⟨z,its,n,Ht,gt⟩:=I.aS b _ ey
      exact⟨ys,its,n,ey,z,Ht,un.keep b _ gt (yT hb) (λz=>by rw[e0.pb b z] at ey;cases ey) (by simp),un.free b _ gt (yT hb) (by simp)⟩
     let H2:Hp:=λb=>if b∈F then H b else H1 b
     have PU:∀{b},b∈F->H2 b=H b:=λ{b} h=>if_pos h
     have uu:∀{b},b ∉ F->H2 b=H1 b:=λ{b} h=>if_neg h
     have up:∀{b o},H1 b=some o->b ∉ F/\H2 b=some o:=λ{b o} q=>by
      have hb:b ∉ F:=λz=>by obtain⟨_,_,_,_,_,_,_,z2⟩:=own b z;rw[q] at z2;cases z2
      exact⟨hb,(uu hb).trans q⟩
     have Hu:∀{b o},H b=some o->(∀ys,o ≠ .lst ys)->b ∉ F:=λ{b o} q n z=>by obtain⟨ys,e⟩:=fo b z;rw[q] at e;cases e;exact n ys rfl
     have un2:Un (cW X.stack) [] H H2 s.heap s'.heap:=by
      refine⟨λb o q n=>un.keep b o q (nh n),λb o q n=>un.slot b o q (nh n),λb o q n hx=>?_,un.there,λb ys q=>?_,λb o u q=>?_,λb ps q=>?_⟩
      ·have hb:b ∉ F:=λz=>by obtain⟨ys,e⟩:=fo b z;rw[n] at e;cases e
       rw[uu hb];exact un.free b o q (nh n) hx
      ·have hb:=Hu q λys z=>nomatch z
       rw[uu hb];exact un.jO b ys (by rw[e8 hb];exact q)
      ·have hb:=Hu q λys z=>nomatch z
       rw[uu hb];exact un.ji b o u (by rw[e8 hb];exact q)
      ·have hb:=Hu q λys z=>nomatch z
       rw[uu hb];exact un.jP b ps (by rw[e8 hb];exact q)
     have a0d:dq X.prog X.w H2 s'.heap:=λb u q=>by
      by_cases hb:b∈F
      ·obtain⟨ys,its,n,ey,z,Ht,gt,_⟩:=own b hb
       rw[PU hb,ey] at q
       cases q
       exact⟨z,its,n,Ht,gt⟩
      ·rw[uu hb] at q
       exact(aS b u q).mD (λc v _ e=>e) (λc e=>(up e).2) λc ys e=>(up e).2
     have I2:Inv X pins σ H2 s':=I.TU os un2 a0d bare (λb z=>absurd z (by simp))
     have S2:aT H H2:=λb o q=>by
      by_cases hb:b∈F
      ·rw[PU hb];exact q
      ·rw[uu hb];exact S b o (by rw[e8 hb];exact q)
     have Sx:aT H1 (aV F H2):=λb o q=>by rw[e8 (up q).1];exact(up q).2
     exact⟨v,H2,I2,rv,S2,h3.same Sx⟩
   | next=>exact cT hq
   | brk=>exact cT hq
   | cont=>exact cT hq
theorem zE{k:Nat}{f:Addr}{fd:cP}{ps:List Str}{φ:List D->R D}(Fn:gF X.prog X.w X.K X.mg X.base k f fd ps φ)(hr:dE k X.A)(hm:X.mg x=some (.ref f))(ha:Cv X (e::es) gs)(hg:Gl X x:=by rfl)(jZ:(x==("__debug__":Str))=false:=by decide)
 (he:bA (e::es) X.env=(false,eval e X.env)::bA es X.env:=by rfl) (fM:(cK pos (bA es X.env)).any (·.1)=false:=by rfl):iL X (.Call (.Name x p) (e::es) [] pos) (z8m φ gs):=by
 refine⟨λpins s σ H F Γ I fo rl cw=>?_⟩
 refine mB (vd I hg hm ?_ jZ)
 refine Ki (h₀:=X.base) I.ok.mod.sJ Fn.kp (aC (ha.run pos pins s σ H F Γ I fo rl (R.left cw)) (λus s1 ⟨ds,vs,H1,e1,I1,r1,S1,i1⟩=>⟨I1.iD,?_⟩) λ_ _ x=>x.bind _) he fM
 have aW:=R.next cw e1
 cases q:φ ds with
 | no=>rw[q] at aW;exact absurd rfl aW
 | er c=>rw[q] at aW;exact absurd rfl aW
 | ok d =>
   refine aC (w7l (EE:=bV X pins σ H (z8m φ gs Γ)) Fn hr I1 (fo.same S1) r1 i1 q) (λu s' ⟨v,H',I',rv,S,h2⟩=>?_) λ_ _ z=>z
   have e2:z8m φ gs Γ = .ok d:=(R.step e1 _).trans (by rw[q])
   exact⟨d,v,H',e2,I',rv,S1.trans S,h2⟩
end
section
variable {X:Cx}{e:Expr}{g:G->R D}{pos pt:Pos}
end
section
variable {prog:aY}{w:aO}{A:Around}{E:Value->ai->Prop}{s:ai}
end
section
variable {X:Cx}{a:Expr}{ga:G->R D}{st:Expr}{gt:G->R (Option Int)}{pos p2:Pos}
end
section
variable {X:Cx}{e a b c:Expr}{g ga gb gc:G->R D}{pos:Pos}
end
theorem xM:∀{ns:List Int} {us:List Value},kF us ns->Vals (ns.map V.int) us
 | _,_,.nil=>.nil
 | _,_,.cons n t h=>.cons ⟨t,rfl⟩ (xM h)
section
variable {X:Cx}{e a b c:Expr}{g ga gb gc:G->R D}{pos:Pos}
end
theorem Hv(d:D):∀ys:List D,((D.cS ys).any λy=>y.eqv d.py)=ys.any λy=>bF y d
 | []=>by simp[D.cS]
 | y::ys=>by rw[D.cS,List.any_cons,List.any_cons,Hv d ys,yU]
section
variable {X:Cx}
end
theorem y6p{α:Type}{M:oO}{A:Around}{E:Value->ai->Prop}{s:ai}{b:Bool}{t u:Sem α}{Q:α->ai->Prop}(h1:ax M A t Q E s)(h2:ax M A u Q E s):ax M A (if b=true then t else u) Q E s:=by
 cases b
 ·exact h2
 ·exact h1
section
variable {prog:aY}{w:aO}{A:Around}{E:Value->ai->Prop}{s:ai}
end
section
variable {X:Cx}{a b:Expr}{ga gb:G->R D}
end
section
variable {X:Cx}{e a b c:Expr}{g ga gb gc:G->R D}{gs:G->R (List D)}{pos pos' p:Pos}
theorem x4v(i:Nat){x:Str}{apos d_:Pos}(he:PF X e gs)(hN:X.N[i]? = some x:=by rfl)(hv:nV X.env.scope x:=by first | exact gZ rfl | exact fb (gZ rfl) | exact fb (fb rfl))(hd:(x==("__debug__":Str))=false:=by decide)(d8:(x==("__classdict__":Str))=false:=by decide)
 (zj:Dw (.Call (.Attribute (.Name x p) "extend" apos) [e] [] d_) none pos.line X.env=pure false:=by rfl)
 (uh:Kn (.Name x p) "extend" X.env (eval (.Name x p) X.env)=eval (.Name x p) X.env:=by rfl)
 (ui:((cK d_ (bA [e] X.env)).all (λx=>!x.1)&&(qH d_ (qI [] X.env)).all (λx=>x.1.isSome)
   && decide ([e].length+([]:List qz).length+(if ([]:List qz).isEmpty then 0 else 1)<30))=true:=by rfl)
 (uj:(apos.endLine==d_.line)=true:=by rfl) (hs:bA [e] X.env=(false,eval e X.env)::bA [] X.env:=by rfl) :
 PQ X (.Expr (.Call (.Attribute (.Name x p) "extend" apos) [e] [] d_) pos) (s_ i gs):=by
 refine⟨λpins s σ H F Γ I fo rl hg=>?_⟩
 refine a6w ?_ I.quiet zj
 have zk:∃ds,Γ[i]? = some (.own ds):=by
  unfold s_ at hg
  split at hg
  ·rename_i ds e1;exact⟨ds,e1⟩
  ·exact absurd rfl hg
 obtain⟨ds,eo⟩:=zk
 have zl:s_ i gs Γ=lift (gs Γ) Γ λes=>R.guard (ds.length+es.length<=100000) (.ok (.nx (Γ.set i (.own (ds++es))))):=by unfold s_;rw[eo]
 rw[zl] at hg ⊢
 obtain⟨a',xs,h1,hF,h3,h4⟩:=rl.own i ds eo
 refine Ko uh ui uj rfl (aC (vc (X:=X.bG) hN hv hd d8 pins s σ H (λv' H'=>v' = .ref a'/\H'=H) (I.cZ _) ⟨.ref a',h1,rfl,rfl⟩) (λv s1 ⟨v',H',I1,r1,e1,e2⟩=>?_) λ_ _ z=>cT z)
 subst e1 e2
 have zm:=I1.dr
 obtain⟨t1,t2⟩:=Eb (T:="list") zm r1 (.inl ⟨rfl,xs,bM.of h3⟩)
 refine⟨"list",_,SI,PySem.F.slot_list_extend,PySem.F.type_list_extend,t1,t2,?_⟩
 rw[hs]
 refine Kp rfl (Kq ?_)
 show ax _ _ (gf ((false,eval e X.env)::cK d_ [])) _ _ s1
 refine iA (aC (he.run pins s1 σ H' F Γ zm fo rl (kj hg)) (λu s2 hq=>ke ?_) λ_ _ x=>x.lift fo rl _)
 obtain⟨es,l,zs,H2,e3,I2,r2,S2,xC,Ec,ia⟩:=hq
 have fR:=Bl hg e3
 obtain⟨hl,e4⟩:=R.dF fR
 have wk:=S2 _ _ h3
 have pN:(100001:Nat)<=ck:=by rw[nE];decide
 have i6:=h4.length
 have hzl:=ia.length
 refine aC (UZ (X:=X.bG) pins s2 σ H2 (.ref a') [.ref l] v [u] (λz rS=>z = .b_/\rS=upd H2 a' (.lst (xs++zs))) (I2.cZ _) r1 (.cons r2 .nil) ⟨a',l,xs,zs,rfl,rfl,wk,Ec,by lia,rfl,rfl⟩) (λw' s3 ⟨z,rS,I3,rz,ez,eH⟩=>?_) λ_ _ z=>cT z
 subst ez eH
 have ne:l≠a':=λz=>by rw[z,h3] at xC;cases xC
 have G7:aA X.K (aV F H2) es zs:=ia.same λb o hb=>by
  obtain⟨z1,z2⟩:=kW hb
  rw[e8 λz=>z1 (bL _ z)]
  exact z2
 obtain⟨nj,Pq⟩:=(rl.same S2).put eo h1 (xs':=xs++zs) (ds':=ds++es) ((h4.same (jC S2)).append G7)
 refine⟨_,(km e3).trans e4,σ,_,F,I3.dr,λb hb=>?_,nj,⟨λb o hb h=>?_,λb hb=>.inl hb⟩⟩
 ·by_cases rT:b=a'
  ·exact⟨xs++zs,by rw[rT];exact dI⟩
  ·obtain⟨ys,q⟩:=fo b hb
   exact⟨ys,by rw[bS rT];exact S2 _ _ q⟩
 ·rw[bS (λz=>hb (by rw[z];exact hF))];exact S2 _ _ h
end
def At(xs:Array Nat)(j i:Nat):Prop:=i<=xs.size/\(∀(k v:Nat),k<i->xs[k]? = some v->v<j)/\(∀(k v:Nat),i<=k->xs[k]? = some v->j<=v)
theorem Hw{xs:Array Nat}{j:Nat}(eE:xs.toList.Pairwise (·<·)):∀(fuel lo hi:Nat),hi-lo<=fuel->lo<=hi->hi<=xs.size->(∀(k v:Nat),k<lo->xs[k]? = some v->v<j)->(∀(k v:Nat),hi<=k->xs[k]? = some v->j<=v) ->
 At xs j (Kt xs j fuel lo hi)
 | 0,lo,hi,h1,h2,h3,h4,h5=>by
   have e:lo=hi:=by lia
   subst e
   exact⟨h3,h4,h5⟩
 | fuel+1,lo,hi,h1,h2,h3,h4,h5=>by
   rw[show Kt xs j (fuel+1) lo hi=(if lo<hi then (if xs.getD ((lo+hi)/2) j<j then Kt xs j fuel ((lo+hi)/2+1) hi else Kt xs j fuel lo ((lo+hi)/2)) else lo) from rfl]
   by_cases q:lo<hi
   ·rw[if_pos q]
    have hm:(lo+hi)/2<xs.size:=by lia
    have hg:xs.getD ((lo+hi)/2) j=xs[(lo+hi)/2]:=by simp[Ku,hm]
    have mono:∀(a b va vb:Nat),a<=b->xs[a]? = some va->xs[b]? = some vb->va<=vb:=λa b va vb mX ea eb=>by
     rcases cG a b with w | w
     ·obtain⟨ha,Hy⟩:=Array.getElem?_eq_some_iff.mp ea
      obtain⟨hb,Hz⟩:=Array.getElem?_eq_some_iff.mp eb
      have:=List.pairwise_iff_getElem.mp eE a b (by simpa using ha) (by simpa using hb) w
      rw[qK,qK,Hy,Hz] at this
      lia
     ·have:a=b:=by lia
      rw[this,eb] at ea;cases ea;exact a7 _
    have em:xs[(lo+hi)/2]? = some xs[(lo+hi)/2]:=iU hm
    by_cases z:xs.getD ((lo+hi)/2) j<j
    ·rw[if_pos z]
     rw[hg] at z
     exact Hw eE fuel _ hi (by lia) (by lia) h3 (λk v hk e=>C7 (mono k _ v _ (by lia) e em) z) h5
    ·rw[if_neg z]
     rw[hg] at z
     exact Hw eE fuel lo _ (by lia) (by lia) (by lia) h4 (λk v hk e=>fB (by lia) (mono _ k _ v hk em e))
   ·rw[if_neg q]
    have e:lo=hi:=by lia
    subst e
    exact⟨h3,h4,h5⟩
theorem HA{xs:Array Nat}(eE:xs.toList.Pairwise (·<·))(j:Nat):At xs j (fc xs j) :=
 Hw eE xs.size 0 xs.size (by lia) (iT _) (a7 _) (λk v hk=>absurd hk (jK _)) λk v hk e=>by
  obtain⟨h,_⟩:=Array.getElem?_eq_some_iff.mp e
  lia
theorem PV{xs:Array Nat}{j:Nat}(eE:xs.toList.Pairwise (·<·))(hj:xs[fc xs j]? ≠ some j):(kH xs (fc xs j) j).toList.Pairwise (·<·):=by
 obtain⟨b1,b2,b3⟩:=HA eE j
 generalize fc xs j=i at *
 rw[SQ]
 have ht:xs.toList=xs.toList.take i++xs.toList.drop i:=(a7a i _).symm
 have hp:=eE
 rw[ht] at hp
 obtain⟨p1,p2,p3⟩:=List.pairwise_append.mp hp
 have zF:∀v∈xs.toList.take i,v<j:=λv hv=>by
  obtain⟨k,hk,e⟩:=List.mem_take_iff_getElem.mp hv
  refine b2 k v (by lia) ?_
  have zG:k<xs.size:=by have:=hk;simp at this;lia
  rw[iU zG,<-e,qK]
 have PX:∀v∈xs.toList.drop i,j<v:=λv hv=>by
  obtain⟨k,hk,e⟩:=List.mem_drop_iff_getElem.mp hv
  have zG:i+k<xs.size:=by simp at hk;lia
  have ek:xs[i+k]? = some v:=by rw[iU zG,<-e,qK]
  have h1:=b3 (i+k) v (by lia) ek
  by_cases z:j=v
  ·exfalso
   subst z
   cases k with
   | zero=>exact hj ek
   | succ k =>
     have Cz:i<xs.size:=by lia
     have h2:=b3 i xs[i] (a7 _) (iU Cz)
     have h3:=List.pairwise_iff_getElem.mp eE i (i+(k+1)) (by simpa using Cz) (by simpa using zG) (by lia)
     rw[qK,qK] at h3
     have h4:xs[i+(k+1)]=j:=by rw[iU zG] at ek;exact iQ ek
     lia
  ·lia
 refine List.pairwise_append.mpr ⟨p1,List.pairwise_cons.mpr ⟨PX,p2⟩,λx hx y hy=>?_⟩
 rcases List.mem_cons.mp hy with e | e
 ·rw[e];exact zF x hx
 ·exact DA (zF x hx) (PX y e)
structure e9 (led:Bool) (t:cV):Prop where
 led:t.led=led
 i9:t.dummies=#[]
 up:t.plain=true->t.place.toList.Pairwise (·<·)
theorem e9.CA{led:Bool}{t:cV}(h:e9 led t)(n:Nat):e9 led (t.standIn n):=⟨h.led,rfl,λz=>by cases z⟩
theorem e9.a0e{led:Bool}{t:cV}(h:e9 led t)(n:Nat):e9 led (t.orStandIn n):=by
 unfold SetTable.orStandIn
 split
 ·exact h
 ·exact h.CA n
theorem CB{t:cV}(h:t.dummies=#[])(j:Nat):SR t.dummies j=false:=by rw[h];rfl
theorem PY{t:cV}(h:t.dummies=#[]){f:Nat->Int}{x:Int}:∀(fuel:Nat) (q:jh) {j:Nat} {d:Option Nat},q.dummy=none->nR t f x fuel q=some (.empty j d)->d=none/\t.slot j = .empty
 | 0,q,j,d,_,e=>by cases e
 | fuel+1,q,j,d,hq,e=>by
   unfold nR at e
   cases hs:t.slot q.j with
   | empty =>
     rw[hs] at e
     simp only[sE,SetTable.Met.empty.injEq] at e
     obtain⟨rfl,rfl⟩:=e
     exact⟨hq,hs⟩
   | dummy =>
     exfalso
     unfold Kv at hs
     rw[CB h] at hs
     dsimp only at hs
     split at hs
     ·cases hs
     ·simp at hs
   | live i =>
     rw[hs] at e
     dsimp only at e
     split at e
     ·cases e
     ·refine PY h fuel _ ?_ e
      unfold SetTable.advance
      split<;>exact hq
theorem e9.a0f{led:Bool}{t:cV}{x:Int}{j:Nat}{d:Bool}(h:e9 led t)(e:t.freeSlot x=some (j,d)):e9 led (t.put j).1:=by
 unfold SetTable.freeSlot at e
 cases hq:t.probe (λ_=>x+1) x (t.probeStart x) with
 | none=>rw[hq] at e;cases e
 | some m =>
   rw[hq] at e
   cases m with
   | candidate _ _ _=>cases e
   | empty j' d' =>
     obtain⟨rfl,hs⟩:=PY h.i9 _ _ rfl hq
     simp only[RV,sE,DB] at e
     obtain⟨rfl,_⟩:=e
     have hn:t.place[fc t.place j']? ≠ some j':=λz=>by
      unfold Kv at hs
      dsimp only at hs
      rw[z] at hs
      simp at hs
     refine⟨h.led,?_,λz=>PV (h.up z) hn⟩
     show(if SR t.dummies j' then _ else t.dummies)=#[]
     rw[CB h.i9,h.i9];rfl
theorem e9.a0g{led:Bool}{t:cV}(h:e9 led t)(es:Array (Int×Value))(x:Int)(v:Value):e9 led (layNew t es x v).2.1:=by
 unfold layNew
 cases hq:t.freeSlot x with
 | none=>exact h.CA _
 | some p =>
   obtain⟨j,d⟩:=p
   exact(h.a0f hq).a0e _
theorem w3s{mask finger moves:Nat}{led plain:Bool}{hs:Array Int}{t:cV}{o:Array Nat}(e:Kw mask finger moves led plain hs=some (t,o)):e9 led t:=by
 unfold Kw at e
 cases hq:SS mask hs with
 | none=>rw[hq] at e;cases e
 | some owner =>
   rw[hq] at e
   simp only[Option.bind_eq_bind,Option.bind_some,Option.pure_def,sE,DB] at e
   obtain⟨rfl,_⟩:=e
   refine⟨rfl,rfl,λ_=>?_⟩
   show(SU (·.1) ((bK (mask+1)).filterMap λj=>(owner.getD j none).map (j,·))).Pairwise (·<·)
   rw[Sr]
   refine List.pairwise_filterMap.mpr (List.pairwise_lt_range.imp λ{a b} mX x hx y hy=>?_)
   cases ha:owner.getD a none with
   | none=>rw[ha] at hx;cases hx
   | some u =>
     cases hb:owner.getD b none with
     | none=>rw[hb] at hy;cases hy
     | some w =>
       rw[ha] at hx;rw[hb] at hy
       cases hx;cases hy
       exact mX
theorem e9.a0h{led:Bool}{t:cV}(h:e9 led t)(es:Array (Int×Value))(n:Nat):e9 led (AF t es n).2.1:=by
 unfold AF
 cases hq:t.relaid (es.map (·.1)) n with
 | none=>exact h.CA _
 | some p =>
   obtain⟨t',o⟩:=p
   dsimp only
   split
   ·unfold a7b at hq
    have:=w3s hq
    rw[h.led] at this
    exact this
   ·exact h.CA _
theorem e9.a0i{led:Bool}{t:cV}(h:e9 led t):e9 led { t with plain:=false }:=⟨h.led,h.i9,λz=>by cases z⟩
section
variable {prog:aY}{w:aO}{A:Around}{E:Value->ai->Prop}{s:ai}
def i_(prog:aY)(w:aO)(led:Bool)(h:Heap)(a:Addr)(S:Int->Bool)(n:Nat):Prop :=
 ∃(o:Obj) (es:Array (Int×Value)) (ep:Nat) (t:cV),(h.get? a=some o/\o.ExactSet/\o.data = .set es ep t)/\(Kx (bD prog w) es.toList/\∀k,S k=true↔∃e∈es.toList,(bD prog w).is k e.2=true)/\(es.size<qL/\t.fits es.size=true/\es.size=n)/\e9 led t
theorem i_.dZ{led:Bool}{h h':Heap}{a:Addr}{S:Int->Bool}{n:Nat}(x:i_ prog w led h a S n)(e:∀o,h.get? a=some o->h'.get? a=some o):i_ prog w led h' a S n:=by
 obtain⟨o,es,ep,t,⟨q1,q2,q3⟩,rest⟩:=x
 exact⟨o,es,ep,t,⟨e o q1,q2,q3⟩,rest⟩
theorem i_.PZ{led:Bool}{h:Heap}{a:Addr}{S S':Int->Bool}{n n':Nat}(x:i_ prog w led h a S n)(e:∀k,S k=S' k)(en:n=n'):i_ prog w led h a S' n':=by
 have:S=S':=funext e
 subst this en
 exact x
theorem P0{led:Bool}{h:Heap}{a:Addr}{o:Obj}{es es':Array (Int×Value)}{ep:Nat}{t t':cV}{S':Int->Bool}(q1:h.get? a=some o)(q2:o.ExactSet)(q3:o.data = .set es ep t)
 (q4:Kx (bD prog w) es'.toList) (q5:∀k,S' k=true↔∃e∈es'.toList,(bD prog w).is k e.2=true) (q6:es'.size<qL) (q7:t'.fits es'.size=true) (q8:e9 led t') :
 (h.update a (o7 es' t')).get? a=some { o with data:=.set es' (ep+1) t' }/\i_ prog w led (h.update a (o7 es' t')) a S' es'.size:=by
 have g:=(SetOf_store (knd:=bD prog w) q1 q2 q3 q4 q5 q6 q7).1
 exact⟨g,_,es',ep+1,t',⟨g,q2,rfl⟩,⟨q4,q5⟩,⟨q6,q7,rfl⟩,q8⟩
theorem P1{led:Bool}{g:Bool->Sem Unit}(hg:∀(b:Bool) (s1:ai) (Q1:Unit->ai->Prop),Q1 () s1->ax (aF prog w) A (g b) Q1 E s1)
 {a:Addr} {o:Obj} {es c9:Array (Int×Value)} {ep:Nat} {t t2:cV} {S':Int->Bool} {i9:Bool} {Z:Option Bool->ai->Prop} (q1:s.heap.get? a=some o) (q2:o.ExactSet) (q3:o.data = .set es ep t)
 (q4:Kx (bD prog w) c9.toList) (q5:∀k,S' k=true↔∃e∈c9.toList,(bD prog w).is k e.2=true) (q6:c9.size<qL) (q7:t2.fits c9.size=true) (q8:e9 led t2)
 (z:∀h',qr a s.heap h'->i_ prog w led h' a S' c9.size->Z (some true) { s with heap:=h' }) :
 ax (aF prog w) A (do
  SV a c9 t2
  if (!i9&&t2.tooFull)=true then do
      g (AF t2 c9 (sH c9.size)).2.2
      SV a (AF t2 c9 (sH c9.size)).1 (AF t2 c9 (sH c9.size)).2.1
      pure (some true)
   else pure (some true)) Z E s:=by
 refine ay (Ky q1 q3 ?_ (Kz q6))
 obtain⟨u1,u2⟩:=P0 (prog:=prog) (w:=w) q1 q2 q3 q4 q5 q6 q7 q8
 have sb:=o8 s.heap a (o7 c9 t2)
 by_cases full:(!i9&&t2.tooFull)=true
 ·rw[if_pos full]
  have v1:=relayAll_perm t2 c9 (sH c9.size)
  have v2:=relayAll_fits t2 c9 (sH c9.size)
  have v3:=q8.a0h c9 (sH c9.size)
  generalize AF t2 c9 (sH c9.size)=W at v1 v2 v3 ⊢
  obtain⟨wj,t3,gave⟩:=W
  dsimp only at v1 v2 v3 ⊢
  have v4:wj.size=c9.size:=by rw[<-gK,v1.length_eq,gK]
  have v5:wj.size<qL:=by lia
  refine ay (hg _ _ _ ?_)
  refine ay (Ky u1 rfl ?_ (Kz v5))
  obtain⟨_,u3⟩:=P0 (prog:=prog) (w:=w) (S':=S') u1 q2 rfl (q4.perm v1) (λk=>(q5 k).trans ⟨λ⟨e,he,q⟩=>⟨e,v1.mem_iff.mpr he,q⟩,λ⟨e,he,q⟩=>⟨e,v1.mem_iff.mp he,q⟩⟩) v5 v2 v3
  rw[v4] at u3
  exact aM (z _ (sb.trans (o8 _ a _)) u3)
 ·rw[if_neg full]
  exact aM (z _ sb u2)
theorem a0j{led:Bool}{a:Addr}{S:Int->Bool}{n:Nat}{k:Int}{x:Value}{Q:Bool->ai->Prop}(hx:(bD prog w).is k x=true)(HB:x.scannable=true)(hS:i_ prog w led s.heap a S n)(room:n+1<qL)
 (z:∀h',qr a s.heap h'->i_ prog w led h' a (λk'=>S k'||decide (k'=k)) (if S k then n else n+1)->Q (!S k) { s with heap:=h' }) :
 ax (aF prog w) A (KA a x ((bD prog w).hash k)) Q E s:=by
 obtain⟨o,es,ep,t,⟨q1,q2,q3⟩,⟨q4,q5⟩,⟨q6,q7,q9⟩,q8⟩:=hS
 have more:es.size+1<qL:=by lia
 unfold KA a7c
 refine j9 (ay (o9 q1 q3 q7 ?_))
 dsimp only
 rw[byScan_of HB q6 q4]
 simp only[↓reduceIte]
 unfold setAddByScan
 refine ay (ay (Dy (ay (wpAny_setScan_of hx q1 q3 q7 q4 ?_))))
 cases hr:List.findIdx? (λe=>(bD prog w).is k e.2) es.toList with
 | some j =>
   dsimp only
   obtain⟨j1,j2,_⟩:=List.findIdx?_eq_some_iff_getElem.mp hr
   have sk:S k=true:=(q5 k).mpr ⟨es.toList[j],mw j1,j2⟩
   refine aM (aM ?_)
   have e:s={ s with heap:=s.heap }:=by cases s;rfl
   have y:=z s.heap (a7d a s.heap) ⟨o,es,ep,t,⟨q1,q2,q3⟩,⟨q4,λk'=>by
    rw[Kk,decide_eq_true_eq,<-q5 k']
    exact⟨λhk=>hk.elim id (λe=>e ▸ sk),.inl⟩⟩,⟨q6,q7,by rw[sk];exact q9⟩,q8⟩
   rw[sk] at y
   rw[e];exact y
 | none =>
   dsimp only
   have sk:S k=false:=by
    cases hk:S k with
    | false=>rfl
    | true =>
      obtain⟨e,he,hp⟩:=(q5 k).mp hk
      have:=List.findIdx?_eq_none_iff.mp hr e he
      rw[hp] at this;cases this
   have v1:=layNew_perm t es ((bD prog w).hash k) x
   have v2:=layNew_fits t es ((bD prog w).hash k) x
   have v3:=q8.a0g es ((bD prog w).hash k) x
   generalize layNew t es ((bD prog w).hash k) x=W at v1 v2 v3 ⊢
   obtain⟨c9,t1,i9,gave⟩:=W
   dsimp only at v1 v2 v3 ⊢
   rw[a7e] at v1
   have a0k:c9.size=n+1:=by rw[<-gK,v1.length_eq,fD,gK,q9];rfl
   have u4:Kx (bD prog w) c9.toList:=(q4.push hx HB).perm v1
   have u5:∀k',(S k'||decide (k'=k))=true↔∃e∈c9.toList,(bD prog w).is k' e.2=true:=mem_push_iff hx q5 v1
   have u6:c9.size<qL:=by lia
   have gw:∀(b:Bool) (s1:ai) (Q1:Unit->ai->Prop),Q1 () s1->ax (aF prog w) A (match b with | true=>rule "set.scan.the-table-gave-way" | false=>pure ()) Q1 E s1:=λb s1 Q1 hq=>by
    cases b
    ·exact aM hq
    ·exact Dy hq
   have fin:∀h',qr a s.heap h'->i_ prog w led h' a (λk'=>S k'||decide (k'=k)) c9.size->Q true { s with heap:=h' }:=λh' sb y=>by
    have y2:=z h' sb
    rw[sk] at y2
    rw[a0k] at y
    exact y2 y
   refine ay (gw _ _ _ ?_)
   by_cases pl:t1.plain=true
   ·rw[if_pos pl]
    refine ay ?_
    rw[hashByValue_scannable 8 HB]
    refine aM ?_
    have v2':(if plainKind x=true then t1 else { t1 with plain:=false }).fits c9.size=true:=by
     split
     ·exact v2
     ·exact SetTable.fits_plain_off v2
    have v3':e9 led (if plainKind x=true then t1 else { t1 with plain:=false }):=by
     split
     ·exact v3
     ·exact v3.a0i
    refine P1 gw q1 q2 q3 u4 u5 u6 v2' v3' ?_
    intro h' sb y
    exact aM (fin h' sb y)
   ·rw[if_neg pl]
    refine ay (aM ?_)
    simp only[↓reduceIte]
    refine P1 gw q1 q2 q3 u4 u5 u6 v2 v3 ?_
    intro h' sb y
    exact aM (fin h' sb y)
end
section
variable {prog:aY}{w:aO}{A:Around}{E:Value->ai->Prop}{s:ai}
def dC(w:aO):Bool:=!(w.params.followText "set-order")
theorem w1y{led:Bool}{Z:Ah->ai->Prop}{I:Addr}{fp wr:List Addr}{G:Array Ae->Array Ae->Prop}{n:Nat}{P:Nat->Value->Prop}{St:Nat->ai->Prop}(W:WalksS prog w A.in1 I fp wr G n P St)(a:Addr)(ha:a ∉ fp)
 (val:Nat->Int) (zH:∀i v,P i v->∃t,v = .int (val i) t) (hb:n+1<qL) :
 ∀(k i:Nat) (s:ai),n-i=k->i<=n->St i s->i_ prog w led s.heap a (λk'=>(nU val i).any (·==k')) (nU val i).length ->
  (∀s',Moved (a::wr) G s s'->i_ prog w led s'.heap a (λk'=>(nU val n).any (·==k')) (nU val n).length->Z (.ok (.ret .none)) s') ->
  nG (aF prog w) A (.builtin "set.update.loop" ⟨[.ref a,.ref I],[]⟩) Z s:=by
 have aw:a ∉ wr:=λh=>ha (W.sub _ h)
 have zI:∀b∈wr,b∈a::wr:=λb hb=>bL _ hb
 intro k
 induction k with
 | zero =>
   intro i s hk hi st hS hZ
   obtain rfl:i=n:=by lia
   refine qM KC ?_
   rw[xw AG _]
   show ax _ A.in1 (iR (.ref I)>>=_) _ _ s
   refine ay (W.done s _ _ st λs' mv=>?_)
   exact aM (hZ s' (mv.mono zI) (hS.dZ λo e=>mv.heap a o aw e))
 | succ k ih =>
   intro i s hk hi st hS hZ
   have lt:i<n:=by lia
   refine qM KC ?_
   rw[xw AG _]
   show ax _ A.in1 (iR (.ref I)>>=_) _ _ s
   refine ay (W.item i s _ _ lt st λv s' hP jQ mv=>?_)
   obtain⟨t,rfl⟩:=zH i v hP
   have HC:=hS.dZ λo e=>mv.heap a o aw e
   show ax _ A.in1 (Ar [lh (val i) t] (KD a (.int (val i) t))>>=_) _ _ s'
   refine ay (j9 ?_)
   unfold KD
   refine j9 (ay ((bD prog w).pyHash (k:=val i) (intKind_is _ _ _ _) ?_))
   refine a0j (s:={ s' with toks:=s'.toks+1 }) (intKind_is _ _ _ _) rfl HC (by have:=a7f val i;lia) λh' sb y=>?_
   have y':i_ prog w led h' a (λk'=>(nU val (i+1)).any (·==k')) (nU val (i+1)).length:=y.PZ (λk'=>by rw[SW,step_any]) (by rw[SW,step_length])
   refine aM ⟨DC AG _,ih (i+1) _ (by lia) lt (W.frame _ s' _ _ jQ (Nat.le_succ _) λb hb o e=>?_) y' λsT HD HE=>?_⟩
   ·rw[sb.2 b (λz:b=a=>ha (by rw[<-z];exact hb))];exact e
   ·refine hZ sT (Moved.trans W.gtrans ((mv.mono zI).then_heap (Nat.le_succ _) λb o hb e=>?_) HD) HE
    rw[sb.2 b (λz:b=a=>hb (by rw[z];exact bB))];exact e
theorem P2(v:Value){Q1:Value->ai->Prop}(q:Q1 (.ref s.heap.objs.size) { s with heap:=s.heap.push { cls:=.type "set",dict:=none,data:=.set #[] 0 (.fresh 0 0 (dC w)) } }) :
 nG (aF prog w) A (.call (.builtin "set.__new__") ⟨[.type "set",v],[]⟩) (DD Q1 E) s:=by
 refine KG (show ax _ A.in1 (do a7g "set.__new__" ⟨[.type "set",v],[]⟩;again (.builtin "set.__new__" ⟨[.type "set",v],[]⟩)) _ _ s from ?_)
 refine ay (SX (F.newCall_set_1 v) (aM ⟨DC a7h _,qM F.entry_set_new ?_⟩))
 rw[xw a7h _];unfold g9.«set.__new__» Builtin.Frozenset.newClass
 have CC:=sub_set_self
 obtain⟨hp,g,d,tk,os⟩:=s
 dsimp only
 wp_walk
 refine SY (aM ?_)
 dsimp only
 simp only[newObj]
 exact ay (wpAny_alloc (aM (aM q)))
end
section
variable {prog:aY}{w:aO}{A:Around}{E:Value->ai->Prop}{s:ai}
theorem w6t{led:Bool}{h:Heap}{a:Addr}(e:h.get? a=some { cls:=.type "set",dict:=none,data:=.set #[] 0 (.fresh 0 0 led) }):i_ prog w led h a (λ_=>false) 0 :=
 ⟨_,#[],0,_,⟨e,⟨rfl,rfl,rfl⟩,rfl⟩,⟨λe he=>by simp at he,λk=>by simp⟩,⟨by decide,by rfl,rfl⟩,⟨rfl,rfl,λ_=>.nil⟩⟩
theorem w0m{l:Addr}{items:Array Value}{ns:List Int}{Q:Value->ai->Prop}(hh:A.handled=none)(hl:s.heap.IsList l items)(hi:kF items.toList ns)(hb:items.size+1<qL)
 (q:∀(h':Heap) (tk:Nat),i_ prog w (dC w) h' s.heap.objs.size (λk'=>(nU (λi=>ns.getD i 0) items.size).any (·==k')) (nU (λi=>ns.getD i 0) items.size).length ->
   (∀b o,b<s.heap.objs.size->s.heap.get? b=some o->h'.get? b=some o)->Q (.ref s.heap.objs.size) { s with heap:=h',toks:=tk }) :
 ax (aF prog w) A (call (.type "set") [.ref l]) Q E s:=by
 obtain⟨c,tl,P4⟩:=F.called_set.mro
 have P5:=F.called_set.made;have CC:=F.called_set.sub
 refine Aw (KG (show ax _ _ (S0 (.type "set") _) _ _ _ from ?_))
 refine aM ⟨S4 _ (by decide +kernel),qM S8 ?_⟩;rw[S9 (S_ "set" [.ref l] []) rfl]
 have h1:=F.called_set.notType;have h2:=F.called_set.canCreate;have P6:=a7i (.ref l)
 (repeat (any_goals (first | assumption | wp_step)))
 refine oV (P2 (.ref l) (E:=E) (Q1:=λobj s1=>obj = .ref s.heap.objs.size/\s1={ s with heap:=s.heap.push { cls:=.type "set",dict:=none,data:=.set #[] 0 (.fresh 0 0 (dC w)) } }) ⟨rfl,rfl⟩) λr s1 hr=>?_
 cases r with
 | error e=>exact hr
 | ok fl =>
   cases fl with
   | ret obj =>
     obtain⟨rfl,rfl⟩:=hr
     have hS:(s.heap.push { cls:=.type "set",dict:=none,data:=.set #[] 0 (.fresh 0 0 (dC w)) }).get? s.heap.objs.size=some { cls:=.type "set",dict:=none,data:=.set #[] 0 (.fresh 0 0 (dC w)) }:=dQ _ rfl
     have hT:DE { s with heap:=s.heap.push { cls:=.type "set",dict:=none,data:=.set #[] 0 (.fresh 0 0 (dC w)) } } (.ref s.heap.objs.size) "set":=⟨_,hS,rfl⟩
     have P7:=F.called_set.init.lookup;have P8:=F.called_set.init.bind (.ref s.heap.objs.size)
     (repeat (any_goals (first | assumption | wp_step)))
     refine oV (KH (R:=DD (λr s2=>r = .none/\∃h' tk,s2={ s with heap:=h',toks:=tk } /\
      i_ prog w (dC w) h' s.heap.objs.size (λk'=>(nU (λi=>ns.getD i 0) items.size).any (·==k')) (nU (λi=>ns.getD i 0) items.size).length /\
      (∀b o,b<s.heap.objs.size->s.heap.get? b=some o->h'.get? b=some o)) E) F.called_set.init.plain a7j (a7k hT ?_)) λr2 s2 nv=>?_
     ·obtain⟨⟨a0l,HF,a0m,HG⟩,wx,uv,nl,zJ⟩:=hl
      simp only at uv zJ
      subst uv zJ
      have HH:(s.heap.push { cls:=.type "set",dict:=none,data:=.set #[] 0 (.fresh 0 0 (dC w)) }).get? l=some { cls:=.type "list",dict:=HF,data:=.seq items nl,slots:=HG }:=bP _ wx
      have a0n:=a7l;have a0o:=a7m
      have a8:(sg "list"==sg "dict")=false:=by decide
      have zK:(s.heap.push { cls:=.type "set",dict:=none,data:=.set #[] 0 (.fresh 0 0 (dC w)) }).IsList l items:=⟨_,HH,rfl,nl,rfl⟩
      unfold g9.«set.__init__» noKeywords a7n;generalize HI:qu=PI
      wp_walk
      subst HI
      refine xq zK (ay (Ta ?_))
      have zL:l<s.heap.objs.size:=bE wx
      have HJ:A.in1.in1.in1.handled=none:=by simp[hh]
      have HK:l≠(s.heap.push { cls:=.type "set",dict:=none,data:=.set #[] 0 (.fresh 0 0 (dC w)) }).objs.size:=by rw[iw];exact cN (uW zL)
      have HL:s.heap.objs.size ∉ [(s.heap.push { cls:=.type "set",dict:=none,data:=.set #[] 0 (.fresh 0 0 (dC w)) }).objs.size,l]:=by
       rw[iw];simp only[fF,nN,gN,or_false,not_or];exact⟨cN (qx _),mi zL⟩
      have zH:∀(i:Nat) (v:Value),items[i]? = some v->∃t,v = .int ((λi=>ns.getD i 0) i) t:=λi v hv=>hi.int_at i v (by rw[uX];exact hv)
      refine w1y (led:=dC w) ((SO HJ _ l HK items).toS) s.heap.objs.size HL (λi=>ns.getD i 0) zH hb (items.size-0) 0 _ (by lia) (iT _) ⟨⟨_,dQ _ rfl,rfl,rfl⟩,(zK.push _)⟩ ?_ ?_
      ·have hg:((s.heap.push { cls:=.type "set",dict:=none,data:=.set #[] 0 (.fresh 0 0 (dC w)) }).push { cls:=.type "list_iterator",data:=.fields #[.ref l,.int 0 0] }).get? s.heap.objs.size=some { cls:=.type "set",dict:=none,data:=.set #[] 0 (.fresh 0 0 (dC w)) }:=bP _ hS
       exact(w6t hg).PZ (λ_=>rfl) rfl
      ·intro s' mv y
       obtain⟨h',g',d',zM,kL⟩:=s'
       obtain rfl:g'=s.gens:=mv.gens
       obtain rfl:d'=s.drawn:=mv.drawn
       obtain rfl:kL=s.os:=mv.os
       show ax _ _ _ _ _ _
       refine aM (show ax _ _ (ret kE) _ _ _ from aM ⟨rfl,h',zM,rfl,y,λb o hb e=>?_⟩)
       have b1:b≠s.heap.objs.size:=cN hb
       have b2:b≠(s.heap.push { cls:=.type "set",dict:=none,data:=.set #[] 0 (.fresh 0 0 (dC w)) }).objs.size:=by rw[iw];exact cN (uW hb)
       exact mv.heap b o (by simp only[fF,nN,gN,or_false,not_or];exact⟨b1,b2⟩) (bP _ (bP _ e))
     ·cases r2 with
      | error e=>exact nv
      | ok zN =>
        cases zN with
        | ret r =>
          obtain⟨rfl,h',tk,rfl,y,keep⟩:=nv
          (repeat (any_goals (first | assumption | wp_step)))
          exact q _ _ y keep
        | _=>exact nv.elim
   | _=>exact hr.elim
end
theorem P9:Manifest.owners.lookup (String.ofList ['r','o','t','a','r','e','t','i','_','t','e','s'].reverse)=some Manifest.sig_set_iterator:=by kernel_rfl
theorem mh:Slot "set_iterator" "__next__" "set_iterator.__next__":=.of (owner:="set_iterator") (n:="__next__") (by rw[a7o,a7p];kernel_rfl) (by decide +kernel) (by decide +kernel) (by decide +kernel) (by first | exact .inl (by decide +kernel) | exact .inr (by decide +kernel)) (by rw[Tb];kernel_rfl)
theorem CD:Tc table "set_iterator.__next__"=some g9.«set_iterator.__next__»:=entryFor_of_tree (by kernel_rfl)
theorem CF(a:Value):AH "set_iterator.__next__" ⟨[a],[]⟩:=by unfold AH;rw[Td (id:="set_iterator.__next__") (n:=['_','_','t','x','e','n','_','_']) (o:=['r','o','t','a','r','e','t','i','_','t','e','s']) (by kernel_rfl) P9];kernel_rfl
theorem CG:Slot "set_iterator" "__iter__" "set_iterator.__iter__":=.of (owner:="set_iterator") (n:="__iter__") (by rw[a7o,a7p];kernel_rfl) (by decide +kernel) (by decide +kernel) (by decide +kernel) (by first | exact .inl (by decide +kernel) | exact .inr (by decide +kernel)) (by rw[Tb];kernel_rfl)
theorem P_:Tc table "set_iterator.__iter__"=some g9.«dict_keyiterator.__iter__»:=a7q (id':="dict_keyiterator.__iter__") (by kernel_rfl) rfl (by decide +kernel) (by kernel_rfl)
theorem Qa(a:Value):AH "set_iterator.__iter__" ⟨[a],[]⟩:=by unfold AH;rw[Td (id:="set_iterator.__iter__") (n:=['_','_','r','e','t','i','_','_']) (o:=['r','o','t','a','r','e','t','i','_','t','e','s']) (by kernel_rfl) P9];kernel_rfl
theorem y4a:Tc table "set.__iter__"=some g9.«frozenset.__iter__»:=a7q (id':="frozenset.__iter__") (by kernel_rfl) rfl (by decide +kernel) (by kernel_rfl)
def k_(h:Heap)(it a:Addr)(f:Value)(i n ep:Nat):Prop:=∃o,h.get? it=some o/\o.cls = .type "set_iterator"/\o.data = .fields #[f,.int i 0,.ref a,.int n 0,.int ep 0]
theorem k_.kD{s:ai}{it a:Addr}{f:Value}{i n ep:Nat}(x:k_ s.heap it a f i n ep):s.TypeIs (.ref it) "set_iterator":=let ⟨o,ho,hc,_⟩:=x;⟨o,ho,hc⟩
theorem k_.dZ{h h':Heap}{it a:Addr}{f:Value}{i n ep:Nat}(x:k_ h it a f i n ep)(e:∀o,h.get? it=some o->h'.get? it=some o):k_ h' it a f i n ep:=let ⟨o,ho,r⟩:=x;⟨o,e _ ho,r⟩
def gX(h:Heap)(a:Addr)(es:Array (Int×Value))(ep:Nat)(t:cV):Prop:=∃o,h.get? a=some o/\o.ExactSet/\o.data = .set es ep t/\t.fits es.size=true
theorem gX.dZ{h h':Heap}{a:Addr}{es:Array (Int×Value)}{ep:Nat}{t:cV}(x:gX h a es ep t)(e:∀o,h.get? a=some o->h'.get? a=some o):gX h' a es ep t:=let ⟨o,ho,r⟩:=x;⟨o,e _ ho,r⟩
section
variable {prog:aY}{w:aO}{A:Around}{E:Value->ai->Prop}{s:ai}
theorem CH{Q:Bool->ai->Prop}(q:Q (w.params.followText "set-order") s):ax (aF prog w) A setsByText Q E s:=by
 unfold setsByText
 exact ay (SY (aM q))
theorem Qb{it:Addr}{Q:Option Value->ai->Prop}{h1:Heap}(hh:A.handled=none)(q:∀h',(∀b o,h1.get? b=some o->h'.get? b=some o)->Q none { s with heap:=h' }) :
 ax (aF prog w) A.in1 (do raiseNew (<-newExc (.type "StopIteration") []):Sem Fin) (λ_ _=>False) (λe s'=>ax (aF prog w) A (do if <-isInstance e (.type "StopIteration") then pure none else throw e) Q E s') { s with heap:=h1 }:=by
 refine ay ?_
 simp only[newExc,newTuple]
 refine ay (oR ?_ (by size_fits))
 refine ay (m:=a7r _ _) (SX (a:=kE) (by first | rfl | (simp only[a7r];rfl)) (oR ?_ (by size_fits)))
 simp only[raiseNew]
 refine ay (wpAny_handled ?_);rw[show A.in1.handled=none from hh]
 refine ay (aM (wpAny_throw ?_));refine ay (Tf (T:="StopIteration") (b:=true) ⟨_,dQ _ rfl,rfl⟩ a7s ?_)
 exact aM (q _ λb o e=>bP _ (bP _ e))
theorem x5k{it a:Addr}{slot i n ep nx:Nat}{es:Array (Int×Value)}{t:cV}{x:Value}{Q:Option Value->ai->Prop}(hit:k_ s.heap it a (.int slot 0) i n ep)(hS:gX s.heap a es ep t)(hn:es.size=n)
 (r6:∀(B:Around) (E':Value->ai->Prop) (Q':Option (Value×Nat)->ai->Prop),Q' (some (x,nx)) s->ax (aF prog w) B (qN a slot i ep) Q' E' s)
 (q:∀h',k_ h' it a (.int nx 0) (i+1) n ep->qr it s.heap h'->Q (some x) { s with heap:=h' }):ax (aF prog w) A (iR (.ref it)) Q E s:=by
 obtain⟨o,ho,hc,hd⟩:=id hit
 obtain⟨oS,fT,hex,iN,hf⟩:=id hS
 unfold iR
 refine ay (AI (uF (name:=cU "__next__") hit.kD mh (nM mh hit.kD CD ?_ (CF _))))
 unfold g9.«set_iterator.__next__» DF
 simp only[DG,o_,gM,↓reduceIte,bind_assoc,uM,bne_self_eq_false,pure_bind]
 refine ay (KI ho hd ?_)
 dsimp only
 refine ay (DH fT iN hf ?_)
 rw[if_neg (by rw[hn];simp)]
 refine ay (r6 _ _ _ ?_)
 dsimp only
 refine ay (xt ho hd (by simp) ?_)
 have g1:=sA (xr (·.setIfInBounds 0 (rawInt (nx:Int)))) ho (Dx (qJ hd _))
 have d1:=qJ hd (·.setIfInBounds 0 (rawInt (nx:Int)))
 refine ay (xt (s:={ s with heap:=s.heap.update it (xr (·.setIfInBounds 0 (rawInt (nx:Int)))) }) g1 d1 (by simp) ?_)
 have g2:=sA (xr (·.setIfInBounds 1 (rawInt ((i:Int)+1)))) g1 (Dx (qJ d1 _))
 refine aM ⟨_,rfl,aM (q _ ⟨_,g2,?_,?_⟩ ((o8 ..).trans (o8 ..)))⟩
 ·exact(Tg ..).trans ((Tg ..).trans hc)
 ·rw[qJ d1];simp[rawInt]
theorem x9z{it a:Addr}{slot i n ep:Nat}{es:Array (Int×Value)}{t:cV}{Q:Option Value->ai->Prop}(hh:A.handled=none)(hit:k_ s.heap it a (.int slot 0) i n ep)(hS:gX s.heap a es ep t)(hn:es.size=n)
 (r6:∀(B:Around) (E':Value->ai->Prop) (Q':Option (Value×Nat)->ai->Prop),Q' none s->ax (aF prog w) B (qN a slot i ep) Q' E' s)
 (q:∀h',Heap.ExtBut it s.heap h'->Q none { s with heap:=h' }):ax (aF prog w) A (iR (.ref it)) Q E s:=by
 obtain⟨o,ho,hc,hd⟩:=id hit
 obtain⟨oS,fT,hex,iN,hf⟩:=id hS
 unfold iR
 refine ay (AI (uF (name:=cU "__next__") hit.kD mh (nM mh hit.kD CD ?_ (CF _))))
 unfold g9.«set_iterator.__next__» DF
 simp only[DG,o_,gM,↓reduceIte,bind_assoc,uM,bne_self_eq_false,pure_bind]
 refine ay (KI ho hd ?_)
 dsimp only
 refine ay (DH fT iN hf ?_)
 rw[if_neg (by rw[hn];simp)]
 refine ay (r6 _ _ _ ?_)
 dsimp only
 refine ay (xt ho hd (by simp) ?_)
 refine aC (Qb (it:=it) hh λh' k=>q h' λb o hb e=>?_) (λ_ _ z=>z.elim) λ_ _ z=>z
 exact k b o ((o8 ..).extBut b o hb e)
end
theorem At.a0p{xs:Array Nat}{j i i':Nat}(h:At xs j i)(h':At xs j i'):i=i':=by
 obtain⟨a1,a2,a3⟩:=h
 obtain⟨b1,b2,b3⟩:=h'
 rcases uN i i' with z | z | z
 ·have lt:i<xs.size:=by lia
  have e:=iU lt
  have:=b2 i _ z e
  have:=a3 i _ (a7 _) e
  lia
 ·exact z
 ·have lt:i'<xs.size:=by lia
  have e:=iU lt
  have:=a2 i' _ z e
  have:=b3 i' _ (a7 _) e
  lia
def wy(p:Array Nat):Nat->Nat
 | 0=>0
 | i+1=>(p[i]?).getD 0+1
theorem Qc{p:Array Nat}(eE:p.toList.Pairwise (·<·)){i:Nat}(hi:i<=p.size):fc p (wy p i)=i:=by
 refine(HA eE _).a0p ⟨hi,?_⟩
 have mono:∀(a b va vb:Nat),a<b->p[a]? = some va->p[b]? = some vb->va<vb:=λa b va vb mX ea eb=>by
  obtain⟨ha,Hy⟩:=Array.getElem?_eq_some_iff.mp ea
  obtain⟨hb,Hz⟩:=Array.getElem?_eq_some_iff.mp eb
  have:=List.pairwise_iff_getElem.mp eE a b (by simpa using ha) (by simpa using hb) mX
  rw[qK,qK,Hy,Hz] at this
  exact this
 cases i with
 | zero=>exact⟨λk v hk=>absurd hk (jK _),λk v _ _=>iT _⟩
 | succ i =>
   have lt:i<p.size:=by lia
   have e:=iU lt
   have es:wy p (i+1)=p[i]+1:=by rw[wy,e];rfl
   rw[es]
   refine⟨λk v hk ek=>?_,λk v hk ek=>?_⟩
   ·rcases cG k i with z | z
    ·have:=mono k i v _ z ek e;lia
    ·have:k=i:=by lia
     rw[this,e] at ek;cases ek;lia
   ·have:=mono i k _ v (by lia) e ek;lia
theorem HM{α:Type}:∀(l:List α) (i:Nat) (x:α),l[i]? = some x->l.Perm (x::l.eraseIdx i)
 | [],i,x,h=>by simp at h
 | y::l,0,x,h=>by simp at h;subst h;exact .refl _
 | y::l,i+1,x,h=>by
   have ih:=HM l i x (by simpa using h)
   rw[List.eraseIdx_cons_succ]
   exact(J4 y ih).trans (List.Perm.swap x y _)
theorem Qd{α:Type}(nx:Nat->Nat):∀(fuel k:Nat) (left:List α) (out:Array α),left.length<=fuel->(pickOrder.go nx fuel k left out).toList.Perm (out.toList++left)
 | 0,k,left,out,h=>by
   have:left=[]:=List.length_eq_zero_iff.mp (by lia)
   subst this
   rw[lu];exact .refl _
 | fuel+1,k,left,out,h=>by
   unfold pickOrder.go
   cases hq:left[nx k%left.length]? with
   | none =>
     cases left with
     | nil=>simp
     | cons x l =>
       have:=List.getElem?_eq_none_iff.mp hq
       have:=uT (nx k) (show 0<(x::l).length by simp)
       lia
   | some x =>
     obtain⟨a_,ex⟩:=List.getElem?_eq_some_iff.mp hq
     have hl:(left.eraseIdx (nx k%left.length)).length<=fuel:=by rw[a7t a_];lia
     refine(Qd nx fuel (k+1) _ (out.push x) hl).trans ?_
     rw[a7e,uG]
     refine List.Perm.append_left _ ?_
     exact(HM left _ x hq).symm
theorem y4d{α:Type}(nx:Nat->Nat)(xs:Array α):(DI nx xs).toList.Perm xs.toList:=Qd nx xs.size 0 xs.toList #[] (by simp)
section
variable {prog:aY}{w:aO}{A:Around}{E:Value->ai->Prop}{s:ai}
theorem Qe{a:Addr}{slot i ep:Nat}{es:Array (Int×Value)}{t:cV}{Q:Option (Value×Nat)->ai->Prop}(hb:w.params.followText "set-order"=true)(hS:gX s.heap a es ep t)
 (q:Q (((DI (w.params.setOrder a ep) es)[i]?).map λe=>(e.2,slot)) s):ax (aF prog w) A (qN a slot i ep) Q E s:=by
 obtain⟨oS,fT,hex,iN,hf⟩:=hS
 unfold qN
 refine ay (o9 fT iN hf ?_)
 dsimp only
 refine ay (CH ?_)
 rw[hb]
 simp only[↓reduceIte,bne_self_eq_false,gM]
 refine ay ?_
 unfold setWalk
 refine ay (o9 fT iN hf ?_)
 dsimp only
 refine ay (CH ?_)
 rw[hb]
 simp only[↓reduceIte]
 exact ay (SY (aM (aM q)))
theorem Qf{a:Addr}{slot i ep:Nat}{es:Array (Int×Value)}{t:cV}{Q:Option (Value×Nat)->ai->Prop}(hb:w.params.followText "set-order"=false)(hS:gX s.heap a es ep t)(hl:t.led=true)(hd:(!t.plain&&decide (es.size>1))=false)
 (q:Q (match es[fc t.place slot]?,t.place[fc t.place slot]? with | some (_,x),some j=>some (x,j+1) | _,_=>none) s):ax (aF prog w) A (qN a slot i ep) Q E s:=by
 obtain⟨oS,fT,hex,iN,hf⟩:=hS
 unfold qN
 refine ay (o9 fT iN hf ?_)
 dsimp only
 refine ay (CH ?_)
 rw[hb]
 simp only[gM,↓reduceIte]
 show ax _ _ (if (!t.plain&&decide (es.size>1))=true then _ else _) _ _ s
 rw[hd]
 simp only[gM,↓reduceIte]
 refine ay ?_
 show ax _ _ (if (!t.led&&!es.isEmpty)=true then _ else _) _ _ s
 rw[hl]
 simp only[o_,a4n,gM,↓reduceIte]
 exact aM (aM q)
theorem x8c(hh:A.handled=none){it a:Addr}(a8:a≠it){n ep:Nat}{es:Array (Int×Value)}{t:cV}(hn:es.size=n)(sl:Nat->Nat)(vals:List Value)(hv:vals.length=n)
 (hi:∀i x,vals[i]? = some x->∀(B:Around) (E':Value->ai->Prop) (s:ai) (Q':Option (Value×Nat)->ai->Prop),gX s.heap a es ep t->Q' (some (x,sl (i+1))) s->ax (aF prog w) B (qN a (sl i) i ep) Q' E' s)
 (he:∀(B:Around) (E':Value->ai->Prop) (s:ai) (Q':Option (Value×Nat)->ai->Prop),gX s.heap a es ep t->Q' none s->ax (aF prog w) B (qN a (sl n) n ep) Q' E' s) :
 Walks prog w A it [it,a] [it] n (λi v=>vals[i]? = some v) (λi h=>k_ h it a (.int (sl i) 0) i n ep/\gX h a es ep t) where
 sub:=λb hb=>by simp at hb;simp[hb]
 frame:=λ_ _ _ st hk=>⟨st.1.dZ λo e=>hk it (by simp) o e,st.2.dZ λo e=>hk a (by simp) o e⟩
 item:=λi s Q E a_ st hQ=>by
  have hx:vals[i]? = some vals[i]:=cf (by lia)
  refine x5k st.1 st.2 hn (λB E' Q' q=>hi i _ hx B E' s Q' st.2 q) λh' y sb=>?_
  exact hQ _ h' s.toks hx ⟨y,st.2.dZ λo e=>sb.extBut a o a8 e⟩ λb o hb e=>sb.extBut b o (λz=>hb (by simp[z])) e
 done:=λs Q E st hQ=>x9z hh st.1 st.2 hn (λB E' Q' q=>he B E' s Q' st.2 q) λh' k=>hQ h' s.toks λb o hb e=>k b o (λz=>hb (by simp[z])) e
 self:=λi s Q E st hQ=>by
  refine Th st.1.kD CG (nM CG st.1.kD P_ ?_ (Qa _))
  show ax _ _ (ret (.ref it)) _ _ s
  exact aM ⟨_,rfl,"set_iterator",_,st.1.kD,mh.lookup,hQ⟩
end
section
variable {prog:aY}{w:aO}{A:Around}{E:Value->ai->Prop}{s:ai}
def wz(h:Heap)(T:Addr)(ps:List Nat):Prop:=∃o k,h.get? T=some o/\o.data = .seq (ps.map λ(p:Nat)=>rawInt (p:Int)).toArray k
theorem wz.dZ{h h':Heap}{T:Addr}{ps:List Nat}(x:wz h T ps)(e:∀o,h.get? T=some o->h'.get? T=some o):wz h' T ps:=let ⟨o,k,ho,r⟩:=x;⟨o,k,e _ ho,r⟩
theorem x2v{it a T:Addr}{i n ep p:Nat}{ps:List Nat}{es:Array (Int×Value)}{t:cV}{hx:Int}{x:Value}{Q:Option Value->ai->Prop}(hit:k_ s.heap it a (.ref T) i n ep)(hS:gX s.heap a es ep t)(hT:wz s.heap T ps)(hn:es.size=n)(hp:ps[i]? = some p)(qZ:es[p]? = some (hx,x))
 (q:∀h',k_ h' it a (.ref T) (i+1) n ep->qr it s.heap h'->Q (some x) { s with heap:=h' }):ax (aF prog w) A (iR (.ref it)) Q E s:=by
 obtain⟨o,ho,hc,hd⟩:=id hit
 obtain⟨oS,fT,hex,iN,hf⟩:=id hS
 obtain⟨oT,k,HN,HP⟩:=hT
 unfold iR
 refine ay (AI (uF (name:=cU "__next__") hit.kD mh (nM mh hit.kD CD ?_ (CF _))))
 unfold g9.«set_iterator.__next__» DF
 simp only[DG,o_,gM,↓reduceIte,bind_assoc,uM,bne_self_eq_false,pure_bind]
 refine ay (KI ho hd ?_)
 dsimp only
 refine ay (DH fT iN hf ?_)
 rw[if_neg (by rw[hn];simp)]
 refine ay (KJ HN HP ?_)
 have HR:((ps.map λ(p:Nat)=>rawInt (p:Int)).toArray)[(i:Int).toNat]? = some (.int (p:Int) 0):=by
  rw[mq,a7u,cm,hp];rfl
 dsimp only
 rw[HR]
 dsimp only
 refine ay ?_
 unfold setNextDrawn
 refine ay (o9 fT iN hf ?_)
 dsimp only
 simp only[mq,bne_self_eq_false,gM,↓reduceIte,qZ]
 refine aM (ay (xt ho hd (by simp) ?_))
 have g1:=sA (xr (·.setIfInBounds 1 (rawInt ((i:Int)+1)))) ho (Dx (qJ hd _))
 refine aM ⟨_,rfl,aM (q _ ⟨_,g1,(Tg ..).trans hc,?_⟩ (o8 ..))⟩
 rw[qJ hd];simp[rawInt]
theorem x7a{it a T:Addr}{i n ep:Nat}{ps:List Nat}{es:Array (Int×Value)}{t:cV}{Q:Option Value->ai->Prop}(hh:A.handled=none)(hit:k_ s.heap it a (.ref T) i n ep)(hS:gX s.heap a es ep t)(hT:wz s.heap T ps)(hn:es.size=n)(hp:ps[i]? = none)
 (q:∀h',Heap.ExtBut it s.heap h'->Q none { s with heap:=h' }):ax (aF prog w) A (iR (.ref it)) Q E s:=by
 obtain⟨o,ho,hc,hd⟩:=id hit
 obtain⟨oS,fT,hex,iN,hf⟩:=id hS
 obtain⟨oT,k,HN,HP⟩:=hT
 unfold iR
 refine ay (AI (uF (name:=cU "__next__") hit.kD mh (nM mh hit.kD CD ?_ (CF _))))
 unfold g9.«set_iterator.__next__» DF
 simp only[DG,o_,gM,↓reduceIte,bind_assoc,uM,bne_self_eq_false,pure_bind]
 refine ay (KI ho hd ?_)
 dsimp only
 refine ay (DH fT iN hf ?_)
 rw[if_neg (by rw[hn];simp)]
 refine ay (KJ HN HP ?_)
 have HR:((ps.map λ(p:Nat)=>rawInt (p:Int)).toArray)[(i:Int).toNat]? = none:=by
  rw[mq,a7u,cm,hp];rfl
 dsimp only
 rw[HR]
 dsimp only
 refine ay (xt ho hd (by simp) ?_)
 have g1:=sA (xr (·.setIfInBounds 0 (rawInt 0))) ho (Dx (qJ hd _))
 refine ay (xt (s:={ s with heap:=s.heap.update it (xr (·.setIfInBounds 0 (rawInt 0))) }) g1 (qJ hd _) (by simp) ?_)
 refine aC (Qb (it:=it) hh λh' k=>q h' λb o hb e=>?_) (λ_ _ z=>z.elim) λ_ _ z=>z
 exact k b o ((o8 ..).extBut b o hb ((o8 ..).extBut b o hb e))
theorem x3p(hh:A.handled=none){it a T:Addr}(a8:a≠it)(hnT:T≠it){n ep:Nat}{ps:List Nat}{es:Array (Int×Value)}{t:cV}(hn:es.size=n)(hps:ps.length=n)(a_:∀p∈ps,p<n) :
 Walks prog w A it [it,a,T] [it] n (λi v=>(ps.filterMap λp=>(es[p]?).map (·.2))[i]? = some v) (λi h=>k_ h it a (.ref T) i n ep/\gX h a es ep t/\wz h T ps) where
 sub:=λb hb=>by simp at hb;simp[hb]
 frame:=λ_ _ _ st hk=>⟨st.1.dZ λo e=>hk it (by simp) o e,st.2.1.dZ λo e=>hk a (by simp) o e,st.2.2.dZ λo e=>hk T (by simp) o e⟩
 item:=λi s Q E hi st hQ=>by
  have hp:ps[i]? = some ps[i]:=cf (by lia)
  have CI:=a_ _ (mw (l:=ps) (n:=i) (by lia))
  have hx:es[ps[i]]? = some es[ps[i]]:=iU (by lia)
  have hv:(ps.filterMap λp=>(es[p]?).map (·.2))[i]? = some es[ps[i]].2:=by
   have:ps.filterMap (λp=>(es[p]?).map (·.2))=ps.map λp=>((es[p]?).map (·.2)).getD .none:=by
    clear hp CI hx st hQ hps hi
    induction ps with
    | nil=>rfl
    | cons p ps ih =>
      have hp:=a_ p bB
      rw[wV,iU (show p<es.size by lia),cJ,ih λq hq=>a_ q (bL _ hq)]
      simp[iU (show p<es.size by lia)]
   rw[this,cm,hp]
   simp[hx]
  refine x2v (x:=es[ps[i]].2) (hx:=es[ps[i]].1) st.1 st.2.1 st.2.2 hn hp hx λh' y sb=>?_
  exact hQ _ h' s.toks hv ⟨y,st.2.1.dZ λo e=>sb.extBut a o a8 e,st.2.2.dZ λo e=>sb.extBut T o hnT e⟩ λb o hb e=>sb.extBut b o (λz=>hb (by simp[z])) e
 done:=λs Q E st hQ=>x7a hh st.1 st.2.1 st.2.2 hn (by simp;lia) λh' k=>hQ h' s.toks λb o hb e=>k b o (λz=>hb (by simp[z])) e
 self:=λi s Q E st hQ=>by
  refine Th st.1.kD CG (nM CG st.1.kD P_ ?_ (Qa _))
  show ax _ _ (ret (.ref it)) _ _ s
  exact aM ⟨_,rfl,"set_iterator",_,st.1.kD,mh.lookup,hQ⟩
theorem x1w{n:Nat}{Q:Nat->ai->Prop}(hn:n≠0)(q:∀k d,k<n->Q k { s with drawn:=d }):ax (aF prog w) A (choose .order n) Q E s:=by
 intro Γ p GH
 show Sem.wp _ _ (.choose .order n _) _ _ _ _
 rw[Sem.wp_choose]
 refine⟨hn,?_⟩
 exact q _ _ (uT _ (Nat.pos_of_ne_zero hn))
theorem Qg:∀(n:Nat) (xs:List Nat) (s:ai) {Q:List Nat->ai->Prop},xs.length=n->(∀ys d,ys.Perm xs->Q ys { s with drawn:=d })->ax (aF prog w) A (Ti n xs) Q E s
 | 0,xs,s,Q,hl,q=>by
   have:xs=[]:=List.length_eq_zero_iff.mp hl
   subst this
   unfold Ti
   have e:s={ s with drawn:=s.drawn }:=by cases s;rfl
   exact aM (by rw[e];exact q [] s.drawn (.refl _))
 | n+1,[],s,Q,hl,q=>by simp at hl
 | n+1,x::xs,s,Q,hl,q=>by
   unfold Ti
   refine ay (x1w (by simp) λk d hk=>?_)
   have hx:(x::xs)[k]? = some (x::xs)[k]:=cf hk
   rw[hx]
   dsimp only
   refine ay (Qg n _ _ (by rw[a7t hk];lia) λys d' hp=>?_)
   exact aM (q _ d' ((J4 _ hp).trans (HM _ _ _ hx).symm))
end
section
variable {prog:aY}{w:aO}{A:Around}{E:Value->ai->Prop}{s:ai}
theorem w3y{a:Addr}{es:Array (Int×Value)}{ep n:Nat}{t:cV}{Q:Value->ai->Prop}(hS:gX s.heap a es ep t)(hn:es.size=n)(hk:e9 (dC w) t)(hz:n<=4096)
 (q:∀(it:Addr) (h':Heap) (d:CZ) (vals:List Value) (fp:List Addr) (St:Nat->Heap->Prop),s.heap.objs.size<=it->(∀b o,s.heap.get? b=some o->h'.get? b=some o)->(∀A':Around,A'.handled=none->Walks prog w A' it fp [it] n (λi v=>vals[i]? = some v) St)->St 0 h'->(∀b∈fp,b=a∨s.heap.objs.size<=b)->(∀b∈fp,b<h'.objs.size)->vals.length=n->vals.Perm (es.toList.map (·.2))->Q (.ref it) { s with heap:=h',drawn:=d }) :
 ax (aF prog w) A (qu (.ref a)) Q E s:=by
 obtain⟨oS,fT,hex,iN,hf⟩:=id hS
 have hT:s.TypeIs (.ref a) "set":=⟨oS,fT,hex.1⟩
 have halt:a<s.heap.objs.size:=bE fT
 refine Th hT a7v (nM a7v hT y4a ?_ (F.args_set_iter_1 _))
 unfold g9.«frozenset.__iter__» Builtin.Frozenset.slot0 DF
 simp only[DG,o_,gM,↓reduceIte,bind_assoc,uM,bne_self_eq_false,pure_bind]
 unfold Builtin.Frozenset.addrOf Builtin.Frozenset.sizeOf
 refine ay (aM ?_)
 try dsimp only
 refine ay (ay (DH fT iN hf (aM ?_)))
 refine ay ?_
 unfold setDrawn
 refine ay (o9 fT iN hf ?_)
 dsimp only
 refine ay (CH ?_)
 refine aM ?_
 show ax _ _ (if (!w.params.followText "set-order"&&(!t.plain&&decide (es.size>1)))=true then _ else _) _ _ s
 have fM:t.place.size=n:=by
  have:=hf
  simp only[SetTable.fits,jf,beq_iff_eq] at this
  lia
 have slot:∀(sl:Nat->Nat) (vals:List Value),vals.length=n->vals.Perm (es.toList.map (·.2))->sl 0=0 ->
  (∀i x,vals[i]? = some x->∀(B:Around) (E':Value->ai->Prop) (s:ai) (Q':Option (Value×Nat)->ai->Prop),gX s.heap a es ep t->Q' (some (x,sl (i+1))) s->ax (aF prog w) B (qN a (sl i) i ep) Q' E' s) ->
  (∀(B:Around) (E':Value->ai->Prop) (s:ai) (Q':Option (Value×Nat)->ai->Prop),gX s.heap a es ep t->Q' none s->ax (aF prog w) B (qN a (sl n) n ep) Q' E' s) ->
  Q (.ref s.heap.objs.size) { s with heap:=s.heap.push { cls:=.type "set_iterator",data:=.fields #[.int 0 0,.int 0 0,.ref a,.int n 0,.int ep 0] } }:=λsl vals hv hp h0 hi he=>by
  have e:s={ s with drawn:=s.drawn }:=by cases s;rfl
  have y:=q s.heap.objs.size (s.heap.push { cls:=.type "set_iterator",data:=.fields #[.int 0 0,.int 0 0,.ref a,.int n 0,.int ep 0] }) s.drawn vals _ _ (a7 _) (λb o e=>bP _ e) (λA' hh=>x8c hh (it:=s.heap.objs.size) (cN halt) hn sl vals hv hi he) ⟨⟨_,dQ _ rfl,rfl,by rw[h0];rfl⟩,hS.dZ λo e=>bP _ e⟩ (λb hb=>by
   simp only[fF,gN,or_false] at hb
   rcases hb with rfl | rfl
   ·exact .inr (a7 _)
   ·exact .inl rfl) (λb hb=>by
   rw[iw]
   simp only[fF,gN,or_false] at hb
   rcases hb with rfl | rfl
   ·exact qx _
   ·exact uW halt) hv hp
  exact y
 have mk:Q (.ref s.heap.objs.size) { s with heap:=s.heap.push { cls:=.type "set_iterator",data:=.fields #[.int 0 0,.int 0 0,.ref a,.int n 0,.int ep 0] } } ->
  ax (aF prog w) A.in1 (do
   ret (<-newFields "set_iterator" [rawInt 0,rawInt 0,.ref a,rawInt (es.size:Int),rawInt (<-setEpoch a)])) (λfin s'=>∃r,fin=Fin.done (Flow.ret r)/\∃T' r',s'.TypeIs r T'/\RQ (.type T') "__next__"=pure (some r')/\Q r s') E s:=λhq=>by
  refine ay (a7w fT iN hf ?_)
  refine ay (oR (aM ⟨_,rfl,"set_iterator",_,⟨_,dQ _ rfl,rfl⟩,mh.lookup,?_⟩))
  rw[hn];exact hq
 cases hb:w.params.followText "set-order" with
 | true =>
   rw[if_neg (by simp)]
   have p:=y4d (w.params.setOrder a ep) es
   refine mk (slot (λ_=>0) ((DI (w.params.setOrder a ep) es).toList.map (·.2)) ?_ (p.map _) rfl (λi x hx B E' s Q' y q'=>Qe hb y ?_) λB E' s Q' y q'=>Qe hb y ?_)
   ·rw[bu,p.length_eq,gK,hn]
   ·rw[cm,uX] at hx
    cases hq:(DI (w.params.setOrder a ep) es)[i]? with
    | none=>rw[hq] at hx;cases hx
    | some e=>rw[hq] at hx;cases hx;exact q'
   ·have:(DI (w.params.setOrder a ep) es)[n]? = none:=by
     rw[Array.getElem?_eq_none_iff]
     have:=p.length_eq
     rw[gK,gK] at this
     lia
    rw[this];exact q'
 | false =>
   have Qh:t.led=true:=by rw[hk.led];unfold dC;rw[hb];rfl
   cases hd:(!t.plain&&decide (es.size>1)) with
   | false =>
     rw[if_neg (by simp)]
     have eE:t.place.toList.Pairwise (·<·):=by
      cases CI:t.plain with
      | true=>exact hk.up CI
      | false =>
        rw[CI] at hd
        have h1:¬es.size>1:=by simpa using hd
        match hm:t.place.toList,(show t.place.toList.length<=1 by rw[gK];lia) with
        | [],_=>exact .nil
        | [x],_=>exact a5u _ _
        | _::_::_,h=>simp at h
     refine mk (slot (wy t.place) (es.toList.map (·.2)) (by rw[bu,gK,hn]) (.refl _) rfl (λi x hx B E' s Q' y q'=>Qf hb y Qh hd ?_) λB E' s Q' y q'=>Qf hb y Qh hd ?_)
     ·rw[cm,uX] at hx
      cases hq:es[i]? with
      | none=>rw[hq] at hx;cases hx
      | some e =>
        rw[hq] at hx
        cases hx
        have hi:i<es.size:=(Array.getElem?_eq_some_iff.mp hq).1
        have hp:=iU (xs:=t.place) (i:=i) (by lia)
        rw[Qc eE (by lia),hq,hp]
        have:wy t.place (i+1)=t.place[i]+1:=by rw[wy,hp];rfl
        rw[this] at q'
        exact q'
     ·rw[Qc eE (by lia),a7x (by lia)]
      exact q'
   | true =>
     rw[if_pos (by simp)]
     refine ay (Qg _ _ _ (by simp) λys d hp=>ay (a7y ?_ (by rw[bu,hp.length_eq,Dh,nE];lia)))
     have Qi:gX (s.heap.push (uY "tuple" (ys.map λ(i:Nat)=>rawInt i).toArray 0)) a es ep t:=hS.dZ λo e=>bP _ e
     obtain⟨o2,ph,_,hd2,hf2⟩:=id Qi
     refine ay (a7w (s:={ s with heap:=s.heap.push (uY "tuple" (ys.map λ(i:Nat)=>rawInt i).toArray 0),drawn:=d }) ph hd2 hf2 ?_)
     refine ay (oR (aM ⟨_,rfl,"set_iterator",_,⟨_,dQ _ rfl,rfl⟩,mh.lookup,?_⟩))
     have hl:ys.length=n:=by rw[hp.length_eq,Dh,hn]
     have a_:∀p∈ys,p<n:=λp Fj=>by have:=hp.mem_iff.mp Fj;rw[JU,hn] at this;exact this
     have oJ:s.heap.objs.size<(s.heap.push (uY "tuple" (ys.map λ(i:Nat)=>rawInt i).toArray 0)).objs.size:=by rw[iw];exact qx _
     refine q _ _ d (ys.filterMap λp=>(es[p]?).map (·.2)) _ _ (sj oJ) (λb o e=>bP _ (bP _ e)) (λA' hh=>x3p (T:=s.heap.objs.size) hh (cN (DA halt oJ)) (cN oJ) hn hl a_) ⟨⟨_,dQ _ rfl,rfl,by rw[hn];rfl⟩,Qi.dZ λo e=>bP _ e,⟨_,_,bP _ (dQ _ rfl),rfl⟩⟩ (λb hb=>?_) (λb hb=>?_) ?_ ?_
     ·simp only[fF,gN,or_false] at hb
      rcases hb with rfl | rfl | rfl
      ·exact .inr (sj oJ)
      ·exact .inl rfl
      ·exact .inr (a7 _)
     ·rw[iw]
      simp only[fF,gN,or_false] at hb
      rcases hb with rfl | rfl | rfl
      ·exact qx _
      ·exact uW (DA halt oJ)
      ·exact uW oJ
     ·have:=(hp.filterMap (λp=>(es[p]?).map (·.2))).length_eq
      rw[this,<-hn]
      have h2:(bK es.size).filterMap (λp=>(es[p]?).map (·.2))=es.toList.map (·.2):=by rw[<-a7z,Tj]
      rw[h2];simp
     ·refine(hp.filterMap _).trans ?_
      have h2:(bK es.size).filterMap (λp=>(es[p]?).map (·.2))=es.toList.map (·.2):=by rw[<-a7z,Tj]
      rw[h2]
end
section
variable {prog:aY}{w:aO}{A:Around}{E:Value->ai->Prop}{s:ai}
theorem y7d:RQ (.type "set") "__len__"=pure (some (.builtin "set.__len__")):=F.slot_set_len.lookup
theorem w4b{a:Addr}{Q:Bool->ai->Prop}(hT:s.TypeIs (.ref a) "set")(q:Q false s):ax (aF prog w) A (a8a (.ref a)) Q E s:=by
 unfold a8a
 refine ay (a8b hT y7d ?_)
 dsimp only
 have e:splitId "set.__len__"=some ("set","__len__"):=by kernel_rfl
 rw[e]
 dsimp only
 refine ay (Tf (T:="set") (b:=true) hT sub_set_self ?_)
 simp only[o_,gM,↓reduceIte]
 show ax _ _ (if true=true then _ else _) _ _ s
 rw[if_pos rfl]
 refine ay (Ai hT ?_)
 exact aM q
theorem x3j{a:Addr}{es:Array (Int×Value)}{ep n:Nat}{t:cV}{Q:List Value->ai->Prop}(hh:A.handled=none)(hS:gX s.heap a es ep t)(hn:es.size=n)(hk:e9 (dC w) t)(hz:n<=4096)
 (q:∀(vals:List Value) (h':Heap) (d:CZ) (tk:Nat),vals.Perm (es.toList.map (·.2))->s.heap.objs.size<=h'.objs.size->(∀b o,s.heap.get? b=some o->h'.get? b=some o)->s.toks<=tk->Q vals { s with heap:=h',drawn:=d,toks:=tk }):ax (aF prog w) A (Tn (.ref a)) Q E s:=by
 obtain⟨oS,fT,hex,iN,hf⟩:=id hS
 have halt:a<s.heap.objs.size:=bE fT
 unfold Tn
 refine ay (Ta (qM F.entry_proto_collect ?_));rw[xw F.plain_proto_collect _]
 show ax _ A.in1 (Kl []>>=λl=>again (.builtin "list.__iadd__" ⟨[l,.ref a],[]⟩)) _ _ s
 refine ay (oR (aM ⟨DC a8c _,qM F.entry_list_iadd ?_⟩))
 rw[xw a8c _]
 show ax _ A.in1 (a8d (.ref s.heap.objs.size) (.ref a) (.ref s.heap.objs.size)) _ _ _
 have hS1:gX (s.heap.push { cls:=.type "list",data:=.seq ([]:List Value).toArray }) a es ep t:=hS.dZ λo e=>bP _ e
 have oJ:DE { s with heap:=s.heap.push { cls:=.type "list",data:=.seq ([]:List Value).toArray } } (.ref a) "set":=⟨oS,bP _ fT,hex.1⟩
 unfold a8d
 refine ay (Ai oJ ?_)
 have u1:a8e (.ref s.heap.objs.size) (.ref a)=false:=by simp[a8e,mi halt]
 have u2:(sg "set"==sg "list")=false:=by decide
 have u3:(sg "set"==sg "tuple")=false:=by decide
 simp only[u1,u2,u3,Bool.or_false,gM,if_false]
 refine ay (w3y (s:={ s with heap:=s.heap.push { cls:=.type "list",data:=.seq ([]:List Value).toArray } }) hS1 hn hk hz λit h1 d vals fp St hit keep W B3 hfp hfs hv hp=>?_)
 have GG:DE { s with heap:=h1,drawn:=d } (.ref a) "set":=⟨oS,keep a _ (bP _ fT),hex.1⟩
 refine ay (j9 (w4b GG ?_))
 have L0:h1.get? s.heap.objs.size=some { cls:=.type "list",data:=.seq ([]:List Value).toArray }:=keep _ _ (dQ _ rfl)
 have itN:s.heap.objs.size<it:=by rw[iw] at hit;exact Nat.lt_of_succ_le hit
 have Qj:s.heap.objs.size ∉ fp:=λhm=>by
  rcases hfp _ hm with z | z
  ·exact absurd z (mi halt)
  ·rw[iw] at z;exact absurd z (Nat.not_succ_le_self _)
 show ax _ A.in1 (rule "list.extend.makes-room">>=λ_=>Builtin.List.listTouch (.ref s.heap.objs.size)>>=λ_=>again (.builtin "list.extend.loop" ⟨[.ref s.heap.objs.size,.ref it,.ref s.heap.objs.size],[]⟩)) _ _ _
 refine ay (Dy (ay (show ax _ A.in1 (updateSeq s.heap.objs.size (·.push .none)>>=λ_=>updateSeq s.heap.objs.size (·.pop)) _ _ _ from ?_)))
 refine ay (a8f (s:={ s with heap:=h1,drawn:=d }) L0 rfl ?_)
 have L1:=sA (qB (·.push kE)) L0 rfl
 refine a8f (s:={ s with heap:=h1.update s.heap.objs.size (qB (·.push kE)),drawn:=d }) L1 rfl ?_
 have L2':=sA (qB (·.pop)) L1 rfl
 have Qk:∀b o,b≠s.heap.objs.size->h1.get? b=some o->((h1.update s.heap.objs.size (qB (·.push kE))).update s.heap.objs.size (qB (·.pop))).get? b=some o:=λb o hb e=>(C4 _ _ (gJ hb)).trans ((C4 _ _ (gJ hb)).trans e)
 have Ql:A.in1.handled=none:=hh
 have WS:=(W A.in1 Ql).toS
 have st1:=(W A.in1 Ql).frame 0 h1 _ B3 λb hb o e=>Qk b o (λz=>Qj (z ▸ hb)) e
 refine aM ⟨DC F.plain_extend_loop _,codeAny_extend_loopS WS (by rw[nE];lia) _ Qj _ n 0 _ _ _ rfl (iT _) st1 L2' (ItemsOf.nil _) λs' acc c mv hL t_=>?_⟩
 show ax _ A (load s.heap.objs.size>>=_) _ _ s'
 refine ay (wpAny_load hL ?_)
 obtain⟨h',g',d',zM,kL⟩:=s'
 obtain rfl:g'=s.gens:=mv.gens
 obtain rfl:d'=d:=mv.drawn
 obtain rfl:kL=s.os:=mv.os
 have a0q:acc.toList=vals:=by
  refine List.ext_getElem? λi=>?_
  rw[uX]
  rcases cG i n with z | z
  ·have lt:i<acc.size:=by rw[t_.1];exact z
   have e:=iU lt
   rw[e];exact(t_.2 i _ e).symm
  ·rw[a7x (by rw[t_.1];exact z),fK (by lia)]
 refine aM ?_
 rw[a0q]
 have kp:∀b o,s.heap.get? b=some o->h'.get? b=some o:=λb o e=>by
  have b1:b<s.heap.objs.size:=bE e
  refine mv.heap b o (λz=>?_) (Qk b o (cN b1) (keep b o (bP _ e)))
  rcases List.mem_cons.mp z with z | z
  ·exact absurd z (cN b1)
  ·have:b=it:=by simpa using z
   exact absurd (DA b1 itN) (by rw[this];exact jb _)
 exact q vals h' d' zM hp (sj (bE hL)) kp mv.toks
theorem y6l{a:Addr}{es:Array (Int×Value)}{ep n:Nat}{t:cV}{ns:List Int}{Q:Value->ai->Prop}(hh:A.handled=none)(hS:gX s.heap a es ep t)(hn:es.size=n)(hk:e9 (dC w) t)(h64:n<64)(hi:kF (es.toList.map (·.2)) ns)
 (q:∀(l:Addr) (out:List Value) (uw:List Int) (h':Heap) (d:CZ) (tk m:Nat),kF out uw->uw.Perm ns->uw.Pairwise (·<=·)->s.heap.objs.size<=l->h'.get? l=some (uY "list" out.toArray m)->(∀b o,s.heap.get? b=some o->h'.get? b=some o)->s.toks<=tk->Q (.ref l) { s with heap:=h',drawn:=d,toks:=tk }) :
 ax (aF prog w) A (call (.builtin "sorted") [.ref a]) Q E s:=by
 refine Calls.call_function_entry kind_sorted plain_sorted entry_sorted (args_sorted1 _) ?_
 unfold g9.«sorted»
 show ax _ A.in1 (Tn (.ref a)>>=_) _ _ s
 refine ay (x3j hh hS hn hk (by lia) λvals h1 d tk hp iF keep K_=>?_)
 obtain⟨wA,i1,p1⟩:∃wA,kF vals wA/\wA.Perm ns:=by
  have H:∀{xs ys:List Value},xs.Perm ys->∀{ms:List Int},kF ys ms->∃wA,kF xs wA/\wA.Perm ms:=by
   intro xs ys hp
   induction hp with
   | nil=>intro ms h;cases h;exact⟨[],.nil,.refl _⟩
   | cons x _ ih =>
     intro ms h
     cases h with
     | cons m t h =>
       obtain⟨n1,a1,a2⟩:=ih h
       exact⟨m::n1,.cons m t a1,.cons m a2⟩
   | swap x y l =>
     intro ms h
     cases h with
     | cons m1 t1 h =>
       cases h with
       | cons m2 t2 h=>exact⟨m2::m1::_,.cons m2 t2 (.cons m1 t1 h),.swap m1 m2 _⟩
   | trans _ _ ih1 ih2 =>
     intro ms h
     obtain⟨n2,b1,b2⟩:=ih2 h
     obtain⟨n1,a1,a2⟩:=ih1 b1
     exact⟨n1,a1,a2.trans b2⟩
  exact H hp hi
 have hvl:vals.length<64:=by rw[hp.length_eq,bu,gK];lia
 refine ay (wpAny_newList ?_ (by rw[nE];lia))
 refine ay (j9 ?_)
 have g0:(h1.push (uY "list" vals.toArray 0)).get? h1.objs.size=some (uY "list" vals.toArray 0):=dQ _ rfl
 refine nM (s:={ s with heap:=h1.push (uY "list" vals.toArray 0),drawn:=d,toks:=tk }) slot_list_sort ⟨_,g0,rfl⟩ entry_list_sort ?_ (args_list_sort _)
 refine list_sort_tree (s:={ s with heap:=h1.push (uY "list" vals.toArray 0),drawn:=d,toks:=tk }) g0 i1 hvl λout uw o1 o2 o3=>?_
 refine⟨_,rfl,?_⟩
 obtain⟨m,em⟩:=sortedHeap_at (vs:=vals) (out:=out) g0
 refine aM ⟨_,rfl,q h1.objs.size out.toList uw _ d tk m o1 (o2.trans p1) o3 iF (by rw[Array.toArray_toList];exact em) (λb o e=>?_) K_⟩
 have zF:b<h1.objs.size:=cI (bE e) iF
 rw[sortedHeap_old (cN zF) (by rw[iw];exact uW zF)]
 exact bP _ (keep b o e)
end
theorem Qm:oN ("set":Str)=some (.type "set"):=by decide +kernel
theorem x7p:oN ("sorted":Str)=some (.builtin "sorted"):=by decide +kernel
theorem Qn:∀{a b:List Int},a.Pairwise (·<·)->b.Pairwise (·<·)->(∀x,x∈a↔x∈b)->a=b
 | [],[],_,_,_=>rfl
 | [],y::b,_,_,h=>absurd ((h y).mpr bB) (by simp)
 | x::a,[],_,_,h=>absurd ((h x).mp bB) (by simp)
 | x::a,y::b,ha,hb,h=>by
   obtain⟨a1,a2⟩:=List.pairwise_cons.mp ha
   obtain⟨b1,b2⟩:=List.pairwise_cons.mp hb
   have e:x=y:=by
    rcases List.mem_cons.mp ((h x).mp bB) with z | z
    ·exact z
    ·rcases List.mem_cons.mp ((h y).mpr bB) with z2 | z2
     ·exact z2.symm
     ·have:=b1 x z;have:=a1 y z2;lia
   subst e
   rw[Qn a2 b2 λz=>⟨λhz=>?_,λhz=>?_⟩]
   ·rcases List.mem_cons.mp ((h z).mp (bL _ hz)) with w | w
    ·have:=a1 z hz;lia
    ·exact w
   ·rcases List.mem_cons.mp ((h z).mpr (bL _ hz)) with w | w
    ·have:=b1 z hz;lia
    ·exact w
theorem Qo:∀{l:List Int},l.Pairwise (·<=·)->l.Nodup->l.Pairwise (·<·)
 | [],_,_=>.nil
 | x::l,h,n=>by
   obtain⟨h1,h2⟩:=List.pairwise_cons.mp h
   obtain⟨n1,n2⟩:=List.nodup_cons.mp n
   refine List.pairwise_cons.mpr ⟨λy hy=>?_,Qo h2 n2⟩
   have:=h1 y hy
   have:x≠y:=λz=>n1 (z ▸ hy)
   lia
theorem Qp:∀{a b:List Int},a.Nodup->(∀x∈a,x∈b)->b.length<=a.length->a.Perm b
 | [],b,_,_,h=>by
   have:b=[]:=List.length_eq_zero_iff.mp (by simpa using h)
   rw[this]
 | x::a,b,hn,hs,h=>by
   obtain⟨n1,n2⟩:=List.nodup_cons.mp hn
   have hx:=hs x bB
   have hl:(b.erase x).length<=a.length:=by rw[a5x hx];simp at h;lia
   refine(J4 x (Qp n2 (λy hy=>?_) hl)).trans (a5w hx).symm
   have ne:y≠x:=λz=>n1 (z ▸ hy)
   exact(a5y ne).mpr (hs y (bL _ hy))
theorem CJ(val:Nat->Int):∀i,(nU val i).Nodup
 | 0=>by rw[firstMet_zero];exact .nil
 | i+1=>by
   rw[SW]
   unfold step_dedup
   split
   ·exact CJ val i
   ·rename_i h
    refine List.nodup_append.mpr ⟨CJ val i,by simp,λx hx y hy e=>?_⟩
    have:y=val i:=by simpa using hy
    rw[this] at e
    exact h (List.any_eq_true.mpr ⟨x,hx,by simp[e]⟩)
theorem Qq(ns:List Int)(x:Int):x∈nU (λi=>ns.getD i 0) ns.length↔x∈ns:=by
 have h:=firstMet_any (λi=>ns.getD i 0) ns.length x
 have e:(bK ns.length).map (λi=>ns.getD i 0)=ns:=by
  refine Dc (by simp) λi h1 h2=>?_
  simp[List.getD_eq_getElem?_getD,cf h2]
 rw[e] at h
 have m:∀l:List Int,(l.any (·==x))=true↔x∈l:=λl=>by simp
 rw[<-m,<-m,h]
section
variable {X:Cx}{e a b c:Expr}{g ga gb gc:G->R D}{gs:G->R (List D)}{pos pos' p p2:Pos}
theorem w2v(ha:PD X a ga)(HS:X.mg "sorted"=none)(yR:X.mg "set"=none)(eI:X.calm=true)(aW:Gl X "sorted":=by rfl)(dH:Gl X "set":=by rfl)
 (zO:bA [.Call (.Name "set" p2) [a] [] pos'] X.env=[(false,eval (.Call (.Name "set" p2) [a] [] pos') X.env)]:=by rfl) (m6:bA [a] X.env=[(false,eval a X.env)]:=by rfl) :
 PF X (.Call (.Name "sorted" p) [.Call (.Name "set" p2) [a] [] pos'] [] pos) (Bo ga):=by
 refine⟨λpins s σ H F Γ I fo rl cw=>?_⟩
 refine mB (iE I aW HS x7p (Kh ?_ zO rfl))
 rw[zO]
 show ax _ _ (gf ((false,eval (.Call (.Name "set" p2) [a] [] pos') X.env)::cK pos [])) _ _ s
 refine iA ?_
 refine mB (iE I dH yR Qm (uU ?_ m6 rfl))
 rw[m6]
 show ax _ _ (gf ((false,eval a X.env)::cK pos' [])) _ _ s
 refine iA (aC (ha.run pins s σ H F Γ I fo rl (R.left cw)) (λu s1 ⟨d,v,H1,e1,I1,r1,S1,i1⟩=>ke ?_) λ_ _ x=>x.bind _)
 have wB:=R.next cw e1
 cases d with
 | lst ds =>
   obtain⟨l,xs,rfl,q1,j1⟩:=Is.fA.mp i1
   cases (show u=c_ l from r1)
   cases hints:ib ds with
   | none=>exact absurd (show(match ib ds with | some ns=>R.guard (ns.length<64) (R.ok ((fu ns).map D.int)) | none=>R.no)=R.no by rw[hints]) wB
   | some ns =>
     have:=Ew hints
     subst this
     have a0r:R.guard (ns.length<64) (R.ok ((fu ns).map D.int)) ≠ .no:=by
      have h:=wB
      dsimp only at h
      rw[hints] at h
      exact h
     obtain⟨h64,e5⟩:=R.dF a0r
     rw[j1.B5] at q1
     obtain⟨its,rv,pl,hz⟩:=I1.list q1
     have hlen:its.length=ns.length:=by rw[<-rv.length,bu]
     have hia:=L2.intsAre_of rv
     have hh:X.A.handled=none:=I1.ok.hd eI
     have Qr:its.toArray.size=ns.length:=by simp[hlen]
     refine w0m (s:=s1) hh pl.isList (by simpa using hia) (by rw[Qr];unfold qL;lia) λh' tk y keep=>ke ?_
     rw[Qr] at y
     obtain⟨o,es,ep,t,⟨q2,q3,q4⟩,⟨q5,q6⟩,⟨q7,q8,q9⟩,q10⟩:=y
     have HU:∀b o,s1.heap.get? b=some o->h'.get? b=some o:=λb o e=>keep b o (bE e) e
     obtain⟨ks,k1,k2⟩:∃ks,kF (es.toList.map (·.2)) ks/\∀x,x∈ks↔∃e∈es.toList,(bD X.prog X.w).is x e.2=true:=by
      clear q6 q7 q8 q9 q4
      generalize es.toList=L at q5
      induction L with
      | nil=>exact⟨[],.nil,λx=>by simp⟩
      | cons e L ih =>
        obtain⟨ks,a1,a2⟩:=ih q5.tail
        obtain⟨⟨k,hk,_⟩,_⟩:=q5.head
        obtain⟨t0,PK⟩:∃t0,e.2 = .int k t0:=by
         have h:=hk
         cases hv:e.2 with
         | int z t0 =>
           rw[hv] at h
           have:z=k:=by simpa [bD,Jz] using h
           exact⟨t0,by rw[this]⟩
         | _=>rw[hv] at h;simp[bD,Jz] at h
        refine⟨k::ks,by rw[cJ,PK];exact .cons k t0 a1,λx=>?_⟩
        rw[fF,a2]
        constructor
        ·rintro(rfl | ⟨e',r9,hx⟩)
         ·exact⟨e,bB,hk⟩
         ·exact⟨e',bL _ r9,hx⟩
        ·rintro⟨e',r9,hx⟩
         rcases List.mem_cons.mp r9 with z | z
         ·subst z
          exact .inl ((bD X.prog X.w).inj e'.2 x k hx hk)
         ·exact .inr ⟨e',z,hx⟩
     have mem:∀x,x∈ks↔x∈ns:=λx=>by
      rw[k2,<-q6 x,<-Qq ns x]
      simp
     have CK:ks.length=es.size:=by rw[<-k1.length,bu,gK]
     have hfl:=a7f (λi=>ns.getD i 0) ns.length
     have vN:ks.Nodup:=by
      have hp:=Qp (CJ (λi=>ns.getD i 0) ns.length) (b:=ks) (λx hx=>(mem x).mpr ((Qq ns x).mp hx)) (by lia)
      exact hp.nodup_iff.mp (CJ _ _)
     refine y6l (s:={ s1 with heap:=h',toks:=tk }) hh ⟨o,q2,q3,q4,q8⟩ q9 q10 (by lia) k1 λl2 out uw h2 d2 Qs mm o1 o2 o3 o4 o5 o6 _=>?_
     have enn:uw=fu ns:=by
      refine Qn (Qo o3 (o2.nodup_iff.mpr vN)) (EH ns) λx=>?_
      rw[o2.mem_iff,mem,vw]
     subst enn
     have iF:s1.heap.objs.size<=l2:=by
      rcases cG h'.objs.size s1.heap.objs.size with z | z
      ·exact absurd (bE q2) (Nat.not_lt.mpr (sj z))
      ·exact fB z o4
     have rZ:H1 l2=none:=I1.aS.fresh iF
     have wx:out.length<=ck:=by
      have:=o1.length
      rw[nE]
      have h3:(fu ns).length=ks.length:=o2.length_eq
      lia
     have I2:Inv X pins σ (upd H1 l2 (.lst ((fu ns).map V.int))) { s1 with heap:=h2,drawn:=d2,toks:=Qs }:=by
      have kp:∀b u,s1.heap.get? b=some u->h2.get? b=some u:=λb o e=>o6 b o (HU b o e)
      exact I1.call (g':=s1.gens) (d':=d2) (t':=Qs) (ch:=[]) (Un.laid kp iF rZ) (I1.aS.laid kp iF (show iW X.prog X.w _ _ _ (.lst ((fu ns).map V.int)) from⟨by
       have:=o1.length
       rw[bu];lia,out,mm,xM o1,o5⟩)) I1.bare (λb hb=>by simp at hb)
     have S2:=jD rZ (.lst ((fu ns).map V.int))
     refine⟨(fu ns).map D.int,l2,(fu ns).map V.int,_,(R.step e1 _).trans ?_,I2,rfl,S1.trans S2,S1.free rZ,dI,?_⟩
     ·show(match ib (ns.map D.int) with | some ns=>R.guard (ns.length<64) (.ok ((fu ns).map D.int)) | none=>.no)=_
      rw[hints];exact e5
     ·have a0s:∀(Hx:Hp) (l:List Int),aA X.K Hx (l.map D.int) (l.map V.int):=λHx l=>by
       induction l with
       | nil=>exact aA.nil
       | cons x l ih=>exact aA.cons (Is.bO.mpr rfl) ih
      exact a0s _ _
 | _=>exact absurd rfl wB
end
section
variable {X:Cx}
theorem Qt(hu:X.A.units+64<fU):gE X (oQ .In) mP:=by
 refine⟨λx y H Q=>∃dx ys,(Is X.K H (.lst ys) y/\D.lay 40 (.lst ys)=true∨Is X.K H (.tup ys) y/\D.lay 40 (.tup ys)=true)/\Is X.K H dx x/\D.lay 40 dx=true/\Q (.bl (ys.any λy=>bF y dx)) H,?_,λH x y dx dy ix iy hg=>?_⟩
 ·intro pins s σ H x y v u Q I rx ry h
  obtain⟨dx,ys,hy,ix,l1,q⟩:=h
  obtain⟨as,ra⟩:=oG I 40 dx x v l1 ix rx
  have p1:=oF 40 dx l1
  have kT:X.A.units+64<fU:=hu
  rcases hy with ⟨iy,l2⟩ | ⟨iy,l2⟩
  ·obtain⟨bs,rb⟩:=oG I 40 (.lst ys) y u l2 iy ry
   have p2:=oF 40 (.lst ys) l2
   have ey:D.py (.lst ys) = .list (D.cS ys):=by simp[D.py]
   rw[ey] at rb p2
   have c2:Au (D.cS ys)=true:=by simpa [sG] using p2.1
   refine PySem.SeqAt.in_list_reads rb ra c2 p1.1 (show X.A.units+1+min (Av (D.cS ys)) dx.py.depth<fU by lia) ⟨.bl (ys.any λy=>bF y dx),H,I,?_,q⟩
   rw[Hv];rfl
  ·obtain⟨bs,rb⟩:=oG I 40 (.tup ys) y u l2 iy ry
   have p2:=oF 40 (.tup ys) l2
   have ey:D.py (.tup ys) = .tuple (D.cS ys):=by simp[D.py]
   rw[ey] at rb p2
   have c2:Au (D.cS ys)=true:=by simpa [sG] using p2.1
   refine PySem.SeqAt.in_tuple_reads rb ra c2 p1.1 (show X.A.units+1+min (Av (D.cS ys)) dx.py.depth<fU by lia) ⟨.bl (ys.any λy=>bF y dx),H,I,?_,q⟩
   rw[Hv];rfl
 ·cases dy with
  | lst ys =>
    obtain⟨⟨l1,l2⟩,e⟩:=R.dF (show R.guard (D.lay 40 dx=true/\D.lay 40 (.lst ys)=true) (R.ok (D.bl (ys.any λy=>bF y dx))) ≠ .no from hg)
    exact⟨dx,ys,.inl ⟨iy,l2⟩,ix,l1,.bl (ys.any λy=>bF y dx),e,.refl _,Is.gy.mpr rfl⟩
  | tup ys =>
    obtain⟨⟨l1,l2⟩,e⟩:=R.dF (show R.guard (D.lay 40 dx=true/\D.lay 40 (.tup ys)=true) (R.ok (D.bl (ys.any λy=>bF y dx))) ≠ .no from hg)
    exact⟨dx,ys,.inr ⟨iy,l2⟩,ix,l1,.bl (ys.any λy=>bF y dx),e,.refl _,Is.gy.mpr rfl⟩
  | _=>exact absurd rfl hg
theorem Qu(d:D):∀ys:List D,(D.cS ys).findIdx? (λy=>y.eqv d.py)=ys.findIdx? λy=>bF y d
 | []=>by simp[D.cS]
 | y::ys=>by rw[D.cS,Kf,Kf,Qu d ys,yU]
theorem Qv{e b:Expr}{ge gb:G->R D}{apos d_:Pos}(hu:X.A.units+64<fU)(he:PD X e ge)(hb:PD X b gb)
 (uh:Kn e "index" X.env (eval e X.env)=eval e X.env:=by rfl)
 (ui:((cK d_ (bA [b] X.env)).all (λx=>!x.1)&&(qH d_ (qI [] X.env)).all (λx=>x.1.isSome)
   && decide ([b].length+([]:List qz).length+(if ([]:List qz).isEmpty then 0 else 1)<30))=true:=by rfl)
 (uj:(apos.endLine==d_.line)=true:=by rfl) (hs:bA [b] X.env=(false,eval b X.env)::bA [] X.env:=by rfl) :
 PD X (.Call (.Attribute e "index" apos) [b] [] d_) (z9j ge gb):=by
 refine⟨λpins s σ H F Γ I fo rl hg=>?_⟩
 refine Ko uh ui uj rfl (aC (he.run pins s σ H F Γ I fo rl (R.left hg)) (λv s1 ⟨dl,vl,H1,e1,I1,r1,S1,i1⟩=>?_) λ_ _ x=>x.bind _)
 have aW:=R.next hg e1
 cases dl with
 | lst ys =>
   obtain⟨l,xs,rfl,q1,j1⟩:=Is.fA.mp i1
   cases (show v=c_ l from r1)
   obtain⟨t1,t2⟩:=Eb (T:="list") I1 (show RelV (.ref l) (.ref l) from rfl) (.inl ⟨rfl,xs,q1⟩)
   refine⟨"list",_,SI,a8g,PySem.F.type_list_index,t1,t2,?_⟩
   rw[hs]
   refine Kp rfl (Kq ?_)
   show ax _ _ (gf ((false,eval b X.env)::cK d_ [])) _ _ s1
   refine iA (aC (hb.run pins s1 σ H1 F Γ I1 (fo.same S1) (rl.same S1) (R.left aW)) (λu s2 ⟨d,y,H2,e2,I2,r2,S2,i2⟩=>ke ?_) λ_ _ x=>bV.later e1 S1 (x.bind _))
   have dH:=R.next aW e2
   cases q:ys.findIdx? (λy=>bF y d) with
   | none=>exact absurd (show td ys d = .no by unfold td;rw[q]) dH
   | some j =>
     have r8:R.guard (D.lay 40 d=true/\D.lay 40 (.lst ys)=true/\ys.length<=100000) (R.ok (D.int (j:Int))) ≠ .no:=by
      have h:=dH
      unfold td at h
      rw[q] at h
      exact h
     obtain⟨⟨l1,l2,l3⟩,e3⟩:=R.dF r8
     have we:Is X.K H2 (.lst ys) (.ref l):=i1.same S2
     obtain⟨as,ra⟩:=oG I2 40 d y u l1 i2 r2
     obtain⟨bs,rb⟩:=oG I2 40 (.lst ys) (.ref l) (.ref l) l2 we rfl
     have p1:=oF 40 d l1
     have p2:=oF 40 (.lst ys) l2
     have ey:D.py (.lst ys) = .list (D.cS ys):=by simp[D.py]
     rw[ey] at rb p2
     have c2:Au (D.cS ys)=true:=by simpa [sG] using p2.1
     cases rb with
     | @list a0 o vs n x0 as0 b1 b2 b3 b4 =>
       obtain⟨oc,od,odt,n9⟩:=o
       obtain rfl:oc = .type "list":=b2
       obtain rfl:odt = .seq vs n:=b3
       have ea:=PySem.SeqAt.items_eqAt (A:=X.A) b4 ra c2 p1.1 (show X.A.units+1+min (Av (D.cS ys)) d.py.depth<fU by lia)
       have hm:=PySem.SeqAt.readsAll_map (D.cS ys) _ _ c2 b4
       have hfi:vs.toList.findIdx? (λy=>(a8h s2.heap y).eqv d.py)=some j:=by
        have h1:=Qu d ys
        rw[q,<-hm,List.findIdx?_map] at h1
        exact h1
       obtain⟨hj,hjt,hjn⟩:=List.findIdx?_eq_some_iff_getElem.mp hfi
       have hjs:j<vs.size:=by simpa using hj
       refine w_ a8g ⟨_,b1,rfl⟩ PySem.F.entry_list_index (PySem.F.args_list_index_2 _ _) (PySem.SeqAt.list_indexAt l vs n od n9 u (λy=>(a8h s2.heap y).eqv d.py) j hjs ?_ ?_ ?_) ⟨b1,?_,?_⟩
       ·have h1:=congrArg JI hm
        rw[bu] at h1
        have h2:∀l:List D,(D.cS l).length=l.length:=λl=>by
         induction l with
         | nil=>simp[D.cS]
         | cons x l ih=>rw[D.cS,de,ih,de]
        rw[h2] at h1
        have h3:vs.toList.length=vs.size:=gK
        lia
       ·simpa using hjt
       ·intro m rB a_
        have:=hjn m a_
        simpa using this
       ·exact ea
       ·refine dj.bind e1 S1 (dj.bind e2 S2 ⟨.int (j:Int),.int (j:Int),H2,?_,I2.tok _,⟨s2.toks,rfl⟩,.refl _,Is.bO.mpr rfl⟩)
        unfold td
        rw[q]
        exact e3
 | _=>exact absurd rfl aW
end
section
variable {prog:aY}{w:aO}{A:Around}{E:Value->ai->Prop}{s:ai}
theorem x9y{e it l:Addr}{i:Nat}{z:Int}{items:Array Value}{x old:Value}{Q:Value->ai->Prop}(he:oZ s.heap e it z old)(hit:s.heap.IsListIter it l i)(ht:s.heap.IsList l items)(hx:items[i]? = some x)(a8:e≠it)
 (hQ:∀h',KL h' e it (z+1) x s.heap.objs.size->h'.IsListIter it l (i+1)->h'.get? s.heap.objs.size=some { cls:=.type "tuple",data:=.seq #[.int z s.toks,x] }->h'.objs.size=s.heap.objs.size+1->(∀b o,b≠e->b≠it->s.heap.get? b=some o->h'.get? b=some o)->Q (.ref s.heap.objs.size) { s with heap:=h',toks:=s.toks+1 }) :
 ax (aF prog w) A (g9.«enumerate.__next__» ⟨[.ref e],[]⟩) (λfin s'=>∃v,fin = .done (.ret v)/\Q v s') E s:=by
 refine(show ax _ _ (KN (.ref e) 2>>=_) _ _ _ from ay (nK he rfl (x:=.ref it) rfl (ay (wpAny_nextOf_list_item hit ht hx λg1 f1 n1=>?_))))
 have yV:oZ g1 e it z old:=n1.extBut _ _ a8 he
 refine(show ax _ _ (KN (.ref e) 3>>=_) _ _ _ from ay (nK yV rfl (x:=.int z 0) rfl (show ax _ _ (KN (.ref e) 4>>=_) _ _ _ from ay (nK yV rfl (x:=.none) rfl ?_))))
 refine ay (show ax _ _ (mkInt z) _ _ _ from wpAny_mkInt ?_)
 refine ay (DJ (s:={ s with heap:=g1,toks:=s.toks+1 }) yV (by simp) λg2 (yW:oZ g2 e it (z+1) old) n2=>ay (DJ yW (by simp) λg3 (B9:oZ g3 e it (z+1) old) n3=>ay (a7y ?_)))
 have Qw:g3.objs.size=s.heap.objs.size:=by rw[n3.1,n2.1,n1.1]
 have yX:oZ (g3.push { cls:=.type "tuple",data:=.seq #[.int z s.toks,x] }) e it (z+1) old:=bP _ B9
 have elt:e<g3.objs.size:=bE B9
 refine(show ax _ _ (a8i (.ref e)>>=_) _ _ _ from ay ?_)
 unfold a8i
 refine ay (nK yX rfl (x:=.none) rfl (aM ?_));simp only[if_true]
 refine ay (Dy (ay (nK yX rfl (x:=old) rfl (ay (DJ yX (by simp) λg5 (GF:oZ g5 e it (z+1) x) n5=>?_)))))
 refine(show ax _ _ (a8j (.ref e) (.ref g3.objs.size)>>=_) _ _ _ from ay ?_)
 unfold a8j
 refine ay (DJ GF (by simp) λg7 (he7:KL g7 e it (z+1) x g3.objs.size) n7=>DJ he7 (by simp) λg8 (Qx:KL g8 e it (z+1) x g3.objs.size) n8=>?_)
 refine ay (wpAny_letGo (aM ⟨_,rfl,?_⟩))
 have up:∀c o,c≠e->g3.get? c=some o->g8.get? c=some o:=λc o c1 q=>n8.extBut _ _ c1 (n7.extBut _ _ c1 (n5.extBut _ _ c1 (bP _ q)))
 have t8:g8.get? g3.objs.size=some { cls:=.type "tuple",data:=.seq #[.int z s.toks,x] }:=n8.extBut _ _ (mi elt) (n7.extBut _ _ (mi elt) (n5.extBut _ _ (mi elt) (dQ _ rfl)))
 have s8:g8.objs.size=g3.objs.size+1:=by rw[n8.1,n7.1,n5.1];exact iw ..
 rw[Qw] at Qx t8 s8
 show Q (.ref g3.objs.size) _
 rw[Qw]
 have fit:g8.IsListIter it l (i+1):=f1.at λo q=>up it o a8.symm (n3.extBut _ _ a8.symm (n2.extBut _ _ a8.symm q))
 exact hQ g8 Qx fit t8 s8 λb o b1 b2 q=>up b o b1 (n3.extBut _ _ b1 (n2.extBut _ _ b1 (n1.extBut _ _ b2 q)))
theorem x9x{e it l:Addr}{i:Nat}{z:Int}{items:Array Value}{x old:Value}{Q:Option Value->ai->Prop}(he:oZ s.heap e it z old)(hit:s.heap.IsListIter it l i)(ht:s.heap.IsList l items)(hx:items[i]? = some x)(a8:e≠it)
 (hQ:∀h',KL h' e it (z+1) x s.heap.objs.size->h'.IsListIter it l (i+1)->h'.get? s.heap.objs.size=some { cls:=.type "tuple",data:=.seq #[.int z s.toks,x] }->h'.objs.size=s.heap.objs.size+1->(∀b o,b≠e->b≠it->s.heap.get? b=some o->h'.get? b=some o)->Q (some (.ref s.heap.objs.size)) { s with heap:=h',toks:=s.toks+1 }) :
 ax (aF prog w) A (iR (.ref e)) Q E s:=by
 have hT:s.TypeIs (.ref e) "enumerate":=⟨_,he,rfl⟩
 unfold iR
 exact ay (AI (uF (name:=cU "__next__") hT KO (nM KO hT a8k (x9y he hit ht hx a8 λh' a1 a2 a3 a4 a5=>aM (hQ h' a1 a2 a3 a4 a5)) (a8l _))))
theorem x9w{e it l:Addr}{i:Nat}{z:Int}{items:Array Value}{old:Value}{Q:Option Value->ai->Prop}(hh:A.handled=none)(he:oZ s.heap e it z old)(hit:s.heap.IsListIter it l i)(ht:s.heap.IsList l items)(hx:items[i]? = none)(hQ:∀h',(∀b o,b≠it->s.heap.get? b=some o->h'.get? b=some o)->Q none { s with heap:=h' }):ax (aF prog w) A (iR (.ref e)) Q E s:=by
 have hT:s.TypeIs (.ref e) "enumerate":=⟨_,he,rfl⟩
 unfold iR
 refine ay (AI (uF (name:=cU "__next__") hT KO (nM KO hT a8k (show ax _ _ (KN (.ref e) 2>>=_) _ _ _ from ay (nK he rfl (x:=.ref it) rfl (ay (wpAny_nextOf_list_end hh hit ht hx λh' e' hk ⟨o,ho,hc⟩=>?_)))) (a8l _))))
 exact ay (Tf (T:="StopIteration") (b:=true) ⟨o,ho,hc⟩ a7s (aM (hQ _ λb o b1 q=>hk b o b1 q)))
end
def HV(K:aD)(l:Addr):It :=
 ⟨λi H=>∃xs x,bM K H l xs/\xs[i]? = some x,
  λi H v H'=>∃T x,v = .ref T/\H T=none/\H'=upd H T (.tup [.int ((i:Int)+1),x])/\∀xs,bM K H l xs->xs[i]? = some x,
  λi H=>∃xs,bM K H l xs/\xs.length<=i⟩
theorem x8f{P:aY}{w:aO}{K:aD}{elts:List Expr}{kt}{pt:Pos}{e it l:Addr}(qc:e≠it):Turn P w K (.Tuple elts kt pt) (HV K l) [e,it] e (λi h=>(∃old,oZ h e it ((i:Int)+1) old)/\h.IsListIter it l i) where
 mem:=by simp
 obj:=λi h ⟨⟨old,q1⟩,q2⟩ c hc=>by
  simp only[fF,gN,or_false] at hc
  rcases hc with rfl | rfl
  ·exact⟨_,q1,λv z=>nomatch z⟩
  ·obtain⟨o,e,c,d⟩:=q2;exact⟨o,e,λv z=>by rw[d] at z;cases z⟩
 keep:=λi h h' ⟨⟨old,q1⟩,q2⟩ k=>⟨⟨old,k e (by simp) _ q1⟩,q2.at λo z=>k it (by simp) o z⟩
 item:=by
  intro X hP hw hK hc i pins s σ H E I hf ⟨⟨old,q1⟩,q2⟩ ⟨xs,x,s1,ex⟩
  subst hP hw hK
  obtain⟨its,rv,p,hz⟩:=I.list s1
  obtain⟨u,hu,ru⟩:=rv.get ex
  refine x9x q1 q2 p.isList (x:=u) (by simpa using hu) qc λh' a1 a2 a3 a4 a5=>⟨_,rfl,?_⟩
  refine a6z (s:={ s with heap:=h',toks:=s.toks+1 }) a1 λni c1 c2=>?_
  have Te:s.heap.objs.size≠e:=mi (bE q1)
  have kk:∀c o,c ∉ [e,it]->s.heap.get? c=some o->ni.get? c=some o:=λc o hc z=>by
   simp only[fF,gN,or_false,not_or] at hc
   exact c2.extBut _ _ hc.1 (a5 c o hc.1 hc.2 z)
  have tT:si ni s.heap.objs.size [lh ((i:Int)+1) s.toks,u].toArray:=⟨_,c2.extBut _ _ Te a3,rfl,_,rfl⟩
  have I1:=PO (t':=s.toks+1) (xs:=[.int ((i:Int)+1),x]) I hf kk (a7 _) (by rw[nE];exact(by decide:(2:Nat)<=16777216)) (.cons ⟨_,rfl⟩ (.cons ru .nil)) tT
  refine⟨.ref s.heap.objs.size,_,I1,rfl,⟨_,x,rfl,I.aS.fresh (a7 _),rfl,λxs' q=>by rw[I.DW q s1];exact ex⟩,⟨⟨u,c1⟩,a2.at λo z=>c2.extBut _ _ (gJ qc) z⟩,λc hc=>?_⟩
  rw[bS]
  ·exact(hf c hc).1
  ·intro z
   have ex:∃o,s.heap.get? c=some o:=by
    simp only[fF,gN,or_false] at hc
    rcases hc with rfl | rfl
    ·exact⟨_,q1⟩
    ·obtain⟨o,e,_⟩:=q2;exact⟨o,e⟩
   obtain⟨o,eo⟩:=ex
   exact absurd (bE eo) (by rw[z];exact jb _)
 done:=by
  intro X hP hw hK hc i pins s σ H E I hf ⟨⟨old,q1⟩,q2⟩ ⟨xs,s1,a0c⟩
  subst hP hw hK
  obtain⟨its,rv,p,hz⟩:=I.list s1
  have n1:=rv.length
  refine x9w (I.ok.hd hc) q1 q2 p.isList (by simp;lia) λh' kk=>⟨rfl,PN (t':=s.toks) I hf λc o hc z=>?_⟩
  simp only[fF,gN,or_false,not_or] at hc
  exact kk c o hc.2 z
 self:=λ_ _ _ _ _ st h=>by obtain⟨⟨old,q1⟩,_⟩:=st;exact Ks q1 h
theorem w3v{K:aD}{H:Hp}{F:List Addr}{l:Addr}{xs:List V}{ds:List D}(h1:bM K (aV F H) l xs)(i1:aA K (aV F H) ds xs):Hi K H F (HV K l) (dS 1 ds):=λH1 S=>by
 have q1:bM K H1 l xs:=(lY (F:=F)).seq ((wg S λb hb=>.inl hb).seq h1)
 have n1:=i1.length
 have nz:=Hr 1 ds
 refine⟨λi hi=>⟨⟨xs,xs[i]'(by lia),q1,cf (by lia)⟩,λv H2 y=>?_⟩,⟨xs,q1,by lia⟩⟩
 obtain⟨T,x,rfl,hT,rfl,e1⟩:=y
 obtain⟨d,ed,iv⟩:=i1.v_ (e1 xs q1)
 have S2:=jD hT (.tup [.int ((i:Int)+1),x])
 have eg:=Ho (k:=1) ed
 rw[show((1+i:Nat):Int)=(i:Int)+1 by lia] at eg
 exact⟨S2,.int ((i:Int)+1),d,T,.int ((i:Int)+1),x,eg,rfl,b6.of dI,λF' hF=>⟨Is.bO.mpr rfl,(iv.same (wg S hF)).same (jC S2)⟩⟩
theorem x5p(l:Addr)(xs:Array Value)(t:Tok):Dt (g9.«enumerate.__new__» ⟨[.type "enumerate",.ref l],[(cU "start",.int 1 t)]⟩) (λ_ R s=>s.heap.IsList l xs/\R (.ok (.ret (.ref (s.heap.push { cls:=.type "list_iterator",data:=.fields #[.ref l,.int 0 0] }).objs.size))) { s with heap:=(s.heap.push { cls:=.type "list_iterator",data:=.fields #[.ref l,.int 0 0] }).push { cls:=.type "enumerate",data:=.fields #[.none,.bool false,.ref s.heap.objs.size,rawInt 1,.none,.none] } }) :=
 .of_wp λprog w A R s h=>by
  obtain⟨hp,g,d,tk,os⟩:=s
  obtain⟨q1,h⟩:=h
  have e1:Heap.IsList (Shared.heap ⟨hp,g,d,tk,os⟩) l xs:=q1
  have CC:isSubtype (.type "enumerate") (.type "enumerate")=pure true:=by rw[Tb];rfl
  wp_walk using xq e1
  refine wpAny_stack_any λst=>aM (y6p ?_ ?_)
  ·wp_walk using xq e1
   exact⟨_,rfl,h⟩
  ·wp_walk using xq e1
   exact⟨_,rfl,h⟩
theorem w0a(a v:Value):checkTypeCall "enumerate" ⟨[a],[(cU "start",v)]⟩=pure ():=by kernel_rfl
theorem w4j(a v:Value):a7g "enumerate.__new__" ⟨[.type "enumerate",a],[(cU "start",v)]⟩=pure ():=by kernel_rfl
theorem w0c(a b v:Value):AH "object.__init__" ⟨[a,b],[(cU "start",v)]⟩:=by unfold AH;rw[Td (id:="object.__init__") (n:=['_','_','t','i','n','i','_','_']) (o:=['t','c','e','j','b','o']) (by kernel_rfl) F.owner_object];kernel_rfl
section
variable {prog:aY}{w:aO}{A:Around}{E:Value->ai->Prop}{s:ai}
theorem w0b{obj a v:Value}{Q:Value->ai->Prop}(hT:s.TypeIs obj "enumerate")(q:Q .none s):ax (aF prog w) A (g9.«object.__init__» ⟨[obj,a],[(cU "start",v)]⟩) (λfin s'=>∃r,fin = .done (.ret r)/\Q r s') E s:=by
 have hl:=F.called_enumerate.init.lookup
 have hm:=F.called_enumerate.made
 have a8:(some "enumerate.__new__" != some "object.__new__")=true:=by decide
 (repeat (any_goals (first | assumption | wp_step)))
 exact⟨_,rfl,q⟩
theorem w0j{l:Addr}{xs:Array Value}{t:Tok}{Q:Value->ai->Prop}(q1:s.heap.IsList l xs)(q:∀h',oZ h' (s.heap.objs.size+1) s.heap.objs.size 1 .none->h'.IsListIter s.heap.objs.size l 0->h'.objs.size=s.heap.objs.size+2->(∀c o,s.heap.get? c=some o->h'.get? c=some o)->Q (.ref (s.heap.objs.size+1)) { s with heap:=h' }) :
 ax (aF prog w) A (call (.type "enumerate") [.ref l] [(cU "start",.int 1 t)]) Q E s:=by
 have ft:=F.called_enumerate
 obtain⟨c,tl,P4⟩:=ft.mro
 have P5:=ft.made;have CC:=ft.sub;have P6:=w0a (.ref l) (.int 1 t)
 refine Aw (KG (show ax _ _ (S0 (.type "enumerate") _) _ _ _ from ?_))
 refine aM ⟨S4 _ (by decide +kernel),qM S8 ?_⟩;rw[S9 (S_ "enumerate" [.ref l] [(cU "start",.int 1 t)]) (units_type_call_type "enumerate" [.ref l] [(cU "start",.int 1 t)])]
 have h1:=ft.notType;have h2:=ft.canCreate
 (repeat (any_goals (first | assumption | wp_step)))
 have y1:(s.heap.push { cls:=.type "list_iterator",data:=.fields #[.ref l,.int 0 0] }).objs.size=s.heap.objs.size+1:=iw ..
 have u2:((s.heap.push { cls:=.type "list_iterator",data:=.fields #[.ref l,.int 0 0] }).push { cls:=.type "enumerate",data:=.fields #[.none,.bool false,.ref s.heap.objs.size,rawInt 1,.none,.none] }).get? (s.heap.objs.size+1)=some { cls:=.type "enumerate",data:=.fields #[.none,.bool false,.ref s.heap.objs.size,rawInt 1,.none,.none] }:=by
  rw[<-y1];exact dQ _ rfl
 refine oV (KH (R:=DD (λobj s1=>obj = .ref (s.heap.objs.size+1)/\s1={ s with heap:=(s.heap.push { cls:=.type "list_iterator",data:=.fields #[.ref l,.int 0 0] }).push { cls:=.type "enumerate",data:=.fields #[.none,.bool false,.ref s.heap.objs.size,rawInt 1,.none,.none] } }) E) ft.plain F.entry_enumerate_new (SX (w4j (.ref l) (.int 1 t)) (x5p l xs t prog w A.in1 _ s ⟨q1,by rw[y1];exact⟨rfl,rfl⟩⟩))) λr s1 hr=>?_
 cases r with
 | error e=>exact hr
 | ok fl =>
   cases fl with
   | ret obj =>
     obtain⟨rfl,rfl⟩:=hr
     have hT:DE { s with heap:=(s.heap.push { cls:=.type "list_iterator",data:=.fields #[.ref l,.int 0 0] }).push { cls:=.type "enumerate",data:=.fields #[.none,.bool false,.ref s.heap.objs.size,rawInt 1,.none,.none] } } (.ref (s.heap.objs.size+1)) "enumerate":=⟨_,u2,rfl⟩
     have P7:=ft.init.lookup;have P8:=ft.init.bind (.ref (s.heap.objs.size+1))
     (repeat (any_goals (first | assumption | wp_step)))
     refine oV (KH (R:=DD (λr s2=>r = .none/\Q (.ref (s.heap.objs.size+1)) s2) E) ft.init.plain F.entry_object_init (ft.init.check _ _ _ _ (.ref (s.heap.objs.size+1)) [.ref l] [(cU "start",.int 1 t)] _ hT (w0c _ _ _) (aC (w0b (Q:=λr s2=>r = .none/\Q (.ref (s.heap.objs.size+1)) s2) hT ⟨rfl,q _ u2 ⟨_,bP _ (dQ _ rfl),rfl,rfl⟩ (by rw[iw,y1]) λc o x=>bP _ (bP _ x)⟩) (λfin s' hf=>by obtain⟨r,rfl,hr⟩:=hf;exact hr) λ_ _ z=>z))) λr2 s2 nv=>?_
     cases r2 with
     | error e=>exact nv
     | ok zN =>
       cases zN with
       | ret r =>
         obtain⟨rfl,hq⟩:=nv
         (repeat (any_goals (first | assumption | wp_step)))
       | _=>exact nv.elim
   | _=>exact hr.elim
end
theorem w0k{M:oO}{A:Around}{E:Value->ai->Prop}{s:ai}{env:Env}{pos:Pos}{T:String}{e:Expr}{sR:List qz}{Q:Value->ai->Prop}
 (h:ax M A (gf (cK pos (bA [e] env))) (λvs s1=>ax M A (evalAll ((qH pos (qI sR env)).map (·.2))) (λfe s2=>ax M A (call (.type T) vs (((qH pos (qI sR env)).filterMap (·.1)).zip fe)) Q E s2) E s1) E s)
 (he:cK pos (bA [e] env)=(false,eval e env)::cK pos (bA [] env)) (a0t:(cK pos (bA [e] env)).any (·.1)=false) (jr:(qH pos (qI sR env)).all (·.1.isSome)=true) (hkw:(qH pos (qI sR env)).any (·.1.isNone)=false) :
 ax M A (callWith pos (.type T) [] (cK pos (bA [e] env)) (qH pos (qI sR env))) Q E s:=by
 have h':ax M A (evalArgs (.type T) true (cK pos (bA [e] env)) (qH pos (qI sR env))) (λa s1=>ax M A (call (.type T) ([]++a.pos) a.kw) Q E s1) E s:=by
  rw[he] at h ⊢
  exact evalArgs_kwB jr h
 unfold callWith
 refine ay (j9 (aC h' (λa s1 h1=>ay (Km ?_)) λ_ _ z=>z))
 simp only[a0t,hkw,Bool.or_false]
 refine ay (aM (ay (aC h1 (λr s2 hr=>ay (j9 (wpAny_point (aM hr)))) λ_ _ z=>z)))
section
variable {X:Cx}{a b:Expr}{ga gb:G->R D}
theorem x8u{elts:List Expr}{kt}{pt p pos kp:Pos}{v:Expr}(ha:iL X a ga)(hv:PD X v (gC (.int 1)))(hm:X.mg "enumerate"=none)(hg:Gl X "enumerate":=by rfl)(hs:bA [a] X.env=[(false,eval a X.env)]:=by rfl) :
 kA Hi X (.Tuple elts kt pt) (.Call (.Name "enumerate" p) [a] [⟨some "start",v,kp⟩] pos) (x1m ga):=by
 refine⟨λpins s σ H F Γ I fo rl cw=>?_⟩
 refine mB (iE I hg hm PR ?_)
 refine w0k ?_ (by rw[hs];rfl) (by rw[hs];rfl) rfl rfl
 rw[hs]
 show ax _ _ (gf ((false,eval a X.env)::cK pos [])) _ _ s
 refine iA (aC (ha.run pins s σ H F Γ I fo rl (R.left cw)) (λu s1 ⟨d,y,H1,e1,I1,r1,S1,i1⟩=>ke ?_) λ_ _ x=>x.bind _)
 have aW:=R.next cw e1
 refine kws_cons (aC (hv.run pins s1 σ H1 F Γ I1 (fo.same S1) (rl.same S1) (λz=>nomatch z)) (λu2 s2 ⟨d2,y2,H2,e2,I2,r2,S2,i2⟩=>kws_nil ?_) λ_ _ x=>?_)
 ·cases e2
  rw[Is.bO.mp i2] at r2
  obtain⟨tk,rfl⟩:=r2
  cases d with
  | lst ds =>
    obtain⟨l,xs,rfl,q1,j1⟩:=Is.fA.mp i1
    cases (show u=c_ l from r1)
    have q2:bM X.K H2 l xs:=S2.seq ((lY (F:=F)).seq q1)
    obtain⟨its,rv,pl,hz⟩:=I2.list q2
    show ax _ _ (call (.type "enumerate") [.ref l] [(cU "start",.int 1 tk)]) _ _ s2
    refine w0j pl.isList λh' a1 a2 a3 a4=>?_
    refine Ks (s:={ s2 with heap:=h' }) a1 ?_
    have I3:Inv X pins σ H2 { s2 with heap:=h' }:=I2.kept (t':=s2.toks) a4
    refine⟨dS 1 ds,s2.heap.objs.size+1,_,_,HV X.K l,H2,R.step e1 _,rfl,I3,S1.trans S2,x8f (it:=s2.heap.objs.size) (by show @Ne Nat _ _;lia),⟨⟨_,a1⟩,a2⟩,λc hc=>?_,w3v ((jC S2).seq q1) (j1.same (jC S2))⟩
    simp only[fF,gN,or_false] at hc
    have vZ:s2.heap.objs.size<=c:=by rcases hc with rfl | rfl<;>lia
    exact I2.ve vZ (I2.aS.fresh vZ)
  | _=>exact absurd rfl aW
 ·obtain⟨c,H',e,_⟩:=x
  cases e
end
section
variable {X:Cx}{e:Expr}{pos p:Pos}{x:Str}{es:List Expr}{gs:G->R (List D)}
end
abbrev zP (X:Cx):HeapKind X.prog X.w (List Int):=tupleKind (bD X.prog X.w)
def DK(X:Cx)(H:Hp)(ob:Obj)(ks:List (List Int)):Prop:=∃(xs:List (List Int×Addr×Value)) (es:Array RZ) (ep:Nat),ob.ExactDict/\ob.data = .dict es ep/\es.toList=xs.map (entryOfKey (zP X))/\(xs.map (·.1)).Nodup /\
 (∀x∈xs,b6 X.K H x.2.1 (x.1.map V.int))/\(∀k,k∈xs.map (·.1)↔k∈ks)/\xs.length<=ks.length
section
variable {X:Cx}{pins:List (Addr×Obj)}{σ:St}{H:Hp}{s:ai}{a b:Addr}{ob:Obj}{ks:List (List Int)}{k:List Int}
theorem Qy{P:aY}{w:aO}:∀{ns:List Int} {its:List Value},Vals (ns.map V.int) its->ItemsAre (bD P w) ns its
 | [],_,h=>by cases h;exact .nil
 | n::ns,_,h=>by
   cases h with
   | cons h1 h2 =>
     obtain⟨t,rfl⟩:=h1
     exact .cons (by simp[bD,Jz]) (Qy h2)
theorem CL(I:Inv X pins σ H s)(h:b6 X.K H b (k.map V.int)):(zP X).is s.heap k b:=by
 obtain⟨its,r,⟨o,h1,h2,n,h3⟩,_⟩:=I.tuple h
 exact⟨o,its.toArray,n,h1,h2,h3,by simpa using Qy r⟩
theorem DK.dict(I:Inv X pins σ H s)(h:s.heap.get? a=some ob)(dk:DK X H ob ks):∃xs:List (List Int×Addr×Value),s.heap.DictOfH (zP X) a xs/\(∀x∈xs,b6 X.K H x.2.1 (x.1.map V.int))/\(∀k,k∈xs.map (·.1)↔k∈ks)/\xs.length<=ks.length:=by
 obtain⟨xs,es,ep,h1,h2,h3,h4,h5,h6,h7⟩:=dk
 exact⟨xs,⟨ob,es,ep,h,h1,h2,h3,λx hx=>CL I (h5 x hx),h4⟩,h5,h6,h7⟩
theorem w4r(xs:List (List Int×Addr×Value))(k:List Int):(atKey xs k).isSome=decide (k∈xs.map (·.1)):=by
 unfold atKey
 rw[Option.isSome_map,a6f,List.find?_isSome,decide_eq_true_iff]
 constructor
 ·rintro⟨x,hx,e⟩
  exact List.mem_map.mpr ⟨x,hx,of_decide_eq_true e⟩
 ·intro h
  obtain⟨x,hx,e⟩:=List.mem_map.mp h
  exact⟨x,hx,decide_eq_true e⟩
theorem DK.put{H₀:Hp}{E:Value->ai->Prop}{Q:Unit->ai->Prop}{v:Value}(I:Inv X pins σ H s)(S:aT H₀ H)(h:s.heap.get? a=some ob)(dk:DK X H₀ ob ks)(hk:b6 X.K H₀ b (k.map V.int))(hu:X.A.units+64<fU)(hl:ks.length<=20000)
 (q:∀h' CM tk,h'.get? a=some CM->DK X H₀ CM (ks++[k])->qr a s.heap h'->Q () { s with heap:=h',toks:=tk }) :
 ax (aF X.prog X.w) X.A (RD (.ref a) (.ref b) v) Q E s:=by
 obtain⟨xs,G3,ep0,z1,z2,z3,z4,h2,h3,h4⟩:=dk
 have h1:s.heap.DictOfH (zP X) a xs:=⟨ob,G3,ep0,h,z1,z2,z3,λx hx=>CL I (pO S (h2 x hx)),z4⟩
 refine wpAny_setItem_heap (knd:=zP X) (show X.A.units+1<fU by lia) (CL I (pO S hk)) h1 (λh' hd hs=>?_) (by rw[nE];lia)
 obtain⟨CM,es,ep,g1,g2,g3,g4,g5,g6⟩:=hd
 refine q h' CM _ g1 ⟨_,es,ep,g2,g3,g4,g6,?_,?_,?_⟩ hs
 ·intro x hx
  unfold To at hx
  split at hx
  ·obtain⟨y,hy,rfl⟩:=List.mem_map.mp hx
   unfold putAt
   split
   ·exact h2 y hy
   ·exact h2 y hy
  ·rcases List.mem_append.mp hx with z | z
   ·exact h2 x z
   ·rw[nN] at z;subst z;exact hk
 ·intro k'
  rw[JV,nN,<-h3 k']
  unfold To
  split
  ·rename_i hz
   rw[w4r,decide_eq_true_iff] at hz
   rw[ka,show((λx:List Int×Addr×Value=>x.1) ∘ putAt k v)=λx=>x.1 by funext x;simp only[Function.comp,putAt];split<;>rfl]
   exact⟨.inl,λz=>z.elim id λe=>e ▸ hz⟩
  ·rw[lx,JV]
   simp
 ·unfold To
  split
  ·rw[bu,fD];lia
  ·rw[fD,fD];exact Nat.add_le_add_right h4 1
theorem DK.same{H':Hp}(dk:DK X H ob ks)(S:aT H H'):DK X H' ob ks:=by
 obtain⟨xs,es,ep,h1,h2,h3,h4,h5,h6⟩:=dk
 exact⟨xs,es,ep,h1,h2,h3,h4,λx hx=>pO S (h5 x hx),h6⟩
def oM(ks:List (List Int)):List D:=ks.map λk=>.tup (k.map D.int)
theorem w2p{xs:List D}(h:xs.all D.tf=true):∃ks,xs=oM ks:=by
 induction xs with
 | nil=>exact⟨[],rfl⟩
 | cons d r ih =>
   rw[xp,jf] at h
   obtain⟨ks,rfl⟩:=ih h.2
   cases d with
   | tup ds =>
     have:∃k:List Int,ds=k.map D.int:=by
      have h1:(ds.all λd=>match d with | .int _=>true | _=>false)=true:=h.1
      clear h ih
      induction ds with
      | nil=>exact⟨[],rfl⟩
      | cons e r ih =>
        rw[xp,jf] at h1
        obtain⟨k,rfl⟩:=ih h1.2
        cases e with
        | int z=>exact⟨z::k,rfl⟩
        | _=>exact absurd h1.1 (by simp)
     obtain⟨k,rfl⟩:=this
     exact⟨k::ks,rfl⟩
   | _=>exact absurd h.1 (by simp[D.tf])
theorem w5d{K:aD}{H:Hp}{ks:List (List Int)}{ys:List V}(h:aA K H (oM ks) ys){j:Nat}{y:V}(hy:ys[j]? = some y):∃k b,ks[j]? = some k/\y = .ref b/\b6 K H b (k.map V.int):=by
 obtain⟨d,ed,iv⟩:=h.v_ hy
 unfold oM at ed
 rw[cm] at ed
 obtain⟨k,ek,rfl⟩:=Option.map_eq_some_iff.mp ed
 obtain⟨b,zs,e,h1,h2⟩:=Is.eZ.mp iv
 rw[h2.B5] at h1
 exact⟨k,b,ek,e,h1⟩
end
def ja(m i pt:Nat):jh:={ j:=i,more:=gj m i-i,i:=i,perturb:=pt,dummy:=none }
def lg(m:Nat)(p:jh):jh :=
 if p.more>0 then { p with j:=p.j+1,more:=p.more-1 } else
 { p with j:=(eK m p.i p.perturb).1,more:=gj m (eK m p.i p.perturb).1-(eK m p.i p.perturb).1,i:=(eK m p.i p.perturb).1,perturb:=(eK m p.i p.perturb).2 }
def cM(m:Nat)(p:jh):Nat->jh
 | 0=>p
 | n+1=>cM m (lg m p) n
theorem wC(m:Nat):∀(a b:Nat) (p:jh),cM m p (a+b)=cM m (cM m p a) b
 | 0,b,p=>by rw[fE];rfl
 | a+1,b,p=>by rw[show a+1+b=(a+b)+1 by lia];exact wC m a b (lg m p)
theorem x8b(m n:Nat)(p:jh):cM m p (n+1)=lg m (cM m p n):=wC m n 1 p
theorem x7x(m:Nat)(p:jh):(lg m p).dummy=p.dummy:=by
 unfold lg;split<;>rfl
theorem HW(m:Nat):∀(k:Nat) (p:jh),k<=p.more->cM m p k={ p with j:=p.j+k,more:=p.more-k }
 | 0,p,_=>rfl
 | k+1,p,h=>by
   show cM m (lg m p) k=_
   have e:lg m p={ p with j:=p.j+1,more:=p.more-1 }:=by unfold lg;rw[if_pos (by lia)]
   rw[e,HW m k _ (by show k<=p.more-1;lia)]
   obtain⟨j,mo,i,pt,d⟩:=p
   simp only[SetTable.Probe.mk.injEq,and_true,true_and]
   constructor<;>lia
theorem HX(m:Nat)(p:jh)(hd:p.dummy=none):cM m p (p.more+1)=ja m (eK m p.i p.perturb).1 (eK m p.i p.perturb).2:=by
 rw[x8b,HW m p.more p (a7 _)]
 unfold lg
 rw[if_neg (by show ¬p.more-p.more>0;lia)]
 obtain⟨j,mo,i,pt,d⟩:=p
 cases hd
 rfl
def iu(m:Nat)(q:Nat×Nat):Nat->Nat×Nat
 | 0=>q
 | n+1=>iu m (eK m q.1 q.2) n
theorem Qz(m:Nat):∀(a b:Nat) (q:Nat×Nat),iu m q (a+b)=iu m (iu m q a) b
 | 0,b,q=>by rw[fE];rfl
 | a+1,b,q=>by rw[show a+1+b=(a+b)+1 by lia];exact Qz m a b (eK m q.1 q.2)
theorem QA(m:Nat):∀(a:Nat) (q:Nat×Nat),(iu m q a).2=q.2/32^a
 | 0,q=>by simp[iu]
 | a+1,q=>by
   show(iu m (eK m q.1 q.2) a).2=_
   rw[QA m a,show(eK m q.1 q.2).2=q.2/32 from rfl,Nat.div_div_eq_div_mul,Al,sC 32]
theorem zQ(m i pt:Nat):(eK m i pt).1<=m:=a8m (uT _ (Nat.succ_pos _))
theorem QB(m:Nat):∀(a:Nat) (q:Nat×Nat),q.1<=m->(iu m q a).1<=m
 | 0,q,h=>h
 | a+1,q,h=>QB m a _ (zQ m q.1 q.2)
theorem a0u{m:Nat}(hm:m=7∨m=31):∀i,i<m+1->∀j,j<m+1->∃k,k<m+1/\(iu m (i,0) k).1=j:=by
 rcases hm with rfl | rfl<;>decide +kernel
theorem QC{m:Nat}(hm:m=7∨m=31){i pt j:Nat}(hi:i<=m)(hp:pt<2^64)(hj:j<=m):∃b,b<=13+m/\(iu m (i,pt) b).1=j:=by
 have z:(iu m (i,pt) 13).2=0:=by
  rw[QA]
  exact Nat.div_eq_of_lt (DA hp (by decide))
 obtain⟨k,hk,e⟩:=a0u hm (iu m (i,pt) 13).1 (by have:=QB m 13 (i,pt) hi;lia) j (by lia)
 refine⟨13+k,by lia,?_⟩
 rw[Qz,<-e,show iu m (i,pt) 13=((iu m (i,pt) 13).1,0) from by rw[<-z]]
theorem HY(m i:Nat):gj m i-i<=9:=by unfold gj;split<;>lia
theorem QD(m:Nat):∀(b i pt:Nat),∃n,n<=10*b/\cM m (ja m i pt) n=ja m (iu m (i,pt) b).1 (iu m (i,pt) b).2
 | 0,i,pt=>⟨0,by lia,rfl⟩
 | b+1,i,pt=>by
   obtain⟨n,hn,e⟩:=QD m b (eK m i pt).1 (eK m i pt).2
   refine⟨(gj m i-i+1)+n,by have:=HY m i;lia,?_⟩
   rw[wC,show gj m i-i+1=(ja m i pt).more+1 from rfl,HX m _ rfl]
   exact e
structure jF (m:Nat) (p:jh):Prop where
 i:p.i<=m
 pt:p.perturb<2^64
 more:p.more<=9
 i9:p.dummy=none
 jm:p.j+p.more<=m
theorem HZ{m i:Nat}(h:i<=m):gj m i<=m:=by unfold gj;split<;>lia
theorem H4(m i:Nat):i<=gj m i:=by unfold gj;split<;>lia
theorem jF.a0v{m i pt:Nat}(hi:i<=m)(hp:pt<2^64):jF m (ja m i pt):=⟨hi,hp,HY m i,rfl,by have:=HZ hi;have:=H4 m i;show i+(gj m i-i)<=m;lia⟩
theorem jF.a0w{m:Nat}{p:jh}(h:jF m p):jF m (lg m p):=by
 obtain⟨a,b,c,d,e⟩:=h
 unfold lg
 split
 ·exact⟨a,b,by show p.more-1<=9;lia,d,by show p.j+1+(p.more-1)<=m;lia⟩
 ·exact⟨zQ _ _ _,by show p.perturb/32<2^64;lia,HY _ _,d,by
   have h1:=HZ (zQ m p.i p.perturb)
   have h2:=H4 m (eK m p.i p.perturb).1
   show(eK m p.i p.perturb).1+(gj m (eK m p.i p.perturb).1-(eK m p.i p.perturb).1)<=m
   lia⟩
theorem jF.H8{m:Nat}:∀(n:Nat) {p:jh},jF m p->jF m (cM m p n)
 | 0,_,h=>h
 | n+1,_,h=>jF.H8 n h.a0w
theorem a0x{m:Nat}(hm:m=7∨m=31){p:jh}(g:jF m p){j:Nat}(hj:j<=m):∃n,n<10*qO m/\(cM m p n).j=j:=by
 obtain⟨b,hb,e⟩:=QC hm (i:=(eK m p.i p.perturb).1) (pt:=(eK m p.i p.perturb).2) (zQ _ _ _) (by have:=g.pt;show p.perturb/32<2^64;lia) hj
 obtain⟨n,hn,e2⟩:=QD m b (eK m p.i p.perturb).1 (eK m p.i p.perturb).2
 refine⟨(p.more+1)+n,by have:=g.more;unfold qO;lia,?_⟩
 rw[wC,HX m p g.i9,e2]
 exact e
theorem H9:∀(n:Nat) (l:List Nat),l.length<n->∃j,j<n/\j ∉ l
 | 0,l,h=>absurd h (jK _)
 | n+1,l,h=>by
   by_cases q:n∈l
   ·have hl:(l.filter (·≠n)).length<n:=by
     have:(l.filter (·≠n)).length<l.length:=List.length_filter_lt_length_iff_exists.mpr ⟨n,q,by simp⟩
     lia
    obtain⟨j,hj,hn⟩:=H9 n _ hl
    refine⟨j,by lia,λz=>hn (List.mem_filter.mpr ⟨z,by simpa using (by lia:¬j=n)⟩)⟩
   ·exact⟨n,qx _,q⟩
def qd(m:Nat)(qe:Nat->Prop)(h:Int)(j:Nat):Prop :=
 ∃n,(cM m (ja m (iV h%(m+1)) (iV h)) n).j=j/\∀k,k<n->qe (cM m (ja m (iV h%(m+1)) (iV h)) k).j
theorem qd.mono{m:Nat}{qe QE:Nat->Prop}{h:Int}{j:Nat}(x:qd m qe h j)(f:∀j,qe j->QE j):qd m QE h j :=
 let ⟨n,a,b⟩:=x;⟨n,a,λk hk=>f _ (b k hk)⟩
theorem H_(m:Nat)(h:Int):jF m (ja m (iV h%(m+1)) (iV h)):=by
 refine jF.a0v (a8m (uT _ (Nat.succ_pos _))) ?_
 unfold iV
 have:h%(2^64:Int)<2^64:=JS _ (by decide)
 have h0:0<=h%(2^64:Int):=JR _ (by decide)
 lia
structure iO (t:cV) (L:List (Nat×Int×Value)):Prop where
 mask:t.mask=7∨t.mask=31
 i9:t.dummies=#[]
 r_:t.place.toList=L.map (·.1)
 up:(L.map (·.1)).Pairwise (·<·)
 le:∀q∈L,q.1<=t.mask
 room:L.length<=t.mask
 reach:∀q∈L,qd t.mask (λj=>j∈L.map (·.1)) q.2.1 q.1
theorem iO.live{t:cV}{L:List (Nat×Int×Value)}(T:iO t L){i:Nat}{q:Nat×Int×Value}(h:L[i]? = some q):t.slot q.1 = .live i:=by
 have hp:t.place[i]? = some q.1:=by rw[<-uX,T.r_,cm,h];rfl
 have eE:t.place.toList.Pairwise (·<·):=by rw[T.r_];exact T.up
 obtain⟨b1,b2,b3⟩:=HA eE q.1
 have e:fc t.place q.1=i:=by
  rcases uN (fc t.place q.1) i with w | w | w
  ·obtain⟨hi,ei⟩:=Array.getElem?_eq_some_iff.mp hp
   have hb:fc t.place q.1<t.place.size:=by lia
   have:=List.pairwise_iff_getElem.mp eE _ i (by simpa using hb) (by simpa using hi) w
   rw[qK,qK,ei] at this
   have:=b3 _ _ (a7 _) (iU hb)
   lia
  ·exact w
  ·exact absurd (b2 i _ w hp) (jb _)
 unfold Kv
 dsimp only
 rw[e,hp]
 simp
theorem iO.slot_mem{t:cV}{L:List (Nat×Int×Value)}(T:iO t L)(j:Nat):(∃i q,L[i]? = some q/\q.1=j/\t.slot j = .live i)∨(j ∉ L.map (·.1)/\t.slot j = .empty):=by
 by_cases h:j∈L.map (·.1)
 ·obtain⟨q,hq,rfl⟩:=List.mem_map.mp h
  obtain⟨i,hi⟩:=List.mem_iff_getElem?.mp hq
  exact .inl ⟨i,q,hi,rfl,T.live hi⟩
 ·refine .inr ⟨h,?_⟩
  unfold Kv
  dsimp only
  have:t.place[fc t.place j]? ≠ some j:=λz=>h (by
   rw[<-T.r_]
   rw[<-uX] at z
   exact fV z)
  rw[CB T.i9]
  simp[this]
theorem iO.QF{t:cV}{L:List (Nat×Int×Value)}(T:iO t L)(f:Nat->Int)(x:Int):∀(fuel:Nat) (p:jh),p.dummy=none->(∃n,n<fuel/\(cM t.mask p n).j ∉ L.map (·.1)) ->
 ∃n,(∀k,k<n->∃i,t.slot (cM t.mask p k).j = .live i/\f i≠x)/\(((cM t.mask p n).j ∉ L.map (·.1)/\nR t f x fuel p=some (.empty (cM t.mask p n).j none)) ∨
  ∃i q,L[i]? = some q/\q.1=(cM t.mask p n).j/\f i=x/\nR t f x fuel p=some (.candidate (cM t.mask p n).j i (cM t.mask p (n+1))))
 | 0,p,_,⟨n,h,_⟩=>absurd h (jK _)
 | fuel+1,p,hd,⟨n,hn,hm⟩=>by
   rcases T.slot_mem p.j with ⟨i,q,hq,e,hs⟩ | ⟨e,hs⟩
   ·by_cases hf:f i=x
    ·refine⟨0,λk hk=>absurd hk (jK _),.inr ⟨i,q,hq,e,hf,?_⟩⟩
     unfold nR
     rw[hs]
     simp only[hf,beq_self_eq_true,if_true]
     rfl
    ·have B1:n≠0:=λz=>by
      subst z
      exact hm (List.mem_map.mpr ⟨q,fV hq,e⟩)
     obtain⟨n',rfl⟩:∃n',n=n'+1:=⟨n-1,by lia⟩
     obtain⟨r,h1,h2⟩:=T.QF f x fuel (lg t.mask p) ((x7x _ _).trans hd) ⟨n',by lia,hm⟩
     have hgo:nR t f x (fuel+1) p=nR t f x fuel (lg t.mask p):=by
      rw[show nR t f x (fuel+1) p=(match t.slot p.j with
       | .empty=>some (.empty p.j p.dummy)
       | .dummy=>nR t f x fuel (t.advance { p with dummy:=some p.j })
       | .live i=>if f i==x then some (.candidate p.j i (t.advance p)) else nR t f x fuel (t.advance p)) from rfl,hs]
      dsimp only
      rw[if_neg (by simpa using hf)]
      rfl
     refine⟨r+1,λk hk=>?_,?_⟩
     ·cases k with
      | zero=>exact⟨i,hs,hf⟩
      | succ k=>exact h1 k (by lia)
     ·rw[hgo];exact h2
   ·refine⟨0,λk hk=>absurd hk (jK _),.inl ⟨e,?_⟩⟩
    unfold nR
    rw[hs]
    simp only[hd]
    rfl
theorem iO.free{t:cV}{L:List (Nat×Int×Value)}(T:iO t L){p:jh}(g:jF t.mask p):∃n,n<10*qO t.mask/\(cM t.mask p n).j ∉ L.map (·.1):=by
 obtain⟨j,hj,hn⟩:=H9 (t.mask+1) (L.map (·.1)) (by rw[bu];have:=T.room;lia)
 obtain⟨n,h1,h2⟩:=a0x T.mask g (j:=j) (by lia)
 exact⟨n,h1,by rw[h2];exact hn⟩
theorem iO.put{t:cV}{L:List (Nat×Int×Value)}(T:iO t L){j:Nat}{h:Int}{x:Value}(hj:j ∉ L.map (·.1))(hle:j<=t.mask)(hr:qd t.mask (λj=>j∈L.map (·.1)) h j)(room:L.length+1<=t.mask){t':cV}(e1:t'.mask=t.mask)(e2:t'.dummies=t.dummies)(e3:t'.place=kH t.place (fc t.place j) j)
 {es:Array (Int×Value)} (qf:es.toList=L.map (·.2)):∃L',iO t' L'/\(kH es (fc t.place j) (h,x)).toList=L'.map (·.2)/\L'.Perm ((j,h,x)::L):=by
 have eE:t.place.toList.Pairwise (·<·):=by rw[T.r_];exact T.up
 have hnb:t.place[fc t.place j]? ≠ some j:=λz=>hj (by
  rw[<-T.r_];rw[<-uX] at z;exact fV z)
 have u:=PV eE hnb
 generalize fc t.place j=p at *
 have ny:(L.take p++(j,h,x)::L.drop p).Perm ((j,h,x)::L):=by
  have:=List.perm_middle (a:=(j,h,x)) (l₁:=L.take p) (l₂:=L.drop p)
  rw[a7a] at this
  exact this
 have v8:∀q,q∈L.take p++(j,h,x)::L.drop p↔q=(j,h,x)∨q∈L:=λq=>by rw[ny.mem_iff,fF]
 have QG:∀a,a∈(L.take p++(j,h,x)::L.drop p).map (·.1)↔a=j∨a∈L.map (·.1):=λa=>by
  simp only[uO,v8]
  constructor
  ·rintro⟨q,rfl | hq,rfl⟩
   ·exact .inl rfl
   ·exact .inr ⟨q,hq,rfl⟩
  ·rintro(rfl | ⟨q,hq,rfl⟩)
   ·exact⟨_,.inl rfl,rfl⟩
   ·exact⟨q,.inr hq,rfl⟩
 have fM:(kH t.place p j).toList=(L.take p++(j,h,x)::L.drop p).map (·.1):=by
  rw[SQ,T.r_,lx,cJ,Dp,Dn]
 refine⟨L.take p++(j,h,x)::L.drop p,⟨by rw[e1];exact T.mask,by rw[e2];exact T.i9,by rw[e3];exact fM,by rw[<-fM];exact u,λq hq=>?_,by rw[ny.length_eq,e1];exact room,λq hq=>?_⟩,?_,ny⟩
 ·rw[e1]
  rcases(v8 q).mp hq with rfl | z
  ·exact hle
  ·exact T.le q z
 ·rw[e1]
  rcases(v8 q).mp hq with rfl | z
  ·exact hr.mono λa ha=>(QG a).mpr (.inr ha)
  ·exact(T.reach q z).mono λa ha=>(QG a).mpr (.inr ha)
 ·rw[SQ,qf,lx,cJ,Dp,Dn]
theorem QH{m:Nat}{ow:Array (Option Nat)}{Lo:List Nat}(ho:∀j,j<=m->((ow.getD j (some 0)).isNone=true↔j ∉ Lo)):∀(fuel i pt:Nat),i<=m->(∃b,b<fuel/\(iu m (i,pt) b).1 ∉ Lo) ->
 ∃j n,DL m ow fuel i pt=some j/\j<=m/\j ∉ Lo/\(cM m (ja m i pt) n).j=j/\∀k,k<n->(cM m (ja m i pt) k).j∈Lo
 | 0,i,pt,_,⟨b,h,_⟩=>absurd h (jK _)
 | fuel+1,i,pt,hi,⟨b,hb,hn⟩=>by
   have r1:=HZ hi
   have r2:=H4 m i
   have run:∀k,k<=gj m i-i->(cM m (ja m i pt) k).j=i+k:=λk hk=>by
    rw[HW m k (ja m i pt) hk];rfl
   rw[show DL m ow (fuel+1) i pt=(match (bK (gj m i+1-i)).find? λk=>(ow.getD (i+k) (some 0)).isNone with
    | some k=>some (i+k)
    | none=>DL m ow fuel (eK m i pt).1 (eK m i pt).2) from rfl]
   cases hf:(bK (gj m i+1-i)).find? λk=>(ow.getD (i+k) (some 0)).isNone with
   | some k =>
     obtain⟨f1,f2,f3⟩:=List.find?_range_eq_some.mp hf
     have hk:k<gj m i+1-i:=List.mem_range.mp f2
     refine⟨i+k,k,rfl,by lia,(ho _ (by lia)).mp f1,run k (by lia),λq hq=>?_⟩
     rw[run q (by lia)]
     have:=f3 q hq
     by_cases z:i+q∈Lo
     ·exact z
     ·rw[(ho _ (by lia)).mpr z] at this;cases this
   | none =>
     have f:=List.find?_range_eq_none.mp hf
     have qe:∀q,q<=gj m i-i->i+q∈Lo:=λq hq=>by
      have:=f q (by lia)
      by_cases z:i+q∈Lo
      ·exact z
      ·rw[(ho _ (by lia)).mpr z] at this;cases this
     have hb0:b≠0:=λz=>by
      subst z
      exact hn (qe 0 (iT _))
     obtain⟨b',rfl⟩:∃b',b=b'+1:=⟨b-1,by lia⟩
     obtain⟨j,n,e1,e2,e3,e4,e5⟩:=QH ho fuel (eK m i pt).1 (eK m i pt).2 (zQ _ _ _) ⟨b',by lia,hn⟩
     have hw:∀n,cM m (ja m i pt) ((gj m i-i+1)+n)=cM m (ja m (eK m i pt).1 (eK m i pt).2) n:=λn=>by
      rw[wC,show gj m i-i+1=(ja m i pt).more+1 from rfl,HX m _ rfl];rfl
     refine⟨j,(gj m i-i+1)+n,e1,e2,e3,by rw[hw];exact e4,λk hk=>?_⟩
     rcases cG (gj m i-i) k with w | w
     ·obtain⟨k',rfl⟩:∃k',k=(gj m i-i+1)+k':=⟨k-(gj m i-i+1),by lia⟩
      rw[hw];exact e5 k' (by lia)
     ·rw[run k w];exact qe k w
structure qg (m:Nat) (ow:Array (Option Nat)) (done:List Int) (Lo:List Nat):Prop where
 sz:ow.size=m+1
 len:Lo.length=done.length
 le:∀j∈Lo,j<=m
 own:∀(j k:Nat),ow[j]? = some (some k)↔Lo[k]? = some j
 QI:∀(k j:Nat) (h:Int),Lo[k]? = some j->done[k]? = some h->qd m (λj=>j∈Lo) h j
theorem qg.qe{m:Nat}{ow:Array (Option Nat)}{done:List Int}{Lo:List Nat}(O:qg m ow done Lo)(j:Nat)(hj:j<=m):(ow.getD j (some 0)).isNone=true↔j ∉ Lo:=by
 have a_:j<ow.size:=by rw[O.sz];lia
 have hg:ow[j]? = some ow[j]:=iU a_
 have hd:ow.getD j (some 0)=ow[j]:=by simp[Ku,a_]
 rw[hd]
 cases hv:ow[j] with
 | none =>
   simp only[Option.isNone_none,true_iff]
   intro z
   obtain⟨k,hk⟩:=List.mem_iff_getElem?.mp z
   have:=(O.own j k).mpr hk
   rw[hg,hv] at this;cases this
 | some k =>
   simp only[Option.isNone_some,gM,false_iff,Classical.not_not]
   exact fV ((O.own j k).mp (by rw[hg,hv]))
abbrev w7g (m:Nat):Option (Array (Option Nat)×Nat)->Int->Option (Array (Option Nat)×Nat):=λacc h=>do
 let __x <-acc
 match __x with
  | (owner,k)=>do
    let j <-
     DL m owner (qO m) (iV h%(m+1)) (iV h)
    pure (owner.setIfInBounds j (some k),k+1)
theorem qg.step{m:Nat}(hm:m=7∨m=31):∀(rest done:List Int) {ow:Array (Option Nat)} {Lo:List Nat},qg m ow done Lo->done.length+rest.length<=m ->
 ∃CN Ia,rest.foldl (w7g m) (some (ow,done.length))=some (CN,(done++rest).length)/\qg m CN (done++rest) Ia
 | [],done,ow,Lo,O,_=>⟨ow,Lo,by rw[lu];rfl,by rw[lu];exact O⟩
 | h::rest,done,ow,Lo,O,hl=>by
   rw[de] at hl
   obtain⟨e,he,hn⟩:=H9 (m+1) Lo (by rw[O.len];lia)
   have g:=H_ m h
   obtain⟨b,hb,eb⟩:=QC hm g.i g.pt (j:=e) (by lia)
   obtain⟨j,n,f1,f2,f3,f4,f5⟩:=QH O.qe (qO m) (iV h%(m+1)) (iV h) g.i ⟨b,by unfold qO;lia,by rw[show iu m (iV h%(m+1),iV h) b=iu m ((ja m (iV h%(m+1)) (iV h)).i,(ja m (iV h%(m+1)) (iV h)).perturb) b from rfl,eb];exact hn⟩
   have hj:j<ow.size:=by rw[O.sz];lia
   have O':qg m (ow.setIfInBounds j (some done.length)) (done++[h]) (Lo++[j]):=by
    refine⟨by rw[Array.size_setIfInBounds];exact O.sz,by rw[fD,fD,O.len];rfl,λq hq=>?_,λq k=>?_,λk q h' hk hd=>?_⟩
    ·rcases List.mem_append.mp hq with z | z
     ·exact O.le q z
     ·rw[List.mem_singleton.mp z];exact f2
    ·rw[Array.getElem?_setIfInBounds]
     by_cases z:j=q
     ·subst z
      rw[if_pos rfl,if_pos hj]
      constructor
      ·intro w
       have w':done.length=k:=by simpa using w
       rw[<-w',<-O.len,su (a7 _),Dg];rfl
      ·intro w
       rcases cG k Lo.length with y | y
       ·rw[sy y] at w
        exact absurd (fV w) f3
       ·have:k<(Lo++[j]).length:=(List.getElem?_eq_some_iff.mp w).1
        rw[fD,xc] at this
        have:k=done.length:=by have:=O.len;lia
        rw[this]
     ·rw[if_neg z,O.own q k]
      rcases cG k Lo.length with y | y
      ·rw[sy y]
      ·rw[fK y,su y]
       constructor
       ·intro w;cases w
       ·intro w
        cases hk:k-Lo.length with
        | zero=>rw[hk] at w;exact absurd (by simpa using w) z
        | succ r=>rw[hk] at w;simp at w
    ·have mono:∀a,a∈Lo->a∈Lo++[j]:=λa ha=>je _ ha
     rcases cG k Lo.length with y | y
     ·rw[sy y] at hk
      rw[sy (by rw[<-O.len];exact y)] at hd
      exact(O.QI k q h' hk hd).mono mono
     ·rw[su y] at hk
      rw[su (by rw[<-O.len];exact y)] at hd
      cases hz:k-Lo.length with
      | zero =>
        rw[hz] at hk
        rw[show k-done.length=0 by have:=O.len;lia] at hd
        simp only[List.getElem?_cons_zero,sE] at hk hd
        subst hk hd
        exact qd.mono ⟨n,f4,f5⟩ mono
      | succ r=>rw[hz] at hk;simp at hk
   obtain⟨CN,Ia,r1,r2⟩:=qg.step hm rest (done++[h]) O' (by rw[fD,xc];lia)
   refine⟨CN,Ia,?_,by rw[uG] at r2;exact r2⟩
   rw[uG] at r1
   rw[<-show done++([h]++rest)=done++h::rest from rfl,<-r1,a5f]
   congr 1
   show(DL m ow (qO m) (iV h%(m+1)) (iV h)>>=λj=>pure (ow.setIfInBounds j (some done.length),done.length+1))=_
   rw[f1,fD,xc]
   rfl
theorem w6c(es:Array (Int×Value))(hn:es.size<=31)(fg mv:Nat)(led pl:Bool):∃t o L,Kw 31 fg mv led pl (es.map (·.1))=some (t,o)/\iO t L/\(o.filterMap (es[·]?)).toList=L.map (·.2)/\(L.map (·.2)).Perm es.toList/\t.mask=31/\t.led=led/\t.plain=pl/\t.moves=mv:=by
 have O0:qg 31 (Tp (31+1) none) [] []:=by
  refine⟨rfl,rfl,λj hj=>absurd hj gN,λj k=>?_,λk j h hk=>by simp at hk⟩
  rw[Array.getElem?_replicate]
  constructor
  ·intro z;split at z<;>simp at z
  ·intro z;simp at z
 obtain⟨ow,Lo,r1,O⟩:=qg.step (m:=31) (.inr rfl) (es.map (·.1)).toList [] O0 (by simp;lia)
 rw[JW] at O r1
 have uv:SS 31 (es.map (·.1))=some ow:=by
  unfold SS
  rw[<-Array.foldl_toList]
  rw[show(some (Tp (31+1) (none:Option Nat),0))=some (Tp (31+1) (none:Option Nat),([]:List Int).length) from rfl,r1]
  rfl
 have hlen:Lo.length=es.size:=by rw[O.len];simp
 let live:List (Nat×Nat):=(bK (31+1)).filterMap λj=>(ow.getD j none).map (j,·)
 have ux:∀j k,(j,k)∈live↔Lo[k]? = some j:=λj k=>by
  show(j,k)∈(bK (31+1)).filterMap _↔_
  rw[a5k,<-O.own j k]
  constructor
  ·rintro⟨a,ha,e⟩
   have a_:a<ow.size:=by rw[O.sz];exact List.mem_range.mp ha
   have hd:ow.getD a none=ow[a]:=by simp[Ku,a_]
   rw[hd] at e
   cases hv:ow[a] with
   | none=>rw[hv] at e;cases e
   | some v =>
     rw[hv] at e
     simp only[xh,sE,DB] at e
     obtain⟨rfl,rfl⟩:=e
     rw[iU a_,hv]
  ·intro e
   obtain⟨a_,hv⟩:=Array.getElem?_eq_some_iff.mp e
   refine⟨j,List.mem_range.mpr (by rw[O.sz] at a_;exact a_),?_⟩
   have hd:ow.getD j none=ow[j]:=by simp[Ku,a_]
   rw[hd,hv];rfl
 have eE:(live.map (·.1)).Pairwise (·<·):=by
  rw[Sr]
  refine List.Pairwise.filterMap (R:=(·<·)) _ (λa a' G9 b hb b' fY=>?_) a6h
  cases hv:ow.getD a none with
  | none=>rw[hv] at hb;cases hb
  | some v =>
    cases zR:ow.getD a' none with
    | none=>rw[zR] at fY;cases fY
    | some v' =>
      rw[hv] at hb;rw[zR] at fY
      simp only[xh,sE] at hb fY
      rw[<-hb,<-fY];exact G9
 have vN:(live.map (·.2)).Nodup:=by
  refine List.pairwise_map.mpr ((List.pairwise_map.mp eE).imp_of_mem λ{a b} ha hb mX e=>?_)
  have h1:=(ux a.1 a.2).mp ha
  have h2:=(ux b.1 b.2).mp hb
  rw[e,h2] at h1
  have:b.1=a.1:=by simpa using h1
  lia
 have Ib:(live.map (·.2)).Perm (bK es.size):=(List.perm_ext_iff_of_nodup vN a5z).mpr λk=>by
  rw[JU,uO]
  constructor
  ·rintro⟨⟨j,k'⟩,hq,rfl⟩
   have:=(List.getElem?_eq_some_iff.mp ((ux j k').mp hq)).1
   rw[hlen] at this;exact this
  ·intro hk
   have b9:k<Lo.length:=by rw[hlen];exact hk
   exact⟨(Lo[k],k),(ux _ _).mpr (cf b9),rfl⟩
 have a_:∀q∈live,q.2<es.size:=λq hq=>List.mem_range.mp (Ib.mem_iff.mp (List.mem_map.mpr ⟨q,hq,rfl⟩))
 have a0y:∀(l:List (Nat×Nat)),(∀q∈l,q.2<es.size)->(l.map (·.2)).filterMap (es[·]?)=(l.map λq=>(q.1,(es[q.2]?).getD (0,.none))).map (·.2):=λl=>by
  induction l with
  | nil=>intro _;rfl
  | cons q l ih =>
    intro hq
    have h0:=hq q bB
    rw[cJ,cJ,cJ,List.filterMap_cons_some (b:=es[q.2]) (iU h0),ih λx hx=>hq x (bL _ hx),iU h0]
    rfl
 have QJ:(live.map λq=>(q.1,(es[q.2]?).getD (0,.none))).map (·.2)=(live.map (·.2)).filterMap (es[·]?):=(a0y live a_).symm
 have Ic:(live.map λq=>(q.1,(es[q.2]?).getD ((0:Int),kE))).map (·.1)=live.map (·.1):=by rw[ka];rfl
 have a0z:live.length=es.size:=by have:=Ib.length_eq;simpa using this
 refine⟨{ mask:=31,place:=(live.map (·.1)).toArray,dummies:=#[],finger:=fg,led:=led,moves:=mv,plain:=pl },(live.map (·.2)).toArray,live.map λq=>(q.1,(es[q.2]?).getD (0,.none)),?_,⟨.inr rfl,rfl,?_,by rw[Ic];exact eE,λq hq=>?_,?_,λq hq=>?_⟩,?_,?_,rfl,rfl,rfl,rfl⟩
 ·unfold Kw
  rw[uv];rfl
 ·rw[Ic]
 ·obtain⟨⟨j,k⟩,vY,rfl⟩:=List.mem_map.mp hq
  exact O.le j (fV ((ux j k).mp vY))
 ·rw[bu,a0z];exact hn
 ·obtain⟨⟨j,k⟩,vY,rfl⟩:=List.mem_map.mp hq
  have hk:=a_ _ vY
  have h1:=(ux j k).mp vY
  dsimp only at hk ⊢
  rw[iU hk,xj]
  rw[show(λa=>a∈SU (λx=>x.1) (SU (λq=>(q.1,(es[q.2]?).getD ((0:Int),kE))) live))=λa=>a∈live.map (·.1) from by rw[Ic]]
  refine qd.mono (O.QI k j (es[k]'hk).1 h1 (by simp[hk])) λa ha=>?_
  obtain⟨r,hr⟩:=List.mem_iff_getElem?.mp ha
  exact List.mem_map.mpr ⟨((a,r):Nat×Nat),(ux a r).mpr hr,rfl⟩
 ·rw[Array.toList_filterMap,QJ]
 ·rw[QJ]
  exact(Ib.filterMap _).trans (by rw[Tj])
section
variable {prog:aY}{w:aO}{A:Around}{E:Value->ai->Prop}{s:ai}
abbrev dm (prog:aY) (w:aO) (h:Heap) (k:List Int) (b:Addr):Prop:=IsTupleKey (bD prog w) h k b
theorem QK{k:List Int}{vs:List Value}(h:ItemsAre (bD prog w) k vs):∀v∈vs,∃n t,v = .int n t:=by
 induction h with
 | nil=>intro v hv;simp at hv
 | @cons k v' ks vs h1 _ ih =>
   intro v hv
   rcases List.mem_cons.mp hv with rfl | hv
   ·cases v with
    | int n t=>exact⟨n,t,rfl⟩
    | _=>cases h1
   ·exact ih v hv
theorem QL{k:List Int}{b:Addr}{Q:Bool->ai->Prop}(hk:dm prog w s.heap k b)(q:Q false s):ax (aF prog w) A (a8n 8 (.ref b)) Q E s:=by
 have hT:=hk.typeIs
 obtain⟨o,items,n,ho,_,hd,hi⟩:=hk
 unfold a8n
 refine ay (Ai hT ?_)
 dsimp only
 rw[if_pos (by decide)]
 refine ay (aM ?_)
 simp only[o_,gM,if_false]
 refine ay (KJ ho hd ?_)
 dsimp only
 refine ay ?_
 rw[<-a8o]
 refine Tq _ (λrest r s'=>r.1=none/\s'=s/\∀v∈rest,∃n t,v = .int n t) _ ?_ ?_ _ _ ⟨rfl,rfl,QK hi⟩
 ·rintro v rest r s' ⟨hr,rfl,jr⟩
  obtain⟨n,t,rfl⟩:=jr v bB
  refine ay (aM ?_)
  simp only[gM,if_false]
  exact aM ⟨rfl,rfl,λu kT=>jr u (bL _ kT)⟩
 ·rintro⟨r1,r2⟩ s' ⟨hr,rfl,_⟩
  simp only at hr
  subst hr
  exact aM q
theorem w7i{k:List Int}{b:Addr}{vs:List Value}{Q:Bool->ai->Prop}(hk:dm prog w s.heap k b)(hv:∀v∈vs,∃k' b',v = .ref b'/\dm prog w s.heap k' b')(q:Q false s):ax (aF prog w) A (a8p (.ref b) vs) Q E s:=by
 unfold a8p
 refine ay ?_
 refine Tq _ (λrest r s'=>r.1=none/\s'=s/\∀v∈rest,∃k' b',v = .ref b'/\dm prog w s.heap k' b') _ ?_ ?_ _ _ ⟨rfl,rfl,hv⟩
 ·rintro v rest r s' ⟨hr,rfl,jr⟩
  have QM:∀v∈rest,∃k' b',v = .ref b'/\dm prog w s'.heap k' b':=λu kT=>jr u (bL _ kT)
  obtain⟨k',b',rfl,b9⟩:=jr v bB
  dsimp only
  split
  ·exact aM ⟨rfl,rfl,QM⟩
  ·refine ay (a8q hk ?_)
   simp only[o_,gM,if_false]
   refine ay (a8q b9 ?_)
   simp only[o_,gM,if_false]
   refine ay (QL hk ?_)
   simp only[gM,if_false]
   refine ay (QL b9 ?_)
   simp only[gM,if_false]
   exact aM ⟨rfl,rfl,QM⟩
 ·rintro⟨r1,r2⟩ s' ⟨hr,rfl,_⟩
  simp only at hr
  subst hr
  exact aM q
theorem w7b{k:List Int}{b:Addr}{Q:Bool->ai->Prop}(hk:dm prog w s.heap k b)(q:Q true s):ax (aF prog w) A (hashByValue 8 (.ref b)) Q E s:=by
 have hT:=hk.typeIs
 obtain⟨o,items,n,ho,_,hd,hi⟩:=hk
 unfold hashByValue
 refine ay (a8b hT F.slot_tuple_hash.lookup ?_)
 dsimp only
 refine ay (KJ ho hd ?_)
 refine ay ?_
 rw[xj,<-a8o]
 refine Tq _ (λrest r s'=>r.1=none/\s'=s/\∀v∈rest,∃n t,v = .int n t) _ ?_ ?_ _ _ ⟨rfl,rfl,QK hi⟩
 ·rintro v rest r s' ⟨hr,rfl,jr⟩
  obtain⟨n,t,rfl⟩:=jr v bB
  refine ay (aM ?_)
  simp only[o_,gM,if_false]
  exact aM ⟨rfl,rfl,λu kT=>jr u (bL _ kT)⟩
 ·rintro⟨r1,r2⟩ s' ⟨hr,rfl,_⟩
  simp only at hr
  subst hr
  exact aM q
theorem iO.wD{t:cV}{L:List (Nat×Int×Value)}{es:Array (Int×Value)}(T:iO t L)(he:es.toList=L.map (·.2)):t.fits es.size=true:=by
 have h1:t.place.size=L.length:=by rw[<-gK,T.r_,bu]
 have h2:es.size=L.length:=by rw[<-gK,he,bu]
 have h3:=T.room
 unfold SetTable.fits SetTable.fill
 rw[T.i9,h1,h2]
 simp
 exact h3
def QN(prog:aY)(w:aO)(h:Heap)(ks:List (List Int))(L:List (Nat×Int×Value)):Prop:=∀q∈L,∃k b,q.2.2 = .ref b/\dm prog w h k b/\q.2.1=dn (bD prog w) k/\k∈ks
theorem QO{a:Addr}{o:Obj}{es:Array (Int×Value)}{ep:Nat}{t:cV}{L:List (Nat×Int×Value)}{ks:List (List Int)}{k:List Int}{b:Addr}(hu:A.units<fU)(q1:s.heap.get? a=some o)(q3:o.data = .set es ep t)(T:iO t L)(he:es.toList=L.map (·.2))(hE:QN prog w s.heap ks L)(hk:dm prog w s.heap k b)
 {Q:SetFound->ai->Prop} (qy:∀q∈L,∀b',q.2.2 = .ref b'->dm prog w s.heap k b'->Q (.there none) s) (qn:∀(j:Nat),(∀q∈L,∀b',q.2.2 = .ref b'->¬dm prog w s.heap k b')->j ∉ L.map (·.1)->j<=t.mask->qd t.mask (λj=>j∈L.map (·.1)) (dn (bD prog w) k) j->Q (.free j false) s) :
 ∀(d fuel n N:Nat) (st:Option jh),N-n<d->d<=fuel->n<=N->st.getD (t.probeStart (dn (bD prog w) k))=cM t.mask (t.probeStart (dn (bD prog w) k)) n ->
  (cM t.mask (t.probeStart (dn (bD prog w) k)) N).j ∉ L.map (·.1) ->
  (∀r,r<n->∃(i:Nat) (q:Nat×Int×Value),L[i]? = some q/\q.1=(cM t.mask (t.probeStart (dn (bD prog w) k)) r).j/\∀b',q.2.2 = .ref b'->¬dm prog w s.heap k b') ->
  ax (aF prog w) A (setSearchFrom a (.ref b) (dn (bD prog w) k) true fuel st) Q E s
 | 0,fuel,n,N,st,h1,_,_,_,_,_=>absurd h1 (jK _)
 | d+1,0,n,N,st,_,h2,_,_,_,_=>absurd h2 (by lia)
 | d+1,fuel+1,n,N,st,h1,h2,h3,nZ,hN,qU=>by
   have gs:jF t.mask (t.probeStart (dn (bD prog w) k)):=H_ t.mask _
   have gp:=jF.H8 n gs
   unfold setSearchFrom
   refine ay (o9 q1 q3 (T.wD he) ?_)
   dsimp only
   rw[if_neg (show ¬t.gaveWay=true by unfold SetTable.gaveWay;rcases T.mask with e | e<;>rw[e]<;>decide)]
   have rZ:=T.free gp
   have pq:=T.QF (λi=>(es[i]?.map (·.1)).getD 0) (dn (bD prog w) k) (10*qO t.mask) _ gp.i9 rZ
   rw[nZ]
   have qf:∀(i:Nat) (q:Nat×Int×Value),L[i]? = some q->es[i]? = some q.2:=λi q hq=>by rw[<-uX,he,cm,hq];rfl
   obtain⟨r,p1,p2⟩:=pq
   have zS:∀r,cM t.mask (cM t.mask (t.probeStart (dn (bD prog w) k)) n) r=cM t.mask (t.probeStart (dn (bD prog w) k)) (n+r):=λr=>(wC t.mask n r _).symm
   have CO:∀r',r'<n+r->∃(i:Nat) (q:Nat×Int×Value),L[i]? = some q/\q.1=(cM t.mask (t.probeStart (dn (bD prog w) k)) r').j/\∀b',q.2.2 = .ref b'->¬dm prog w s.heap k b':=λr' bQ=>by
    rcases cG r' n with z | z
    ·exact qU r' z
    ·obtain⟨i,vQ,Cz⟩:=p1 (r'-n) (by lia)
     rw[zS,show n+(r'-n)=r' by lia] at vQ
     rcases T.slot_mem (cM t.mask (t.probeStart (dn (bD prog w) k)) r').j with ⟨i',q,hq,e1,e2⟩ | ⟨_,e2⟩
     ·rw[vQ] at e2
      cases e2
      refine⟨i,q,hq,e1,λb' fY b9=>Cz ?_⟩
      obtain⟨k2,b2,g1,g2,g3,_⟩:=hE q (fV hq)
      rw[fY] at g1;cases g1
      rw[qf i q hq,xh,xj,g3,b9.inj g2]
     ·rw[vQ] at e2;cases e2
   split
   ·rename_i met v9
    have CP:nR t (λi=>(es[i]?.map (·.1)).getD 0) (dn (bD prog w) k) (10*qO t.mask) (cM t.mask (t.probeStart (dn (bD prog w) k)) n)=some met:=v9
    rcases p2 with ⟨e1,e2⟩ | ⟨i,q,hq,e0,e1,e2⟩
    ·rw[e2] at CP
     cases CP
     dsimp only
     rw[zS] at e1 ⊢
     refine aM (qn _ (λq hq b' fY b9=>?_) e1 ?_ ⟨n+r,rfl,λk' b9=>?_⟩)
     ·obtain⟨k2,b2,g1,g2,g3,_⟩:=hE q hq
      rw[fY] at g1;cases g1
      have uy:=b9.inj g2
      obtain⟨n1,z1,z2⟩:=T.reach q hq
      rw[g3,<-uy] at z1 z2
      rcases uN n1 (n+r) with y | y | y
      ·obtain⟨i',q',y1,y2,y3⟩:=CO n1 y
       obtain⟨i,hi⟩:=List.mem_iff_getElem?.mp hq
       have l1:=T.live hi
       have l2:=T.live y1
       rw[y2,show(cM t.mask (t.probeStart (dn (bD prog w) k)) n1).j=q.1 from z1,l1] at l2
       cases l2
       rw[hi] at y1;cases y1
       exact y3 b' fY b9
      ·exact e1 (by rw[<-y];rw[show(cM t.mask (t.probeStart (dn (bD prog w) k)) n1).j=q.1 from z1];exact List.mem_map.mpr ⟨q,hq,rfl⟩)
      ·exact e1 (z2 _ y)
     ·have:=(jF.H8 (n+r) gs).jm;lia
     ·obtain⟨i',q',y1,y2,_⟩:=CO k' b9
      exact y2 ▸ List.mem_map.mpr ⟨q',fV y1,rfl⟩
    ·rw[e2] at CP
     cases CP
     dsimp only
     obtain⟨k2,b2,g1,g2,g3,_⟩:=hE q (fV hq)
     obtain⟨qj,qh,qv⟩:=q
     dsimp only at g1 g2 g3 e0
     subst g1
     have qc:=qf i _ hq
     dsimp only at qc
     have lt:n+r<N:=by
      rcases cG (n+r) N with z | z
      ·exact z
      ·exfalso
       rcases cG N (n+r) with y | y
       ·obtain⟨i',q',y1,y2,_⟩:=CO N y
        exact hN (y2 ▸ List.mem_map.mpr ⟨q',fV y1,rfl⟩)
       ·have:N=n+r:=by lia
        rw[this,<-zS,<-e0] at hN
        exact hN (List.mem_map.mpr ⟨_,fV hq,rfl⟩)
     have tl:∀{c:Bool} {x:Sem Bool} {U T':Sem SetFound},(∀(Q1:Bool->ai->Prop),Q1 false s->ax (aF prog w) A x Q1 E s)->ax (aF prog w) A T' Q E s->ax (aF prog w) A (if c=true then (do let r <-x;if r=true then U else T') else T') Q E s:=λ{c x U T'} hx hT=>by
      split
      ·exact ay (hx _ (by rw[if_neg (by decide)];exact hT))
      ·exact hT
     refine tl (λQ1 hQ1=>w7i hk (λv hv=>?_) hQ1) ?_
     ·obtain⟨x,hx,rfl⟩:=List.mem_map.mp hv
      rw[Array.toList_filter] at hx
      have wk:=(List.mem_filter.mp hx).1
      rw[he] at wk
      obtain⟨q2,hq2,rfl⟩:=List.mem_map.mp wk
      obtain⟨k3,b3,w1,w2,_,_⟩:=hE q2 hq2
      exact⟨k3,b3,w1,w2⟩
     ·rw[qc]
      dsimp only
      refine ay (j9 (wpAny_eqBool_tuple hu g2 hk ?_))
      refine ay (o9 q1 q3 (T.wD he) ?_)
      by_cases uy:k2=k
      ·subst uy
       rw[decide_eq_true rfl,if_pos (by decide)]
       exact aM (qy _ (fV hq) b2 rfl g2)
      ·rw[decide_eq_false uy,if_neg (by decide)]
       dsimp only
       rw[show t.sameMemory t.moves t.mask=some true by unfold SetTable.sameMemory;rw[if_pos (beq_self_eq_true _)]]
       dsimp only
       rw[if_pos rfl,<-e0,T.live hq]
       dsimp only
       rw[qc]
       dsimp only
       refine ay (wpAny_isSame_ref_self (ay (aM ?_)))
       rw[if_pos rfl]
       dsimp only
       rw[if_neg (by decide)]
       refine QO hu q1 q3 T he hE hk qy qn d fuel (n+r+1) N (some _) (by lia) (by lia) (by lia) ?_ hN λr' bQ=>?_
       ·rw[xj,zS];rfl
       ·rcases cG r' (n+r) with z | z
        ·exact CO r' z
        ·have:r'=n+r:=by lia
         subst this
         refine⟨i,_,hq,by rw[<-zS];exact e0,λb' fY b9=>uy ?_⟩
         cases fY
         exact g2.inj b9
   ·rename_i v9
    exfalso
    rcases p2 with ⟨_,e2⟩ | ⟨i,q,hq,e0,e1,e2⟩
    ·exact v9 _ e2
    ·exact v9 _ e2
end
section
variable {prog:aY}{w:aO}{A:Around}{E:Value->ai->Prop}{s:ai}
def jG(prog:aY)(w:aO)(N0:Nat)(h:Heap)(a:Addr)(ks:List (List Int)):Prop :=
 ∃(o:Obj) (es:Array (Int×Value)) (ep:Nat) (t:cV) (L:List (Nat×Int×Value)),(h.get? a=some o/\o.ExactSet/\o.data = .set es ep t)/\es.toList=L.map (·.2)/\iO t L/\L.length*5<t.mask*3 /\
  (∀q∈L,∃k b,q.2.2 = .ref b/\b<N0/\dm prog w h k b/\q.2.1=dn (bD prog w) k/\k∈ks)/\(∀k∈ks,∃q∈L,∃b,q.2.2 = .ref b/\dm prog w h k b)/\L.length=ks.length
theorem dm.dZ{h h':Heap}{k:List Int}{b:Addr}(x:dm prog w h k b)(e:∀o,h.get? b=some o->h'.get? b=some o):dm prog w h' k b :=
 let ⟨o,i,n,ho,r⟩:=x;⟨o,i,n,e o ho,r⟩
theorem jG.dZ{N0:Nat}{h h':Heap}{a:Addr}{ks:List (List Int)}(x:jG prog w N0 h a ks)(e:∀b o,b<N0∨b=a->h.get? b=some o->h'.get? b=some o):jG prog w N0 h' a ks:=by
 obtain⟨o,es,ep,t,L,⟨q1,q2,q3⟩,he,T,hf,c1,c2,c3⟩:=x
 have hb:∀q∈L,∀b,q.2.2 = .ref b->b<N0:=λq hq b hb=>by
  obtain⟨k,b',e1,e2,_⟩:=c1 q hq
  rw[hb] at e1;cases e1;exact e2
 refine⟨o,es,ep,t,L,⟨e a o (.inr rfl) q1,q2,q3⟩,he,T,hf,λq hq=>?_,λk hk=>?_,c3⟩
 ·obtain⟨k,b,e1,e2,e3,e4⟩:=c1 q hq
  exact⟨k,b,e1,e2,dm.dZ e3 λo ho=>e b o (.inl e2) ho,e4⟩
 ·obtain⟨q,hq,b,e1,e2⟩:=c2 k hk
  exact⟨q,hq,b,e1,dm.dZ e2 λo ho=>e b o (.inl (hb q hq b e1)) ho⟩
theorem w6r{t:cV}{L:List (Nat×Int×Value)}(T:iO t L):t.tooFull=decide (L.length*5≥t.mask*3):=by
 unfold SetTable.tooFull SetTable.fill
 rw[T.i9,<-gK,T.r_,bu]
 rfl
theorem jG.store{N0:Nat}{h:Heap}{a:Addr}{o:Obj}{es es':Array (Int×Value)}{ep:Nat}{t t':cV}{L:List (Nat×Int×Value)}{ks:List (List Int)}(q1:h.get? a=some o)(q2:o.ExactSet)(q3:o.data = .set es ep t)(he:es'.toList=L.map (·.2))(T:iO t' L)(hN:N0<=a)
 (c1:∀q∈L,∃k b,q.2.2 = .ref b/\b<N0/\dm prog w h k b/\q.2.1=dn (bD prog w) k/\k∈ks) (c2:∀k∈ks,∃q∈L,∃b,q.2.2 = .ref b/\dm prog w h k b) (c3:L.length=ks.length) :
 (h.update a (o7 es' t')).get? a=some { o with data:=.set es' (ep+1) t' }/\(L.length*5<t'.mask*3->jG prog w N0 (h.update a (o7 es' t')) a ks):=by
 have hg:(h.update a (o7 es' t')).get? a=some { o with data:=.set es' (ep+1) t' }:=by
  have:=sA (o7 es' t') q1 (by rw[putSet_of es' t' q3];rfl)
  rw[putSet_of es' t' q3] at this;exact this
 have sb:=o8 h a (o7 es' t')
 have kp:∀b,b<N0->∀o,h.get? b=some o->(h.update a (o7 es' t')).get? b=some o:=λb hb o ho=>by
  rw[sb.2 b (cN (cI hb hN))];exact ho
 refine⟨hg,λhf=>⟨_,es',ep+1,t',L,⟨hg,q2,rfl⟩,he,T,hf,λq hq=>?_,λk hk=>?_,c3⟩⟩
 ·obtain⟨k,b,e1,e2,e3,e4⟩:=c1 q hq
  exact⟨k,b,e1,e2,dm.dZ e3 (kp b e2),e4⟩
 ·obtain⟨q,hq,b,e1,e2⟩:=c2 k hk
  refine⟨q,hq,b,e1,dm.dZ e2 (kp b ?_)⟩
  obtain⟨k',b',f1,f2,_⟩:=c1 q hq
  rw[e1] at f1;cases f1;exact f2
theorem a1a{N0:Nat}{a b:Addr}{k:List Int}{ks:List (List Int)}{Q:Bool->ai->Prop}(hu:A.units<fU)(hS:jG prog w N0 s.heap a ks)(hN:N0<=a)(hb:b<N0)(hk:dm prog w s.heap k b)(room:ks.length<=17)
 (z:∀(r:Bool) h',qr a s.heap h'->jG prog w N0 h' a (if k∈ks then ks else k::ks)->Q r { s with heap:=h' }) :
 ax (aF prog w) A (KA a (.ref b) (dn (bD prog w) k)) Q E s:=by
 obtain⟨o,es,ep,t,L,⟨q1,q2,q3⟩,he,T,hf,c1,c2,c3⟩:=hS
 have hE:QN prog w s.heap ks L:=λq hq=>let ⟨k,b,e1,_,e3,e4⟩:=c1 q hq;⟨k,b,e1,e3,e4⟩
 obtain⟨N,QP,hN2⟩:=T.free (H_ t.mask (dn (bD prog w) k))
 unfold KA a7c
 refine j9 (ay (o9 q1 q3 (T.wD he) ?_))
 dsimp only
 rw[show byScan (.ref b) es=false from rfl,if_neg (by decide)]
 unfold setSearch
 have a1b:N+1<=100000:=by
  unfold qO at QP
  rcases T.mask with e | e<;>rw[e] at QP<;>lia
 refine ay (QO hu q1 q3 T he hE hk (λq hq b' fY b9=>?_) (λj D_ hj hle hr=>?_) (N+1) 100000 0 N none (by lia) a1b (iT _) rfl hN2 λr hr=>absurd hr (jK _))
 ·dsimp only
  obtain⟨k2,b2,g1,_,g2,_,g3⟩:=c1 q hq
  rw[fY] at g1;cases g1
  have:k∈ks:=b9.inj g2 ▸ g3
  have y:=z false s.heap (a7d a s.heap) (by rw[if_pos this];exact⟨o,es,ep,t,L,⟨q1,q2,q3⟩,he,T,hf,c1,c2,c3⟩)
  exact aM y
 ·dsimp only
  have hnk:k ∉ ks:=λuy=>by
   obtain⟨q,hq,b',e1,e2⟩:=c2 k uy
   exact D_ q hq b' e1 e2
  refine ay (o9 q1 q3 (T.wD he) ?_)
  dsimp only
  have a1c:L.length+1<=t.mask:=by rcases T.mask with e | e<;>rw[e] at hf ⊢<;>lia
  obtain⟨L',T',r9,ny⟩:=T.put (x:=.ref b) hj hle hr a1c (t':=(t.put j).1) rfl (show(if SR t.dummies j then _ else t.dummies)=t.dummies from if_neg (by rw[CB T.i9];decide)) rfl he
  have d1:∀q∈L',∃k' b,q.2.2 = .ref b/\b<N0/\dm prog w s.heap k' b/\q.2.1=dn (bD prog w) k'/\k'∈k::ks:=λq hq=>by
   rcases List.mem_cons.mp (ny.mem_iff.mp hq) with e | e
   ·subst e;exact⟨k,b,rfl,hb,hk,rfl,bB⟩
   ·obtain⟨k',b',g1,g2,g3,g4,g5⟩:=c1 q e
    exact⟨k',b',g1,g2,g3,g4,bL _ g5⟩
  have d2:∀k'∈k::ks,∃q∈L',∃b,q.2.2 = .ref b/\dm prog w s.heap k' b:=λk' b9=>by
   rcases List.mem_cons.mp b9 with e | e
   ·subst e;exact⟨_,ny.mem_iff.mpr bB,b,rfl,hk⟩
   ·obtain⟨q,hq,g⟩:=c2 k' e
    exact⟨q,ny.mem_iff.mpr (bL _ hq),g⟩
  have d3:L'.length=(k::ks).length:=by rw[ny.length_eq,de,de,c3]
  have iF:(kH es (fc t.place j) (dn (bD prog w) k,c_ b)).size=L.length+1:=by
   rw[<-gK,r9,bu,ny.length_eq,de]
  have qf:es.size=L.length:=by rw[<-gK,he,bu]
  have hp1:(t.put j).1.mask=t.mask:=rfl
  obtain⟨u1,u2⟩:=jG.store (es':=kH es (fc t.place j) (dn (bD prog w) k,c_ b)) q1 q2 q3 r9 T' hN d1 d2 d3
  have sb:=o8 s.heap a (o7 (kH es (fc t.place j) (dn (bD prog w) k,c_ b)) (t.put j).1)
  have zz:∀h',qr a s.heap h'->jG prog w N0 h' a (k::ks)->Q true { s with heap:=h' }:=λh' y1 y2=>z true h' y1 (by rw[if_neg hnk];exact y2)
  have tail:ax (aF prog w) A (do
   SV a (kH es (fc t.place j) (dn (bD prog w) k,c_ b)) (t.put j).1
   if (!false&&(t.put j).1.tooFull)=true then do
       setRelay a (sH (es.size+1))
       pure true
    else pure true) Q E s:=by
   refine ay (Ky q1 q3 ?_ (by rw[iF];exact Kz (show _<4096 by lia)))
   rw[w6r T']
   by_cases full:L'.length*5≥(t.put j).1.mask*3
   ·rw[decide_eq_true full,if_pos (by decide)]
    have hL4:L.length=4/\t.mask=7:=by
     rw[hp1,d3,de] at full
     rcases T.mask with e | e<;>rw[e] at hf full<;>first | exact⟨by lia,e⟩ | lia
    obtain⟨t',o',QQ,l1,l2,l3,l4,l5,l6,l7,l8⟩:=w6c (kH es (fc t.place j) (dn (bD prog w) k,c_ b)) (by rw[iF];lia) (t.put j).1.finger ((t.put j).1.movedTo 31) (t.put j).1.led (t.put j).1.plain
    have zT:(QQ.map (·.2)).Perm (L'.map (·.2)):=by rw[<-r9];exact l4
    unfold setRelay
    refine ay (ay (o9 u1 rfl (T'.wD r9) ?_))
    dsimp only
    rw[qf,hL4.1]
    have hre:a7b (t.put j).1 ((kH es (fc t.place j) (dn (bD prog w) k,c_ b)).map (·.1)) (sH (4+1))=some (t',o'):=l1
    rw[hre]
    rw[if_neg (by decide +kernel)]
    refine ay (show ax _ _ (if (((o'.filterMap ((kH es (fc t.place j) (dn (bD prog w) k,c_ b))[·]?)).size != (kH es (fc t.place j) (dn (bD prog w) k,c_ b)).size)=true) then _ else pure (o'.filterMap ((kH es (fc t.place j) (dn (bD prog w) k,c_ b))[·]?),t')) _ _ _ from ?_)
    have QR:(o'.filterMap ((kH es (fc t.place j) (dn (bD prog w) k,c_ b))[·]?)).size=L.length+1:=by
     rw[<-gK,l3,zT.length_eq,bu,ny.length_eq,de]
    rw[if_neg (by rw[QR,iF];simp)]
    refine aM ?_
    dsimp only
    refine Ky u1 rfl ?_ (by rw[QR];exact Kz (show _<4096 by lia))
    have kp:∀b',b'<N0->∀o,s.heap.get? b'=some o->(s.heap.update a (o7 (kH es (fc t.place j) (dn (bD prog w) k,c_ b)) (t.put j).1)).get? b'=some o:=λb' fY o ho=>by
     rw[sb.2 b' (cN (cI fY hN))];exact ho
    have v2:=(jG.store (prog:=prog) (w:=w) (N0:=N0) (ks:=k::ks) u1 q2 rfl l3 l2 hN (λq hq=>by
     obtain⟨q',mV,e'⟩:=List.mem_map.mp (zT.mem_iff.mp (List.mem_map.mpr ⟨q,hq,rfl⟩))
     obtain⟨k',b',g1,g2,g3,g4,g5⟩:=d1 q' mV
     rw[e'] at g1 g4
     exact⟨k',b',g1,g2,dm.dZ g3 (kp b' g2),g4,g5⟩) (λk' b9=>by
     obtain⟨q,hq,b',g1,g2⟩:=d2 k' b9
     obtain⟨_,b2,g3,g4,_⟩:=d1 q hq
     rw[g1] at g3;cases g3
     obtain⟨q',mV,e'⟩:=List.mem_map.mp (zT.mem_iff.mpr (List.mem_map.mpr ⟨q,hq,rfl⟩))
     exact⟨q',mV,b',by rw[e'];exact g1,dm.dZ g2 (kp b' g4)⟩) (by rw[<-bu (f:=(·.2)),zT.length_eq,bu,d3])).2
    exact aM (zz _ (sb.trans (o8 _ a _)) (v2 (by
     have:QQ.length=L.length+1:=by rw[<-bu (f:=(·.2)),zT.length_eq,bu,ny.length_eq,de]
     rw[l5,this];lia)))
   ·rw[decide_eq_false full,if_neg (by decide)]
    exact aM (zz _ sb (u2 (by lia)))
  by_cases fM:(t.put j).1.plain=true
  ·rw[if_pos fM]
   refine ay (w7b hk ?_)
   rw[if_pos rfl]
   exact tail
  ·rw[if_neg fM]
   refine ay (aM ?_)
   rw[if_pos rfl]
   exact tail
end
section
variable {prog:aY}{w:aO}{A:Around}{E:Value->ai->Prop}{s:ai}
theorem Ie:∀(n:Nat) (ks:List (List Int)),ks.length=n->(fG ks).length<=n
 | 0,ks,h=>by rw[List.length_eq_zero_iff.mp h];exact a7 _
 | n+1,ks,h=>by
   have hd:ks≠[]:=λz=>by rw[z] at h;cases h
   rw[<-a6g hd,Bp]
   have:=Ie n ks.dropLast (by rw[List.length_dropLast];lia)
   split
   ·lia
   ·rw[de];lia
theorem x8d{Z:Ah->ai->Prop}{I:Addr}{fp wr:List Addr}{G:Array Ae->Array Ae->Prop}{P:Nat->Value->Prop}{St:Nat->ai->Prop}{ks:List (List Int)}(W:WalksS prog w A.in1 I fp wr G ks.length P St)(a:Addr)(ha:a ∉ fp){N0:Nat}{h0:Heap}(hN:N0<=a)(hwr:∀b∈wr,N0<=b)(hu:A.in1.units<fU)
 (zH:∀i v,P i v->∃b k,v = .ref b/\b<N0/\ks[i]? = some k/\dm prog w h0 k b) (hb:ks.length<=18) :
 ∀(d i:Nat) (s:ai),ks.length-i=d->i<=ks.length->St i s->(∀b o,b<N0->h0.get? b=some o->s.heap.get? b=some o)->jG prog w N0 s.heap a (fG (ks.take i)) ->
  (∀s',Moved (a::wr) G s s'->jG prog w N0 s'.heap a (fG ks)->Z (.ok (.ret .none)) s') ->
  nG (aF prog w) A (.builtin "set.update.loop" ⟨[.ref a,.ref I],[]⟩) Z s:=by
 have aw:a ∉ wr:=λh=>ha (W.sub _ h)
 have zI:∀b∈wr,b∈a::wr:=λb hb=>bL _ hb
 have low:∀b,b<N0∨b=a->b ∉ wr:=λb hb hw=>by
  rcases hb with z | z
  ·exact absurd (hwr b hw) (Nat.not_le.mpr z)
  ·rw[z] at hw;exact aw hw
 intro d
 induction d with
 | zero =>
   intro i s hk hi st kp hS hZ
   obtain rfl:i=ks.length:=by lia
   refine qM KC ?_
   rw[xw AG _]
   show ax _ A.in1 (iR (.ref I)>>=_) _ _ s
   refine ay (W.done s _ _ st λs' mv=>?_)
   rw[uI] at hS
   exact aM (hZ s' (mv.mono zI) (hS.dZ λb o hb e=>mv.heap b o (low b hb) e))
 | succ d ih =>
   intro i s hk hi st kp hS hZ
   have lt:i<ks.length:=by lia
   refine qM KC ?_
   rw[xw AG _]
   show ax _ A.in1 (iR (.ref I)>>=_) _ _ s
   refine ay (W.item i s _ _ lt st λv s' hP jQ mv=>?_)
   obtain⟨b,k,rfl,QS,hki,D4⟩:=zH i v hP
   have HC:=hS.dZ (h':=s'.heap) λb o hb e=>mv.heap b o (low b hb) e
   have QT:∀b o,b<N0->h0.get? b=some o->s'.heap.get? b=some o:=λb o hb e=>mv.heap b o (low b (.inl hb)) (kp b o hb e)
   have QU:dm prog w s'.heap k b:=dm.dZ D4 λo e=>QT b o QS e
   show ax _ A.in1 (Ar [c_ b] (KD a (.ref b))>>=_) _ _ s'
   refine ay (j9 ?_)
   unfold KD
   refine j9 (ay (wpAny_pyHash_tuple hu QU ?_))
   refine a1a (s:={ s' with toks:=s'.toks+(k.length+1) }) hu HC hN QS QU ?_ λr h' sb y=>?_
   ·have:=Ie (ks.take i).length (ks.take i) rfl
    rw[mj] at this
    lia
   have y':jG prog w N0 h' a (fG (ks.take (i+1))):=by
    rw[Am,hki,Option.toList_some,Bp];exact y
   refine aM ⟨DC AG _,ih (i+1) _ (by lia) lt (W.frame _ s' _ _ jQ (a8r _ _) λb hb o e=>?_) (λb o hb e=>?_) y' λsT HD HE=>?_⟩
   ·rw[sb.2 b (λz:b=a=>ha (by rw[<-z];exact hb))];exact e
   ·show h'.get? b=some o
    rw[sb.2 b (cN (cI hb hN))];exact QT b o hb e
   ·refine hZ sT (Moved.trans W.gtrans ((mv.mono zI).then_heap (a8r _ _) λb o hb e=>?_) HD) HE
    rw[sb.2 b (λz:b=a=>hb (by rw[z];exact bB))];exact e
theorem w6s{N0:Nat}{h:Heap}{a:Addr}{led:Bool}(e:h.get? a=some { cls:=.type "set",dict:=none,data:=.set #[] 0 (.fresh 0 0 led) }):jG prog w N0 h a [] :=
 ⟨_,#[],0,_,[],⟨e,⟨rfl,rfl,rfl⟩,rfl⟩,rfl,⟨.inl rfl,rfl,rfl,.nil,λq hq=>by simp at hq,iT _,λq hq=>by simp at hq⟩,(by decide:0*5<7*3),λq hq=>by simp at hq,λq hq=>by simp at hq,rfl⟩
theorem w0l{l:Addr}{items:Array Value}{ks:List (List Int)}{Q:Value->ai->Prop}(hh:A.handled=none)(hu:A.units+64<fU)(hl:s.heap.IsList l items)(hz:items.size=ks.length)(hi:∀(i:Nat) v,items[i]? = some v->∃b k,v = .ref b/\ks[i]? = some k/\dm prog w s.heap k b)(hb:ks.length<=18)
 (q:∀(h':Heap) (tk:Nat),jG prog w s.heap.objs.size h' s.heap.objs.size (fG ks) ->
   (∀b o,b<s.heap.objs.size->s.heap.get? b=some o->h'.get? b=some o)->Q (.ref s.heap.objs.size) { s with heap:=h',toks:=tk }) :
 ax (aF prog w) A (call (.type "set") [.ref l]) Q E s:=by
 obtain⟨c,tl,P4⟩:=F.called_set.mro
 have P5:=F.called_set.made;have CC:=F.called_set.sub
 refine Aw (KG (show ax _ _ (S0 (.type "set") _) _ _ _ from ?_))
 refine aM ⟨S4 _ (by decide +kernel),qM S8 ?_⟩;rw[S9 (S_ "set" [.ref l] []) rfl]
 have h1:=F.called_set.notType;have h2:=F.called_set.canCreate;have P6:=a7i (.ref l)
 (repeat (any_goals (first | assumption | wp_step)))
 refine oV (P2 (.ref l) (E:=E) (Q1:=λobj s1=>obj = .ref s.heap.objs.size/\s1={ s with heap:=s.heap.push { cls:=.type "set",dict:=none,data:=.set #[] 0 (.fresh 0 0 (dC w)) } }) ⟨rfl,rfl⟩) λr s1 hr=>?_
 cases r with
 | error e=>exact hr
 | ok fl =>
   cases fl with
   | ret obj =>
     obtain⟨rfl,rfl⟩:=hr
     have hS:(s.heap.push { cls:=.type "set",dict:=none,data:=.set #[] 0 (.fresh 0 0 (dC w)) }).get? s.heap.objs.size=some { cls:=.type "set",dict:=none,data:=.set #[] 0 (.fresh 0 0 (dC w)) }:=dQ _ rfl
     have hT:DE { s with heap:=s.heap.push { cls:=.type "set",dict:=none,data:=.set #[] 0 (.fresh 0 0 (dC w)) } } (.ref s.heap.objs.size) "set":=⟨_,hS,rfl⟩
     have P7:=F.called_set.init.lookup;have P8:=F.called_set.init.bind (.ref s.heap.objs.size)
     (repeat (any_goals (first | assumption | wp_step)))
     refine oV (KH (R:=DD (λr s2=>r = .none/\∃h' tk,s2={ s with heap:=h',toks:=tk } /\
      jG prog w s.heap.objs.size h' s.heap.objs.size (fG ks) /\
      (∀b o,b<s.heap.objs.size->s.heap.get? b=some o->h'.get? b=some o)) E) F.called_set.init.plain a7j (a7k hT ?_)) λr2 s2 nv=>?_
     ·obtain⟨⟨a0l,HF,a0m,HG⟩,wx,uv,nl,zJ⟩:=hl
      simp only at uv zJ
      subst uv zJ
      have HH:(s.heap.push { cls:=.type "set",dict:=none,data:=.set #[] 0 (.fresh 0 0 (dC w)) }).get? l=some { cls:=.type "list",dict:=HF,data:=.seq items nl,slots:=HG }:=bP _ wx
      have a0n:=a7l;have a0o:=a7m
      have a8:(sg "list"==sg "dict")=false:=by decide
      have zK:(s.heap.push { cls:=.type "set",dict:=none,data:=.set #[] 0 (.fresh 0 0 (dC w)) }).IsList l items:=⟨_,HH,rfl,nl,rfl⟩
      unfold g9.«set.__init__» noKeywords a7n;generalize HI:qu=PI
      wp_walk
      subst HI
      refine xq zK (ay (Ta ?_))
      have zL:l<s.heap.objs.size:=bE wx
      have HJ:A.in1.in1.in1.handled=none:=by simp[hh]
      have HK:l≠(s.heap.push { cls:=.type "set",dict:=none,data:=.set #[] 0 (.fresh 0 0 (dC w)) }).objs.size:=by rw[iw];exact cN (uW zL)
      have HL:s.heap.objs.size ∉ [(s.heap.push { cls:=.type "set",dict:=none,data:=.set #[] 0 (.fresh 0 0 (dC w)) }).objs.size,l]:=by
       rw[iw];simp only[fF,nN,gN,or_false,not_or];exact⟨cN (qx _),mi zL⟩
      have hu3:A.in1.in1.in1.units<fU:=by simp only[Around.in1];lia
      have lts:s.heap.objs.size<(s.heap.push { cls:=.type "set",dict:=none,data:=.set #[] 0 (.fresh 0 0 (dC w)) }).objs.size:=by rw[iw];exact qx _
      have W:=(SO (prog:=prog) (w:=w) HJ _ l HK items).toS
      rw[hz] at W
      refine x8d W s.heap.objs.size HL (N0:=s.heap.objs.size) (h0:=s.heap) (a7 _) (λb hb=>?_) hu3 (λi v hv=>?_) hb (ks.length-0) 0 _ (by lia) (iT _) ⟨⟨_,dQ _ rfl,rfl,rfl⟩,(zK.push _)⟩ (λb o hb e=>bP _ (bP _ e)) ?_ ?_
      ·rw[List.mem_singleton.mp hb];exact sj lts
      ·obtain⟨b,k,e1,e2,e3⟩:=hi i v hv
       exact⟨b,k,e1,(let ⟨o,_,_,ho,_⟩:=e3;bE ho),e2,e3⟩
      ·have hg:((s.heap.push { cls:=.type "set",dict:=none,data:=.set #[] 0 (.fresh 0 0 (dC w)) }).push { cls:=.type "list_iterator",data:=.fields #[.ref l,.int 0 0] }).get? s.heap.objs.size=some { cls:=.type "set",dict:=none,data:=.set #[] 0 (.fresh 0 0 (dC w)) }:=bP _ hS
       exact w6s hg
      ·intro s' mv y
       obtain⟨h',g',d',zM,kL⟩:=s'
       obtain rfl:g'=s.gens:=mv.gens
       obtain rfl:d'=s.drawn:=mv.drawn
       obtain rfl:kL=s.os:=mv.os
       show ax _ _ _ _ _ _
       refine aM (show ax _ _ (ret kE) _ _ _ from aM ⟨rfl,h',zM,rfl,y,λb o hb e=>?_⟩)
       have b1:b≠s.heap.objs.size:=cN hb
       have b2:b≠(s.heap.push { cls:=.type "set",dict:=none,data:=.set #[] 0 (.fresh 0 0 (dC w)) }).objs.size:=by rw[iw];exact cN (uW hb)
       exact mv.heap b o (by simp only[fF,nN,gN,or_false,not_or];exact⟨b1,b2⟩) (bP _ (bP _ e))
     ·cases r2 with
      | error e=>exact nv
      | ok zN =>
        cases zN with
        | ret r =>
          obtain⟨rfl,h',tk,rfl,y,keep⟩:=nv
          (repeat (any_goals (first | assumption | wp_step)))
          exact q _ _ y keep
        | _=>exact nv.elim
   | _=>exact hr.elim
end
section
variable {X:Cx}{e a b c:Expr}{g ga gb gc:G->R D}{pos pos' p p2:Pos}
theorem w2t(i k m:Nat){x y0 z0:Str}{px py pz pt:Pos}{kt}{iter:Expr}{body:List Stmt}{gi:G->R (List D)}{gb:G->R Fl}(hp:wm X)(eI:X.calm=true)(hi:tW X (.Tuple [.Name x px,.Name y0 py,.Name z0 pz] kt pt) iter gi)(hb:kB X body gb)(hN:X.N.Nodup)(zp:X.N[i]? = some x:=by rfl)(Hj:X.N[k]? = some y0:=by rfl)(hiz:X.N[m]? = some z0:=by rfl)(hx:Loc X.env.scope x:=by first | exact gZ rfl | exact fb rfl)(hy:Loc X.env.scope y0:=by first | exact gZ rfl | exact fb rfl)
 (hf:X.fn x=true∨X.env.scope.names.lookup x=some .local:=by first | exact .inl rfl | exact .inr rfl | assumption)
 (Hk:X.fn y0=true∨X.env.scope.names.lookup y0=some .local:=by first | exact .inl rfl | exact .inr rfl | assumption)
 (hz:Loc X.env.scope z0:=by first | exact gZ rfl | exact fb rfl) (hfz:X.fn z0=true∨X.env.scope.names.lookup z0=some .local:=by first | exact .inl rfl | exact .inr rfl | assumption)
 (hs:∀x,AA iter X.env x=pure x:=by intro _;rfl):PQ X (.For (.Tuple [.Name x px,.Name y0 py,.Name z0 pz] kt pt) iter body [] pos) (EI i k m gi gb):=by
 refine⟨λpins s σ H F Γ I fo rl hg=>?_⟩
 refine SJ (aC (hi.run pins s σ H F Γ I fo rl (kj hg)) (λv s1 h1=>aC h1 (λkK s2 h2=>?_) λ_ _ x=>x.lift fo rl _) λ_ _ x=>x.lift fo rl _) hs
 obtain⟨ds,it,fp,tn,J,H2,e1,rfl,I2,S2,T,t0,fk,jd⟩:=h2
 have eg:EI i k m gi gb Γ=fX gb i k m ds Γ:=km e1
 rw[eg] at hg ⊢
 have cA:=hp pins H F (fX gb i k m ds Γ)
 have nq:∀{H':Hp},(∀b∈fp,H' b=none)->∀b∈fp,fL X pins H' b:=λhn b hb=>⟨hn b hb,(fk b hb).2⟩
 refine SK (λn s'=>∃(j:Nat) (aQ:St) (H':Hp) (F':List Addr) (Γ':G),n=ds.length-j/\j<=ds.length/\Inv X pins aQ H' s'/\tn j s'.heap/\(∀b∈fp,H' b=none)/\bZ H' F'/\Rel X.K H' F' Γ' aQ/\Ext H2 F H' F'/\fX gb i k m (ds.drop j) Γ'=fX gb i k m ds Γ) ?_ ds.length
  ⟨0,σ,H2,F,Γ,by lia,iT _,I2,t0,λb hb=>(fk b hb).1,fo.same S2,rl.same S2,.refl,by rw[xg]⟩
 rintro n s3 ⟨j,i8,H3,F3,nu,en,hj,I3,t3,rV,p8,p9,E3,mf⟩
 have rX:Ext H F H3 F3:=(Ext.of_same S2).trans E3
 obtain⟨pU,pV⟩:=jd H3 λb o hb h=>E3.keep b o hb h
 by_cases a_:j<ds.length
 ·obtain⟨go,yl⟩:=pU j a_
  refine jL cA (eM (T.item X rfl rfl rfl eI j pins s3 i8 H3 _ I3 (nq rV) t3 go) λr s4 ⟨u,hr,h4⟩=>?_)
  subst hr
  refine jL cA (eM h4 λ_ s5 ⟨y,H5,I5,r5,y5,ip,pX⟩=>?_)
  obtain⟨eH,d0,QV,iv0⟩:=yl y H5 y5
  subst eH
  have S5:aT H5 H5:=.refl _
  have iv:=iv0 F3 λb hb=>E3.old b hb
  have hd0:∃d1 d2 d3,d0 = .tup [d1,d2,d3]:=by
   have hdr:ds.drop j=d0::ds.drop (j+1):=by
    rw[Ay a_]
    have:=cf a_
    rw[QV] at this;rw[iQ this]
   rw[<-mf,hdr] at hg
   unfold fX at hg
   split at hg
   ·rename_i hh;cases hh
   ·rename_i hh;cases hh;exact⟨_,_,_,rfl⟩
   ·exact absurd rfl hg
  obtain⟨d1,d2,d3,rfl⟩:=hd0
  have ed:=QV
  obtain⟨q,vs,rfl,sq0,ia⟩:=Is.eZ.mp iv
  obtain⟨v1,r1',rfl,zB,ia2⟩:=aA.gD.mp ia
  obtain⟨v2,r2',rfl,zC,ia3⟩:=aA.gD.mp ia2
  obtain⟨v3,r3',rfl,iv3,ia4⟩:=aA.gD.mp ia3
  cases aA.jq.mp ia4
  have zA:b6 X.K H5 q [v1,v2,v3]:=pO (lY (F:=F3)) sq0
  have Hl:=p8.same S5
  have Hm:=p9.same S5
  have E5:=E3.trans (Ext.of_same S5)
  have ur:Ext H F H5 F3:=(Ext.of_same S2).trans E5
  have pY:ds.drop j = .tup [d1,d2,d3]::ds.drop (j+1):=by
   rw[Ay a_]
   have:ds[j] = .tup [d1,d2,d3]:=by
    have:=cf a_
    rw[ed] at this;exact(iQ this).symm
   rw[this]
  have zq:=I5.pinned (nq pX) (T.obj _ _ ip)
  have pZ:PG X.bG (.Tuple [.Name x px,.Name y0 py,.Name z0 pz] kt pt) (L2.cq X.K 3 (L2.ae (nY i) (L2.ae (nY k) (L2.ae (nY m) L2.az)))):=DY (X:=X.bG) eI (sO (pf (X:=X.bG) hN zp hx hf) (sO (pf (X:=X.bG) hN Hj hy Hk) (sO (pf (X:=X.bG) hN hiz hz hfz) DX rfl) rfl) rfl) rfl rfl
  refine jL cA (aC (pZ _ s5 i8 H5 (.ref q) u (λaQ H'=>aQ=((i8.set i (some v1)).set k (some v2)).set m (some v3)/\H'=H5) (zq.cZ _) r5 ⟨q,[v1,v2,v3],rfl,zA,rfl,v1,[v2,v3],rfl,v2,[v3],rfl,v3,[],rfl,rfl,rfl,rfl⟩) (λ_ s6 ⟨Cj,H6,I6,e6,p4⟩=>?_) λ_ _ z=>cT z)
  subst e6 p4
  have fS:fX gb i k m (.tup [d1,d2,d3]::ds.drop (j+1)) nu=fX gb i k m ds Γ:=by rw[<-pY];exact mf
  have uk:gb (((nu.set i (.ro d1)).set k (.ro d2)).set m (.ro d3)) ≠ .no:=λz=>by
   rw[<-fS] at hg
   unfold fX at hg
   rw[z] at hg
   exact hg rfl
  have back:∀{s7:ai} {b5:St} {H7:Hp},Inv X (pins++qR fp s5.heap) b5 H7 s7->Inv X pins b5 H7 s7/\tn (j+1) s7.heap/\∀b∈fp,H7 b=none:=λ{s7 b5 H7} I7=>by
   refine⟨I7.jk,T.keep _ _ _ ip λb hb o e=>(I7.pin (b,o) (c6 _ (c6 _ (n4 hb e)))).1,λb hb=>?_⟩
   obtain⟨o,e,dd⟩:=T.obj _ _ ip b hb
   exact(I7.pin (b,o) (c6 _ (c6 _ (n4 hb e)))).2.1
  refine jL cA (aC (hb.run _ s6 _ H6 F3 _ I6.dr Hl (((Hm.ug zB).ug zC).ug iv3) uk) (λf s7 q7=>?_) λx7 s7 q7=>?_)
  ·cases f with
   | next =>
     obtain⟨dz,e7,b5,H7,F7,I7,dA,dB,E7⟩:=q7
     obtain⟨b1,b2,b3⟩:=back I7
     refine⟨ds.length-(j+1),by lia,j+1,b5,H7,F7,dz,rfl,a_,b1,b2,b3,dA,dB,E5.trans E7,?_⟩
     rw[<-fS]
     conv=>rhs;unfold fX
     rw[e7]
   | cont =>
     obtain⟨dz,e7,b5,H7,F7,I7,dA,dB,E7⟩:=q7
     obtain⟨b1,b2,b3⟩:=back I7
     refine⟨ds.length-(j+1),by lia,j+1,b5,H7,F7,dz,rfl,a_,b1,b2,b3,dA,dB,E5.trans E7,?_⟩
     rw[<-fS]
     conv=>rhs;unfold fX
     rw[e7]
   | brk =>
     obtain⟨dz,e7,b5,H7,F7,I7,dA,dB,E7⟩:=q7
     refine⟨dz,?_,b5,H7,F7,I7.jk,dA,dB,ur.trans E7⟩
     rw[<-fS]
     conv=>lhs;unfold fX
     rw[e7]
   | ret v7 =>
     refine oK.map q7 ur (λ_ _ I7=>I7.jk) (λd7 e7=>?_) λd7 e7=>?_
     ·rw[<-fS]
      conv=>lhs;unfold fX
      rw[e7]
     ·rw[<-fS]
      conv=>lhs;unfold fX
      rw[e7]
  ·obtain⟨c7,dz,b5,H7,F7,e7,um,dA,dB,E7⟩:=q7
   refine⟨c7,dz,b5,H7,F7,?_,?_,dA,dB,ur.trans E7⟩
   ·rw[<-fS]
    conv=>lhs;unfold fX
    rw[e7]
   ·obtain⟨I7,e',C',oe,vs,q1,q2,q3,q4,q5,q6,zr,q8⟩:=um
    refine⟨I7.jk,e',C',oe,vs,q1,q2,q3,q4,q5,q6,λp jw=>zr p ?_,?_⟩
    ·rcases List.mem_append.mp jw with z | z
     ·exact je _ z
     ·exact c6 _ (je _ z)
    ·obtain⟨w1,w2,w3,w4,w5⟩:=q8
     refine⟨w1,w2,w3,w4,?_⟩
     rcases w5 with w5 | ⟨T',oT,ts,z1,z2,z3,z4,z5,z6,z7⟩
     ·exact .inl w5
     ·refine .inr ⟨T',oT,ts,z1,z2,z3,z4,z5,λp jw=>z6 p ?_,z7⟩
      rcases List.mem_append.mp jw with z | z
      ·exact je _ z
      ·exact c6 _ (je _ z)
 ·have ej:j=ds.length:=by lia
  subst ej
  refine jL cA (eM (T.done X rfl rfl rfl eI _ pins s3 i8 H3 _ I3 (nq rV) t3 pV) λr s4 ⟨hr,I4⟩=>?_)
  subst hr
  rw[Aj] at mf
  exact AB ⟨nu,mf.symm,i8,H3,F3,I4,p8,p9,rX⟩
theorem x2m(k:List Int):ti (.tup (k.map D.int))=k:=by
 show(ib (k.map D.int)).getD []=k
 rw[sX];rfl
theorem w2y(ha:PD X a ga)(HS:X.mg "len"=none)(yR:X.mg "set"=none)(eI:X.calm=true)(hu:X.A.units+64<fU)(aW:Gl X "len":=by rfl)(dH:Gl X "set":=by rfl)
 (zO:bA [.Call (.Name "set" p2) [a] [] pos'] X.env=[(false,eval (.Call (.Name "set" p2) [a] [] pos') X.env)]:=by rfl) (m6:bA [a] X.env=[(false,eval a X.env)]:=by rfl) :
 PD X (.Call (.Name "len" p) [.Call (.Name "set" p2) [a] [] pos'] [] pos) (yc ga):=by
 refine⟨λpins s σ H F Γ I fo rl cw=>?_⟩
 refine mB (iE I aW HS (show oN (cU "len")=some (.builtin "len") by decide +kernel) (Kh ?_ zO rfl))
 rw[zO]
 show ax _ _ (gf ((false,eval (.Call (.Name "set" p2) [a] [] pos') X.env)::cK pos [])) _ _ s
 refine iA ?_
 refine mB (iE I dH yR Qm (uU ?_ m6 rfl))
 rw[m6]
 show ax _ _ (gf ((false,eval a X.env)::cK pos' [])) _ _ s
 refine iA (aC (ha.run pins s σ H F Γ I fo rl (R.left cw)) (λu s1 ⟨d,v,H1,e1,I1,r1,S1,i1⟩=>ke ?_) λ_ _ x=>x.bind _)
 have wB:=R.next cw e1
 cases d with
 | lst ds =>
   obtain⟨l,xs,rfl,q1,j1⟩:=Is.fA.mp i1
   cases (show u=c_ l from r1)
   obtain⟨⟨hr,h18⟩,e5⟩:=R.dF (show R.guard (ds.all D.tf=true/\ds.length<=18) (R.ok (D.int (fG (ds.map ti)).length))≠R.no from wB)
   obtain⟨ks,rfl⟩:=w2p hr
   have hks:(oM ks).map ti=ks:=by
    unfold oM
    rw[ka]
    conv=>rhs;rw[<-List.map_id ks]
    exact uL λk _=>x2m k
   have CK:(oM ks).length=ks.length:=by unfold oM;rw[bu]
   obtain⟨its,rv,pl,hz⟩:=I1.list q1
   have hh:X.A.handled=none:=I1.ok.hd eI
   have i6:xs.length=ks.length:=by rw[<-j1.length,CK]
   have O4:its.toArray.size=ks.length:=by rw[dc,<-rv.length,i6]
   refine w0l (s:=s1) (ks:=ks) hh hu pl.isList O4 (λi v hv=>?_) (by rw[<-CK];exact h18) λh' tk y keep=>ke ?_
   ·have zR:its[i]? = some v:=by simpa using hv
    have a_:i<xs.length:=by rw[rv.length];exact(List.getElem?_eq_some_iff.mp zR).1
    obtain⟨u',kT,rx⟩:=rv.get (cf a_)
    have hx:=cf a_
    rw[zR] at kT;cases kT
    generalize xs[i]=x at hx rx
    obtain⟨k,b,ek,rfl,sq⟩:=w5d j1 hx
    cases (show v=c_ b from rx)
    exact⟨b,k,rfl,ek,CL I1 sq⟩
   ·obtain⟨o,es,ep,t,L,⟨w1,w2,w3⟩,w4,w5,w6,w7,w8,w9⟩:=y
    have qf:es.size=(fG ks).length:=by rw[<-gK,w4,bu,w9]
    have hml:=Ie ks.length ks rfl
    refine call_len_set (s:={ s1 with heap:=h',toks:=tk }) w1 w2 w3 (w5.wD w4) (by rw[qf];have:=CK;lia) ?_
    have HU:∀b o,s1.heap.get? b=some o->h'.get? b=some o:=λb o e=>keep b o (bE e) e
    refine⟨.int (fG ks).length,.int (fG ks).length,H1,(R.step e1 _).trans ?_,I1.kept HU,?_,S1,Is.bO.mpr rfl⟩
    ·show R.guard ((oM ks).all D.tf=true/\(oM ks).length<=18) (R.ok (D.int (fG ((oM ks).map ti)).length))=_
     rw[e5,hks]
    ·rw[qf];exact⟨_,rfl⟩
 | _=>exact absurd rfl wB
end
end L3
namespace HQ
open PySem PySem.W PySem.Calls PyProof.Rows L2
noncomputable def zU(tb:String->Option g9)(p:aY)(w:aO)(j7:Nat)(ann:Option Value)(n:Nat):AJ->Thread->Option AJ :=
 Nat.rec (λ_ _=>none) (λ_ ih s t=>match KP t with
  | true=>some s
  | false=>match stepOk j7 ann t with
    | false=>none
    | true=>match stepT (denote tb) p w s t with
      | some (s',t')=>ih s' t'
      | none=>none) n
theorem QW{tb:String->Option g9}{p:aY}{w:aO}{j7:Nat}{ann:Option Value}:∀{n:Nat} {s r:AJ} {t:Thread},zU tb p w j7 ann n s t=some r->topRun tb p w j7 ann n s.abs t=some r.abs
 | 0,_,_,_,h=>by cases h
 | n+1,s,r,t,h=>by
   have h':(match KP t with
    | true=>some s
    | false=>match stepOk j7 ann t with
      | false=>none
      | true=>match stepT (denote tb) p w s t with
        | some (s',t')=>zU tb p w j7 ann n s' t'
        | none=>none)=some r:=h
   unfold topRun
   cases ht:KP t with
   | true=>rw[ht] at h';cases h';rfl
   | false =>
     rw[ht] at h'
     cases hk:stepOk j7 ann t with
     | false=>rw[hk] at h';cases h'
     | true =>
       rw[hk] at h'
       cases hs:stepT (denote tb) p w s t with
       | none=>rw[hs] at h';cases h'
       | some x=>obtain⟨aB,a9o⟩:=x;rw[hs] at h';rw[stepT_spec hs];exact QW h'
noncomputable def CQ(p q:aY)(loose:List Str)(Xt:ai->Bool){α:Type}(Yf:ai->α)(w:aO)(s:ai) :=
 (Tr (DM p.main.body) (jN w.params) s.heap&&Ts p s.heap&&Tt s&&Tu (jN w.params) s.heap,openSeen q loose (DM p.main.body) Xt true s,Yf s)
theorem w3p{p q:aY}{loose:List Str}{Xt:ai->Bool}{α:Type}{Yf:ai->α}{Ya:aO->α}{N j7:Nat}{B:qC->BT}{life:Life}{ann:Option Value}
 (hB:∀P,absHeap (B P) j7 life=jN P) (e:opening p=plainProg p.main.scope.names) (hN:Nat.ble 600 N=true) (f:∀s,fenceModules? p s=some s)
 (size:∀P,((jN P).isNs dP,(jN P).nsMap dP "__annotations__")=(true,ann))
 (big:∀(w:aO) (os:Tv),(zU DN p w j7 ann N ⟨B w.params,j7,life,#[],boot_drawn,boot_toks,os⟩ (topStub p)).map (λs=>CQ p q loose Xt Yf w s.abs)=some (true,openGood q loose,Ya w)):LeftO p q loose Xt Yf Ya N:=λw=>by
 obtain⟨⟨h,gs,d,k,os⟩,e1,e2⟩:=Option.map_eq_some_iff.mp (boot_open (p:=p) (N:=N) e hN f w)
 obtain⟨rfl,rfl,rfl,rfl⟩:h=jN w.params/\gs=#[]/\d=boot_drawn/\k=boot_toks:=by simpa using e2
 obtain⟨z1,z2⟩:_/\_:=by simpa only[DB] using size w.params
 obtain⟨r,hr,hs⟩:=Option.map_eq_some_iff.mp (big w os)
 have t:=QW hr
 have ab:(SharedT.abs ⟨B w.params,j7,life,#[],boot_drawn,boot_toks,os⟩)=⟨jN w.params,#[],boot_drawn,boot_toks,os⟩:=by
  unfold SharedT.abs
  rw[hB]
 rw[ab] at t
 have sz:(jN w.params).objs.size=j7:=by rw[<-hB w.params];exact absHeap_size _ _ _
 unfold CQ at hs
 obtain⟨l1,l2⟩:_/\_:=by simpa only[DB] using hs
 have T:Tw DN p w N ⟨jN w.params,#[],boot_drawn,boot_toks,os⟩=some r.abs:=by
  unfold Tw
  dsimp only
  rw[z1,z2,sz,t]
  show(match Tr (DM p.main.body) (jN w.params) r.abs.heap&&Ts p r.abs.heap&&Tt r.abs&&Tu (jN w.params) r.abs.heap with | true=>_ | false=>_)=_
  rw[l1]
 unfold openEnds
 rw[e1]
 show(Tw DN p w N _).map _=_
 rw[T]
 exact congrArg some (Prod.ext l2.1 l2.2)
def w7t(l:List Obj):BT:=(l.foldl (λx o=>(x.1.ins x.2 o,x.2+1)) (BT.nil,0)).1
noncomputable def B(P:qC):BT:=w7t (jN P).objs.toList
theorem hB(P:qC):absHeap (B P) 11 {}=jN P:=by kernel_rfl
theorem hS(P:qC):((jN P).isNs dP,(jN P).nsMap dP "__annotations__")=(true,some (.ref 6)):=by kernel_rfl
noncomputable def Ig(p:aY)(w:aO)(j7:Nat)(ann:Option Value)(n:Nat):AJ->Thread->Option AJ :=
 Nat.rec (λ_ _=>none) (λ_ ih s t=>match KP t with
  | true=>some s
  | false=>match PySem.W.Fast.tw6613529449190102663 j7 ann t with
    | false=>none
    | true=>match PySem.W.Fast.tw10156331382660048174 (PySem.W.Fast.tw11892475500146522536 DN) p w s t with
      | some (s',t')=>ih s' t'
      | none=>none) n
theorem w2o:zU DN=Ig:=by
 unfold zU Ig
 simp only[<-PySem.W.Fast.te6613529449190102663,<-PySem.W.Fast.te10156331382660048174,<-PySem.W.Fast.te11892475500146522536]
 try rfl
def a1d(p:aY):List Str:=(p.main.scope.names.map (·.1)).filter λx=>!(startupNames.contains x||x=="law")
noncomputable def Ih(p q:aY)(loose:List Str)(Xt:ai->Bool){α:Type}(Yf:ai->α)(w:aO)(s:ai) :=
 (Tr (DM p.main.body) (jN w.params) s.heap&&Ts p s.heap&&Tt s&&Tu (jN w.params) s.heap,PySem.W.Fast.tw4187177175401517315 q loose (DM p.main.body) Xt true s,Yf s)
theorem w2d:@CQ=@Ih:=by
 unfold CQ Ih
 rw[PySem.W.Fast.te4187177175401517315]
noncomputable def s0(w:aO)(os:Tv):AJ:=⟨B w.params,11,{},#[],boot_drawn,boot_toks,os⟩
theorem a1e{p q:aY}{loose:List Str}{Xt:ai->Bool}{α:Type}{Yf:ai->α}{Ya:aO->α}{N:Nat}(e:opening p=plainProg p.main.scope.names)(hN:Nat.ble 600 N=true)(f:∀s,fenceModules? p s=some s)
 (big:∀(w:aO) (os:Tv),(Ig p w 11 (some (.ref 6)) N (s0 w os) (topStub p)).map (λs=>Ih p q loose Xt Yf w s.abs)=some (true,openGood q loose,Ya w)):LeftO p q loose Xt Yf Ya N :=
 w3p hB e hN f hS (by rw[w2o,w2d];exact big)
noncomputable def fO(x:Str)(st:Stmt)(pm cd:Value):Obj:=⟨.type "function",none,.func (fnOf x x (xO st) (oi st) (bN st) .none .none .none pm none cd .none),#[]⟩
theorem Ii{K:Frag}{x:Str}{st:Stmt}{a c:Addr}{pm:Value}(l:K.lookup a=some (fO x st pm (.ref c)))(e:codeIn K (.ref c) x=true):mI K x x st a (fnOf x x (xO st) (oi st) (bN st) .none .none .none pm none (.ref c) .none) :=
 ⟨⟨_,_,_,_,_,_,_,_,_,rfl,l,e⟩,by unfold keepIn;dsimp only;rw[l];rfl⟩
noncomputable def en(P:qC)(x:Str)(t:Tok)(v:Value):RZ:=⟨PyData.keyHash P x,.str x t,v⟩
noncomputable def cO(x:Str)(t:Nat)(line a1f:Int)(a b c d e:Value)(u:Nat):Obj:=⟨.type "code",none,.fields [.str x t,.str x (t+1),.str "/claim/cut.py" (t+2),.int line 0,.int a1f 0,.int 0 0,.int 0 0,.int 3 0,a,.bool true,.int 181 0,b,.none,c,d,e,.int u 0,.int line 0,.str "/claim/cut.py" (u+1)].toArray,#[]⟩
end HQ
namespace L3
open PySem PySem.Spec PyProof.Rows L2
structure Ev where
 P:aY
 w:aO
 K:aD
 mg:Str->Option Value
 base:Heap
def Own(E:Ev)(x:Str)(st:Stmt)(ps:List Str):Prop:=∃(a:Addr) (d:cP),mI E.K x x st a d/\n6 E.K d ps []/\E.mg x=some (.ref a)
def cY(E:Ev)(k:Nat)(x:Str)(ps:List Str)(φ:List D->R D):Prop:=∃(a:Addr) (d:cP),gF E.P E.w E.K E.mg E.base k a d ps φ/\E.mg x=some (.ref a)
def nB(E:Ev)(k:Nat)(x:Str)(ps:List Str)(φ:List D->R (List D)):Prop:=∃(a:Addr) (d:cP),rO E.P E.w E.K E.mg E.base k a d ps φ/\E.mg x=some (.ref a)
section
variable {E:Ev}{k k':Nat}{x:Str}{st:Stmt}{N ps:List Str}
theorem cY.up{φ:List D->R D}(h:cY E k x ps φ)(hk:k<=k'):∃(a:Addr) (d:cP),gF E.P E.w E.K E.mg E.base k' a d ps φ/\E.mg x=some (.ref a):=let ⟨a,d,f,m⟩:=h;⟨a,d,f.mono hk,m⟩
theorem nB.up{φ:List D->R (List D)}(h:nB E k x ps φ)(hk:k<=k'):∃(a:Addr) (d:cP),rO E.P E.w E.K E.mg E.base k' a d ps φ/\E.mg x=some (.ref a):=let ⟨a,d,f,m⟩:=h;⟨a,d,f.mono hk,m⟩
theorem dO{n m:Nat}{g:G->R Fl}(u:Own E x st ps)(S:bW N ps (bN st))(hn:ps.length=n)(hm:N.length=m)
 (mG:∀(f:Addr) (bH:Value) (A:Around) (outer:List Env) (s:ai) (H:Hp) (Ex:XK),dE k (kZ E.P E.w E.K E.mg E.base N x st f bH A outer s H Ex).A->(kZ E.P E.w E.K E.mg E.base N x st f bH A outer s H Ex).A.units+64<fU->N.Nodup->kB (kZ E.P E.w E.K E.mg E.base N x st f bH A outer s H Ex) (oi st) g):cY E (k+1) x ps (cn n m g):=by
 subst hn hm
 obtain⟨a,d,Fu,hb,mm⟩:=u
 exact⟨a,d,Cp Fu S hb (λds h=>rg h) λbH A outer s H Ex hr=>⟨g,mG a bH A outer s H Ex hr hr.units S.nd,λds a8=>(vp (rg a8)).symm⟩,mm⟩
theorem sd{n m:Nat}{g:G->R Fl}(u:Own E x st ps)(S:bW N ps (bN st))(hn:ps.length=n)(hm:N.length=m)
 (mG:∀(f:Addr) (bH:Value) (A:Around) (outer:List Env) (s:ai) (H:Hp) (Ex:XK),dE k (kZ E.P E.w E.K E.mg E.base N x st f bH A outer s H Ex).A->(kZ E.P E.w E.K E.mg E.base N x st f bH A outer s H Ex).A.units+64<fU->N.Nodup->kB (kZ E.P E.w E.K E.mg E.base N x st f bH A outer s H Ex) (oi st) g):nB E (k+1) x ps (ju n m g):=by
 subst hn hm
 obtain⟨a,d,Fu,hb,mm⟩:=u
 exact⟨a,d,ZW Fu S hb (λds h=>LV h) λbH A outer s H Ex hr=>⟨g,mG a bH A outer s H Ex hr hr.units S.nd,λds a8=>(LW (LV a8)).symm⟩,mm⟩
end
theorem cF{N P:List Str}{sc:da}(h:sc.kind = .function/\sc.isCoroutine=false/\sc.isGenerator=false/\N.Nodup/\N.take P.length=P/\(∀x∈P,sc.names.lookup x=some .local∨sc.names.lookup x=some .cell)/\∀y∈sc.names,y.2 ≠ .free):bW N P sc:=⟨h.1,h.2.1,h.2.2.1,h.2.2.2.1,h.2.2.2.2.1,h.2.2.2.2.2.1,h.2.2.2.2.2.2⟩
theorem QX{α:Type}{o:Option α}{c:α}(h:o=some c):o.isSome=true:=by rw[h];rfl
theorem a1g{P:aY}{w:aO}{K:aD}{mg:Str->Option Value}{k:Nat}{a:Addr}{d:cP}{φ:List D->R D}{st:Stmt}(_U:mI K "law" "law" st a d)(hB:∀(s:ai) (v:Value),BindsTo s d ⟨[v],[]⟩ [("script",v)])(F:∀base:Heap,K.In base->base.Ns dP mg->gF P w K mg base k a d ["script"] φ) :
 ∃fd:cP,(∀(s:ai) (v:Value),BindsTo s fd ⟨[v],[]⟩ [("script",v)])/\∀base:Heap,K.In base->base.Ns dP mg->jo P w K mg base (pR P w) k a fd ["script"] (wt φ K):=⟨d,hB,λbase h1 h2=>(F base h1 h2).okN⟩
end L3
namespace Row
open PySem PySem.Spec PyProof.Rows L2 L3
def top(i:Nat):Stmt:=PySem.Challenge.pw_longrounds_k74_rings_of_nine.main.body.getD i (.Pass ⟨0,0,0,0⟩)
abbrev Ij:Stmt:=top 40
theorem a1h:bW ["script","k"] ["script","k"] (bN Ij):=cF (by decide +kernel)
abbrev Ik:Stmt:=top 41
theorem a1i:bW ["cell","P","size","out","k"] ["cell","P","size"] (bN Ik):=cF (by decide +kernel)
abbrev Il:Stmt:=top 47
theorem a1j:bW ["P","items","stand","word","x","form","n"] ["P","items","stand"] (bN Il):=cF (by decide +kernel)
abbrev Im:Stmt:=top 43
theorem a1k:bW ["x","k","n","form"] ["x","k","n"] (bN Im):=cF (by decide +kernel)
abbrev Io:Stmt:=top 45
theorem a1l:bW ["P","item","x","near","row"] ["P","item"] (bN Io):=cF (by decide +kernel)
abbrev Ip:Stmt:=top 44
theorem a1m:bW ["cell","more","P","x","form"] ["cell","more","P"] (bN Ip):=cF (by decide +kernel)
abbrev Iq:Stmt:=top 46
theorem a1n:bW ["script","P","orders","boxes","numbers","items","k","one"] ["script","P"] (bN Iq):=cF (by decide +kernel)
abbrev Ir:Stmt:=top 42
theorem a1o:bW ["found"] ["found"] (bN Ir):=cF (by decide +kernel)
abbrev Iu:Stmt:=top 48
theorem a1p:bW ["found","due","P"] ["found","due","P"] (bN Iu):=cF (by decide +kernel)
abbrev vH:Stmt:=top 9
theorem a1q:bW ["width","place"] ["width","place"] (bN vH):=cF (by decide +kernel)
abbrev tF:Stmt:=top 10
theorem a1r:bW ["many"] ["many"] (bN tF):=cF (by decide +kernel)
abbrev yp:Stmt:=top 11
theorem a1s:bW ["form","table","place"] ["form","table","place"] (bN yp):=cF (by decide +kernel)
abbrev s_on:Stmt:=top 5
theorem w7j:bW ["P","n"] ["P","n"] (bN s_on):=cF (by decide +kernel)
abbrev yq:Stmt:=top 12
theorem a1t:bW ["P","table","form","many","numbers"] ["P","table","form"] (bN yq):=cF (by decide +kernel)
abbrev tE:Stmt:=top 13
theorem a1u:bW ["P","one","other"] ["P","one","other"] (bN tE):=cF (by decide +kernel)
abbrev vL:Stmt:=top 16
theorem a1v:bW ["P","table","n","rungs","rung","figure"] ["P","table","n"] (bN vL):=cF (by decide +kernel)
abbrev vM:Stmt:=top 17
theorem a1w:bW ["rungs","n"] ["rungs","n"] (bN vM):=cF (by decide +kernel)
abbrev tI:Stmt:=top 18
theorem a1x:bW ["P","table","n","whole","rung"] ["P","table","n"] (bN tI):=cF (by decide +kernel)
abbrev yj:Stmt:=top 7
theorem a1y:bW ["P","form","stand","many"] ["P","form","stand"] (bN yj):=cF (by decide +kernel)
abbrev pE:Stmt:=top 8
theorem a1z:bW ["P","table","stand"] ["P","table","stand"] (bN pE):=cF (by decide +kernel)
abbrev tO:Stmt:=top 34
theorem a2a:bW ["P","table","stand","count","stands","turn"] ["P","table","stand","count"] (bN tO):=cF (by decide +kernel)
abbrev Iv:Stmt:=top 36
theorem a2b:bW ["P","table","m","r","stand","leap"] ["P","table","m","r","stand"] (bN Iv):=cF (by decide +kernel)
abbrev Iw:Stmt:=top 35
theorem a2c:bW ["r","m"] ["r"] (bN Iw):=cF (by decide +kernel)
abbrev yQ:Stmt:=top 37
theorem a2d:bW ["P","table","t","r","entry","goal","m","near","far","leap","stand"] ["P","table","t","r","entry","goal"] (bN yQ):=cF (by decide +kernel)
abbrev tN:Stmt:=top 27
theorem a2e:bW ["P","rungs","n","stand","rung"] ["P","rungs","n","stand"] (bN tN):=cF (by decide +kernel)
abbrev Iy:Stmt:=top 24
theorem a2f:bW ["P","many","parts","powers","k","longer"] ["P","many"] (bN Iy):=cF (by decide +kernel)
abbrev Iz:Stmt:=top 4
theorem a2g:bW ["n","divisor"] ["n"] (bN Iz):=cF (by decide +kernel)
abbrev IA:Stmt:=top 22
theorem a2h:bW ["n","divisor"] ["n","divisor"] (bN IA):=cF (by decide +kernel)
abbrev yI:Stmt:=top 23
theorem a2i:bW ["n","primes"] ["n"] (bN yI):=cF (by decide +kernel)
abbrev yN:Stmt:=top 26
theorem a2j:bW ["parts","found","part"] ["parts"] (bN yN):=cF (by decide +kernel)
abbrev yL:Stmt:=top 25
theorem a2k:bW ["parts","whole","part"] ["parts"] (bN yL):=cF (by decide +kernel)
abbrev yJ:Stmt:=top 28
theorem a2l:bW ["P","rungs","n","primes","stand","prime"] ["P","rungs","n","primes","stand"] (bN yJ):=cF (by decide +kernel)
abbrev yK:Stmt:=top 29
theorem a2m:bW ["P","rungs","r","stand","t"] ["P","rungs","r","stand"] (bN yK):=cF (by decide +kernel)
abbrev vX:Stmt:=top 30
theorem a2n:bW ["P","table","stand","many","parts","whole","primes","rungs","r"] ["P","table","stand"] (bN vX):=cF (by decide +kernel)
abbrev yt:Stmt:=top 14
theorem a2o:bW ["many","x","form","forms"] ["many","x","form"] (bN yt):=cF (by decide +kernel)
abbrev tJ:Stmt:=top 20
theorem IB:bW ["P","many","items","whole","item"] ["P","many","items"] (bN tJ):=cF (by decide +kernel)
abbrev IC:Stmt:=top 19
theorem ID:bW ["P","many","item"] ["P","many","item"] (bN IC):=cF (by decide +kernel)
abbrev BZ:Stmt:=top 38
theorem a2p:bW ["P","many","items","stand","goal","table","told","t","r","ahead"] ["P","many","items","stand","goal"] (bN BZ):=cF (by decide +kernel)
abbrev yO:Stmt:=top 31
theorem a2q:bW ["P","many","items","stand"] ["P","many","items","stand"] (bN yO):=cF (by decide +kernel)
abbrev IE:Stmt:=top 49
theorem QY:bW ["script","P","items","due","seen","k","handed","found"] ["script"] (bN IE):=cF (by decide +kernel)
noncomputable def KK(P:qC):aD :=
 (nat_lit 3,⟨(.type "dict"),none,.dict (HQ.en P "__name__" 165 (.str "law_longrounds_k74_rings_of_nine" 513)::HQ.en P "__doc__" 166 .none::HQ.en P "__package__" 167 .none::HQ.en P "__loader__" 168 (.builtin "__main__.__loader__#opaque")::HQ.en P "__spec__" 169 .none::HQ.en P "__annotations__" 170 (.ref 6)::HQ.en P "__builtins__" 171 (.ref 4)::HQ.en P "__file__" 173 (.str "/claim/cut.py" 172)::HQ.en P "__cached__" 174 .none::HQ.en P "LongError" 206 (.ref 24)::HQ.en P "TooLong" 222 (.ref 37)::HQ.en P "least_divisor" 232 (.ref 46)::HQ.en P "on" 240 (.ref 53)::HQ.en P "worth" 248 (.ref 58)::HQ.en P "turned" 254 (.ref 63)::HQ.en P "one_at" 260 (.ref 68)::HQ.en P "idle" 266 (.ref 73)::HQ.en P "column_sum" 272 (.ref 78)::HQ.en P "form_ahead" 278 (.ref 83)::HQ.en P "then" 284 (.ref 88)::HQ.en P "setting" 294 (.ref 95)::HQ.en P "ladder" 308 (.ref 102)::HQ.en P "rungs_for" 314 (.ref 107)::HQ.en P "rounds" 325 (.ref 114)::HQ.en P "table_of_item" 334 (.ref 121)::HQ.en P "table_of" 345 (.ref 128)::HQ.en P "without_prime" 355 (.ref 135)::HQ.en P "primes_of" 363 (.ref 142)::HQ.en P "parts_of_rings" 375 (.ref 149)::HQ.en P "product" 384 (.ref 156)::HQ.en P "primes_of_parts" 393 (.ref 163)::HQ.en P "climbed" 404 (.ref 170)::HQ.en P "shortest" 416 (.ref 177)::HQ.en P "tail" 427 (.ref 184)::HQ.en P "ring_of_table" 433 (.ref 189)::HQ.en P "ring" 443 (.ref 196)::HQ.en P "LONGEST_RING" 447 (.int 10000 446)::HQ.en P "walked" 459 (.ref 203)::HQ.en P "root_above" 467 (.ref 210)::HQ.en P "far_stands" 479 (.ref 217)::HQ.en P "on_or_apart" 496 (.ref 224)::HQ.en P "reach" 512 (.ref 231)::HQ.en P "_law_cell" 522 (.ref 238)::HQ.en P "_law_digits" 533 (.ref 245)::HQ.en P "_law_whole" 540 (.ref 252)::HQ.en P "_law_adding" 550 (.ref 259)::HQ.en P "_law_set" 561 (.ref 266)::HQ.en P "_law_given_back" 567 (.ref 271)::HQ.en P "_law_items" 573 (.ref 276)::HQ.en P "_law_done" 579 (.ref 281)::HQ.en P "_law_ring" 585 (.ref 286)::HQ.en P "law" 599 (.ref 293)::[]).toArray 52,#[]⟩) ::
 (nat_lit 23,⟨(.type "dict"),none,.dict (HQ.en P "__module__" 196 (.str "longrounds.errors" 187)::HQ.en P "__firstlineno__" 200 (.int 2 199)::HQ.en P "__static_attributes__" 201 (.ref 22)::HQ.en P "__weakref__" 203 (.ref 25)::HQ.en P "__doc__" 204 .none::[]).toArray 3,#[]⟩) ::
 (nat_lit 24,⟨(.type "type"),none,.cls { name:="LongError",bases:=[(.type "ValueError")],mro:=[(.ref 24),(.type "ValueError"),(.type "Exception"),(.type "BaseException"),(.type "object")],ns:=23,qualname:="LongError",hasDict:=true,slotNames:=[],subclasses:=[(.ref 37)],abstract:=false,collection:=none,hasDel:=false },([some (.ref 15),none,some (.str "LongError" 189),some (.str "LongError" 197),some (.builtin "ValueError.__new__"),some (.bool true)]).toArray⟩) ::
 (nat_lit 36,⟨(.type "dict"),none,.dict (HQ.en P "__module__" 214 (.str "longrounds.errors" 187)::HQ.en P "__firstlineno__" 218 (.int 4 217)::HQ.en P "__static_attributes__" 219 (.ref 35)::HQ.en P "__doc__" 220 .none::[]).toArray 2,#[]⟩) ::
 (nat_lit 37,⟨(.type "type"),none,.cls { name:="TooLong",bases:=[(.ref 24)],mro:=[(.ref 37),(.ref 24),(.type "ValueError"),(.type "Exception"),(.type "BaseException"),(.type "object")],ns:=36,qualname:="TooLong",hasDict:=true,slotNames:=[],subclasses:=[],abstract:=false,collection:=none,hasDel:=false },([some (.ref 28),none,some (.str "TooLong" 207),some (.str "TooLong" 215),some (.builtin "ValueError.__new__"),some (.bool true)]).toArray⟩) ::
 (nat_lit 45,HQ.cO "least_divisor" 225 7 1 (.ref 40) (.ref 41) (.ref 42) (.ref 43) (.ref 44) 230) ::
 (nat_lit 46,HQ.fO "least_divisor" (top 4) (.str "longrounds.numbers" 223) (.ref 45)) ::
 (nat_lit 52,HQ.cO "on" 233 14 2 (.ref 47) (.ref 48) (.ref 49) (.ref 50) (.ref 51) 238) ::
 (nat_lit 53,HQ.fO "on" (top 5) (.str "longrounds.numbers" 223) (.ref 52)) ::
 (nat_lit 57,HQ.cO "worth" 243 17 3 (.ref 54) (.ref 55) .none .none (.ref 56) 246) ::
 (nat_lit 58,HQ.fO "worth" (top 7) (.str "longrounds.tables" 241) (.ref 57)) ::
 (nat_lit 62,HQ.cO "turned" 249 20 3 (.ref 59) (.ref 60) .none .none (.ref 61) 252) ::
 (nat_lit 63,HQ.fO "turned" (top 8) (.str "longrounds.tables" 241) (.ref 62)) ::
 (nat_lit 67,HQ.cO "one_at" 255 22 2 (.ref 64) (.ref 65) .none .none (.ref 66) 258) ::
 (nat_lit 68,HQ.fO "one_at" (top 9) (.str "longrounds.tables" 241) (.ref 67)) ::
 (nat_lit 72,HQ.cO "idle" 261 24 1 (.ref 69) (.ref 70) .none .none (.ref 71) 264) ::
 (nat_lit 73,HQ.fO "idle" (top 10) (.str "longrounds.tables" 241) (.ref 72)) ::
 (nat_lit 77,HQ.cO "column_sum" 267 26 3 (.ref 74) (.ref 75) .none .none (.ref 76) 270) ::
 (nat_lit 78,HQ.fO "column_sum" (top 11) (.str "longrounds.tables" 241) (.ref 77)) ::
 (nat_lit 82,HQ.cO "form_ahead" 273 28 3 (.ref 79) (.ref 80) .none .none (.ref 81) 276) ::
 (nat_lit 83,HQ.fO "form_ahead" (top 12) (.str "longrounds.tables" 241) (.ref 82)) ::
 (nat_lit 87,HQ.cO "then" 279 33 3 (.ref 84) (.ref 85) .none .none (.ref 86) 282) ::
 (nat_lit 88,HQ.fO "then" (top 13) (.str "longrounds.tables" 241) (.ref 87)) ::
 (nat_lit 94,HQ.cO "setting" 285 35 3 (.ref 89) (.ref 90) (.ref 91) (.ref 92) (.ref 93) 292) ::
 (nat_lit 95,HQ.fO "setting" (top 14) (.str "longrounds.tables" 241) (.ref 94)) ::
 (nat_lit 101,HQ.cO "ladder" 297 40 3 (.ref 96) (.ref 97) (.ref 98) (.ref 99) (.ref 100) 306) ::
 (nat_lit 102,HQ.fO "ladder" (top 16) (.str "longrounds.making" 295) (.ref 101)) ::
 (nat_lit 106,HQ.cO "rungs_for" 309 47 2 (.ref 103) (.ref 104) .none .none (.ref 105) 312) ::
 (nat_lit 107,HQ.fO "rungs_for" (top 17) (.str "longrounds.making" 295) (.ref 106)) ::
 (nat_lit 113,HQ.cO "rounds" 315 49 3 (.ref 108) (.ref 109) (.ref 110) (.ref 111) (.ref 112) 323) ::
 (nat_lit 114,HQ.fO "rounds" (top 18) (.str "longrounds.making" 295) (.ref 113)) ::
 (nat_lit 120,HQ.cO "table_of_item" 326 54 3 (.ref 115) (.ref 116) (.ref 117) (.ref 118) (.ref 119) 332) ::
 (nat_lit 121,HQ.fO "table_of_item" (top 19) (.str "longrounds.making" 295) (.ref 120)) ::
 (nat_lit 127,HQ.cO "table_of" 335 58 3 (.ref 122) (.ref 123) (.ref 124) (.ref 125) (.ref 126) 343) ::
 (nat_lit 128,HQ.fO "table_of" (top 20) (.str "longrounds.making" 295) (.ref 127)) ::
 (nat_lit 134,HQ.cO "without_prime" 348 64 2 (.ref 129) (.ref 130) (.ref 131) (.ref 132) (.ref 133) 353) ::
 (nat_lit 135,HQ.fO "without_prime" (top 22) (.str "longrounds.rings" 346) (.ref 134)) ::
 (nat_lit 141,HQ.cO "primes_of" 356 68 1 (.ref 136) (.ref 137) (.ref 138) (.ref 139) (.ref 140) 361) ::
 (nat_lit 142,HQ.fO "primes_of" (top 23) (.str "longrounds.rings" 346) (.ref 141)) ::
 (nat_lit 148,HQ.cO "parts_of_rings" 364 74 2 (.ref 143) (.ref 144) (.ref 145) (.ref 146) (.ref 147) 373) ::
 (nat_lit 149,HQ.fO "parts_of_rings" (top 24) (.str "longrounds.rings" 346) (.ref 148)) ::
 (nat_lit 155,HQ.cO "product" 376 85 1 (.ref 150) (.ref 151) (.ref 152) (.ref 153) (.ref 154) 382) ::
 (nat_lit 156,HQ.fO "product" (top 25) (.str "longrounds.rings" 346) (.ref 155)) ::
 (nat_lit 162,HQ.cO "primes_of_parts" 385 90 1 (.ref 157) (.ref 158) (.ref 159) (.ref 160) (.ref 161) 391) ::
 (nat_lit 163,HQ.fO "primes_of_parts" (top 26) (.str "longrounds.rings" 346) (.ref 162)) ::
 (nat_lit 169,HQ.cO "climbed" 394 95 4 (.ref 164) (.ref 165) (.ref 166) (.ref 167) (.ref 168) 402) ::
 (nat_lit 170,HQ.fO "climbed" (top 27) (.str "longrounds.rings" 346) (.ref 169)) ::
 (nat_lit 176,HQ.cO "shortest" 405 99 5 (.ref 171) (.ref 172) (.ref 173) (.ref 174) (.ref 175) 414) ::
 (nat_lit 177,HQ.fO "shortest" (top 28) (.str "longrounds.rings" 346) (.ref 176)) ::
 (nat_lit 183,HQ.cO "tail" 417 104 4 (.ref 178) (.ref 179) (.ref 180) (.ref 181) (.ref 182) 425) ::
 (nat_lit 184,HQ.fO "tail" (top 29) (.str "longrounds.rings" 346) (.ref 183)) ::
 (nat_lit 188,HQ.cO "ring_of_table" 428 110 3 (.ref 185) (.ref 186) .none .none (.ref 187) 431) ::
 (nat_lit 189,HQ.fO "ring_of_table" (top 30) (.str "longrounds.rings" 346) (.ref 188)) ::
 (nat_lit 195,HQ.cO "ring" 434 118 4 (.ref 190) (.ref 191) (.ref 192) (.ref 193) (.ref 194) 441) ::
 (nat_lit 196,HQ.fO "ring" (top 31) (.str "longrounds.rings" 346) (.ref 195)) ::
 (nat_lit 202,HQ.cO "walked" 448 122 4 (.ref 197) (.ref 198) (.ref 199) (.ref 200) (.ref 201) 457) ::
 (nat_lit 203,HQ.fO "walked" (top 34) (.str "longrounds.reaching" 444) (.ref 202)) ::
 (nat_lit 209,HQ.cO "root_above" 460 128 1 (.ref 204) (.ref 205) (.ref 206) (.ref 207) (.ref 208) 465) ::
 (nat_lit 210,HQ.fO "root_above" (top 35) (.str "longrounds.reaching" 444) (.ref 209)) ::
 (nat_lit 216,HQ.cO "far_stands" 468 133 5 (.ref 211) (.ref 212) (.ref 213) (.ref 214) (.ref 215) 477) ::
 (nat_lit 217,HQ.fO "far_stands" (top 36) (.str "longrounds.reaching" 444) (.ref 216)) ::
 (nat_lit 223,HQ.cO "on_or_apart" 480 136 6 (.ref 218) (.ref 219) (.ref 220) (.ref 221) (.ref 222) 494) ::
 (nat_lit 224,HQ.fO "on_or_apart" (top 37) (.str "longrounds.reaching" 444) (.ref 223)) ::
 (nat_lit 230,HQ.cO "reach" 497 144 5 (.ref 225) (.ref 226) (.ref 227) (.ref 228) (.ref 229) 510) ::
 (nat_lit 231,HQ.fO "reach" (top 38) (.str "longrounds.reaching" 444) (.ref 230)) ::
 (nat_lit 237,HQ.cO "_law_cell" 515 158 2 (.ref 232) (.ref 233) (.ref 234) (.ref 235) (.ref 236) 520) ::
 (nat_lit 238,HQ.fO "_law_cell" (top 40) (.str "law_longrounds_k74_rings_of_nine" 513) (.ref 237)) ::
 (nat_lit 244,HQ.cO "_law_digits" 523 162 3 (.ref 239) (.ref 240) (.ref 241) (.ref 242) (.ref 243) 531) ::
 (nat_lit 245,HQ.fO "_law_digits" (top 41) (.str "law_longrounds_k74_rings_of_nine" 513) (.ref 244)) ::
 (nat_lit 251,HQ.cO "_law_whole" 534 168 1 (.ref 246) (.ref 247) (.ref 248) (.ref 249) (.ref 250) 538) ::
 (nat_lit 252,HQ.fO "_law_whole" (top 42) (.str "law_longrounds_k74_rings_of_nine" 513) (.ref 251)) ::
 (nat_lit 258,HQ.cO "_law_adding" 541 170 3 (.ref 253) (.ref 254) (.ref 255) (.ref 256) (.ref 257) 548) ::
 (nat_lit 259,HQ.fO "_law_adding" (top 43) (.str "law_longrounds_k74_rings_of_nine" 513) (.ref 258)) ::
 (nat_lit 265,HQ.cO "_law_set" 551 175 3 (.ref 260) (.ref 261) (.ref 262) (.ref 263) (.ref 264) 559) ::
 (nat_lit 266,HQ.fO "_law_set" (top 44) (.str "law_longrounds_k74_rings_of_nine" 513) (.ref 265)) ::
 (nat_lit 270,HQ.cO "_law_given_back" 562 181 2 (.ref 267) (.ref 268) .none .none (.ref 269) 565) ::
 (nat_lit 271,HQ.fO "_law_given_back" (top 45) (.str "law_longrounds_k74_rings_of_nine" 513) (.ref 270)) ::
 (nat_lit 275,HQ.cO "_law_items" 568 187 2 (.ref 272) (.ref 273) .none .none (.ref 274) 571) ::
 (nat_lit 276,HQ.fO "_law_items" (top 46) (.str "law_longrounds_k74_rings_of_nine" 513) (.ref 275)) ::
 (nat_lit 280,HQ.cO "_law_done" 574 197 3 (.ref 277) (.ref 278) .none .none (.ref 279) 577) ::
 (nat_lit 281,HQ.fO "_law_done" (top 47) (.str "law_longrounds_k74_rings_of_nine" 513) (.ref 280)) ::
 (nat_lit 285,HQ.cO "_law_ring" 580 202 3 (.ref 282) (.ref 283) .none .none (.ref 284) 583) ::
 (nat_lit 286,HQ.fO "_law_ring" (top 48) (.str "law_longrounds_k74_rings_of_nine" 513) (.ref 285)) ::
 (nat_lit 292,HQ.cO "law" 586 208 1 (.ref 287) (.ref 288) (.ref 289) (.ref 290) (.ref 291) 597) ::
 (nat_lit 293,HQ.fO "law" (top 49) (.str "law_longrounds_k74_rings_of_nine" 513) (.ref 292))::[]
def ks:List Addr:=[3,23,24,36,37,45,46,52,53,57,58,62,63,67,68,72,73,77,78,82,83,87,88,94,95,101,102,106,107,113,114,120,121,127,128,134,135,141,142,148,149,155,156,162,163,169,170,176,177,183,184,188,189,195,196,202,203,209,210,216,217,223,224,230,231,237,238,244,245,251,252,258,259,265,266,270,271,275,276,280,281,285,286,292,293]
structure Bi (E:Ev):Prop where
 ba:E.mg "all"=none
 bb:E.mg "bool"=none
 bc:E.mg "enumerate"=none
 bd:E.mg "int"=none
 be:E.mg "isinstance"=none
 bf:E.mg "len"=none
 bg:E.mg "list"=none
 bh:E.mg "min"=none
 bi:E.mg "range"=none
 bj:E.mg "set"=none
 bk:E.mg "sorted"=none
 bl:E.mg "sum"=none
 bm:E.mg "tuple"=none
 bn:E.mg "LONGEST_RING"=some (.int 10000 446)
 bo:E.mg "TooLong"=some (.ref 37)
 bp:E.mg "LongError"=some (.ref 24)
 bq:Hd E.K E.mg .tooLong 37
section
variable {E:Ev}(B:Bi E)
abbrev IF (E:Ev):Prop:=cY E 1 "_law_cell" ["script","k"] lO
abbrev IG (E:Ev):Prop:=cY E 1 "_law_digits" ["cell","P","size"] vA
abbrev QZ (E:Ev):Prop:=cY E 1 "_law_done" ["P","items","stand"] FU
abbrev Q0 (E:Ev):Prop:=cY E 1 "_law_adding" ["x","k","n"] yF
abbrev Q2 (E:Ev):Prop:=cY E 1 "_law_given_back" ["P","item"] FV
abbrev Q3 (E:Ev):Prop:=cY E 2 "_law_set" ["cell","more","P"] FX
abbrev Q4 (E:Ev):Prop:=nB E 3 "_law_items" ["script","P"] FZ
abbrev IH (E:Ev):Prop:=cY E 1 "_law_whole" ["found"] vB
abbrev Q5 (E:Ev):Prop:=cY E 2 "_law_ring" ["found","due","P"] F0
abbrev Q6 (E:Ev):Prop:=cY E 1 "one_at" ["width","place"] Bs
abbrev CS (E:Ev):Prop:=cY E 2 "idle" ["many"] yi
abbrev Q7 (E:Ev):Prop:=cY E 1 "column_sum" ["form","table","place"] EM
abbrev II (E:Ev):Prop:=cY E 1 "on" ["P","n"] ou
abbrev Q8 (E:Ev):Prop:=cY E 2 "form_ahead" ["P","table","form"] EN
abbrev CT (E:Ev):Prop:=cY E 3 "then" ["P","one","other"] yh
abbrev IJ (E:Ev):Prop:=nB E 4 "ladder" ["P","table","n"] Bu
abbrev IK (E:Ev):Prop:=nB E 1 "rungs_for" ["rungs","n"] Bv
abbrev CU (E:Ev):Prop:=cY E 5 "rounds" ["P","table","n"] vJ
abbrev Q9 (E:Ev):Prop:=cY E 2 "worth" ["P","form","stand"] yg
abbrev wF (E:Ev):Prop:=cY E 3 "turned" ["P","table","stand"] ox
abbrev CV (E:Ev):Prop:=nB E 4 "walked" ["P","table","stand","count"] yC
abbrev Q_ (E:Ev):Prop:=nB E 6 "far_stands" ["P","table","m","r","stand"] FI
abbrev Ra (E:Ev):Prop:=cY E 1 "root_above" ["r"] FJ
abbrev Rb (E:Ev):Prop:=cY E 7 "on_or_apart" ["P","table","t","r","entry","goal"] yD
abbrev CW (E:Ev):Prop:=cY E 4 "climbed" ["P","rungs","n","stand"] rH
abbrev Rc (E:Ev):Prop:=nB E 1 "parts_of_rings" ["P","many"] BO
abbrev Rf (E:Ev):Prop:=cY E 1 "least_divisor" ["n"] BG
abbrev Rg (E:Ev):Prop:=cY E 1 "without_prime" ["n","divisor"] FK
abbrev Rh (E:Ev):Prop:=nB E 2 "primes_of" ["n"] FL
abbrev Ri (E:Ev):Prop:=nB E 3 "primes_of_parts" ["parts"] FN
abbrev Rj (E:Ev):Prop:=cY E 1 "product" ["parts"] FO
abbrev Rk (E:Ev):Prop:=cY E 5 "shortest" ["P","rungs","n","primes","stand"] FQ
abbrev Rl (E:Ev):Prop:=cY E 5 "tail" ["P","rungs","r","stand"] FT
abbrev IL (E:Ev):Prop:=cY E 6 "ring_of_table" ["P","table","stand"] yE
abbrev Rm (E:Ev):Prop:=cY E 3 "setting" ["many","x","form"] EO
abbrev Rn (E:Ev):Prop:=cY E 17 "table_of" ["P","many","items"] (lQ 12)
abbrev Ro (E:Ev):Prop:=cY E 18 "reach" ["P","many","items","stand","goal"] vV
abbrev Rp (E:Ev):Prop:=cY E 18 "ring" ["P","many","items","stand"] BP
theorem f_s{E:Ev}(B:Bi E)(u_s:Own E "_law_cell" Ij ["script","k"]):IF E:=by
 exact dO u_s a1h rfl rfl λ_ _ _ _ _ _ _ hr hu nd=>(aP (j5 (eF Gy (ag 1) (kz pQ B.bf (by decide +kernel) (ar (ag 0) aK)) (d9 _)) (aZ (cz (bR (ag 0) (ag 1)))) j4)
  (aZ (cz aN)))
theorem f_j{E:Ev}(B:Bi E)(u_j:Own E "_law_digits" Ik ["cell","P","size"]):IG E:=by
 exact dO u_j a1i rfl rfl λ_ _ _ _ _ _ _ hr hu nd=>(aP (iq 3 (jY aK) nd)
  (aP (kY 4 gd rfl (md (ag 2) B.bi)
  (aP (rR 3 (PD.ro (bt i7 (ag 0) (ag 1))))
  (aZ (bU 0 (PD.ro (bt pP (ag 0) (ag 1))) nd))) nd)
  (aZ (cz (kX l9 B.bm (by decide +kernel) (ar (ag 3) aK))))))
theorem f_r{E:Ev}(B:Bi E)(u_r:Own E "_law_done" Il ["P","items","stand"]):QZ E:=by
 exact dO u_r a1j rfl rfl λ_ _ _ _ _ _ _ hr hu nd=>(aP (w2t 3 4 5 gd rfl (tY (gW 1))
  (aP (bU 6 (PD.ro (bt f_ (bR (ag 5) aN) (kz (GD rfl) B.bl (by decide +kernel) (ar (PF.pd (nc (kA.tX (md aN B.bi)) (me (λ_ _ _ _ _=>(PD.ro (bt oE (bR (ag 6) (ag 0)) (bR (ag 3) (ag 0)))))) nd rfl)) aK)))) nd)
  (aZ (bU 2 (PD.ro (bt f_ (bt f_ (Cu (ag 2) Cs (Ct (ag 4))) (f9 (ar (bt i7 (ag 6) (ag 0)) aK))) (Cu (ag 2) (Ct (bt f_ (ag 4) aN)) Cs))) nd))) nd)
  (aZ (cz (ag 2))))
theorem f_i{E:Ev}(B:Bi E)(u_i:Own E "_law_adding" Im ["x","k","n"]):Q0 E:=by
 exact dO u_i a1k rfl rfl λ_ _ _ _ _ _ _ hr hu nd=>(aP (iq 3 (jY p_) nd)
  (aP (zo 3 (ag 0) (PD.ro aN))
  (aP (zo 3 (ag 1) (PD.ro (ag 2)))
  (aZ (cz (f9 (ar m4 (ar (ag 0) (ar (kX l9 B.bm (by decide +kernel) (ar (ag 3) aK)) aK)))))))))
theorem f_b{E:Ev}(B:Bi E)(u_b:Own E "_law_given_back" Io ["P","item"]):Q2 E:=by
 exact dO u_b a1l rfl rfl λ_ _ _ _ _ _ _ hr hu nd=>(aP (bU 2 (PD.ro (bR (ag 1) aN)) nd)
  (aP (bU 3 (PD.ro (bR (PF.pd (nc (kA.tX (Zz aN (ag 0) B.bi)) (Pn (λ_ _ _ _ _=>(eF (ky hu) (bt i7 (bt oE (ag 0) (bR (bR (ag 2) aN) (ag 3))) (ag 1)) aN (d9 _))) (λ_ _ _ _ _=>(PD.ro (ag 0)))) nd rfl)) aN)) nd)
  (aP (G5 4 (tZ (bR (ag 1) aN)) (me (λ_ _ _ _ _=>(PD.ro (bt i7 (bt oE (bt tS (ag 1) (ag 0)) (ag 4)) (ag 1))))) nd rfl)
  (aP (zo 4 (ag 2) (PD.ro (ag 3)))
  (aZ (cz (f9 (ar m4 (ar (ag 2) (ar (kX l9 B.bm (by decide +kernel) (ar (ag 4) aK)) aK))))))))))
theorem f_v{E:Ev}(u_v:Own E "_law_set" Ip ["cell","more","P"])(wG:IG E):Q3 E:=by
 obtain⟨_,_,IM,IP⟩:=wG.up (k':=1) (by lia)
 exact dO u_v a1m rfl rfl λ_ _ _ _ _ _ _ hr hu nd=>(aP (bU 3 (PD.ro (bt i7 (ag 0) aN)) nd)
  (aP (bU 4 (PD.ro (cx IM hr IP (ar (ag 1) (ar (ag 2) (ar aN aK))))) nd)
  (aP (j5 (eF (ky hu) (bR (ag 4) (ag 3)) aN (d9 _)) (aZ (bU 4 (PD.ro (bt f_ (bt f_ (Cu (ag 4) Cs (Ct (ag 3))) (f9 (ar (bt f_ aN (bt i7 (bt pP (ag 0) aN) (bt tS (ag 2) aN))) aK))) (Cu (ag 4) (Ct (bt f_ (ag 3) aN)) Cs))) nd)) j4)
  (aZ (cz (f9 (ar m4 (ar (ag 3) (ar (ag 4) aK)))))))))
theorem f_k{E:Ev}(B:Bi E)(u_k:Own E "_law_items" Iq ["script","P"])(IQ:Q0 E)(wH:IF E)(IS:Q2 E)(IT:Q3 E):Q4 E:=by
 obtain⟨_,_,IU,IV⟩:=IQ.up (k':=2) (by lia)
 obtain⟨_,_,uz,uA⟩:=wH.up (k':=2) (by lia)
 obtain⟨_,_,F_b,m_b⟩:=IS.up (k':=2) (by lia)
 obtain⟨_,_,F_v,m_v⟩:=IT.up (k':=2) (by lia)
 exact sd u_k a1n rfl rfl λ_ _ _ _ _ _ _ hr hu nd=>(aP (iq 2 (jY (ar (f9 p_) (ar (f9 p_) (ar (f9 p_) (ar (f9 p_) (ar (f9 p_) (ar (f9 p_) aK))))))) nd)
  (aP (bU 3 (PD.ro (bR (ag 2) (bt i7 (cx uz hr uA (ar (ag 0) (ar aN aK))) aN))) nd)
  (aP (G5 4 (tZ (f9 p_)) (me (λ_ _ _ _ _=>(PD.ro (bt f_ aN (bt i7 (bt pP (tV uz hr uA (ar (ag 1) (ar aN aK))) (ag 0)) (bt tS (ag 2) aN)))))) nd rfl)
  (aP (iq 5 (jY (ar (cx IU hr IV (ar (bR (ag 3) aN) (ar (bR (ag 3) aN) (ar (bR (ag 4) aN) aK)))) (ar (cx IU hr IV (ar (bR (ag 3) aN) (ar (bR (ag 3) aN) (ar (bR (ag 4) aN) aK)))) aK))) nd)
  (aP (rR 5 (PD.ro (cx IU hr IV (ar (bR (ag 3) aN) (ar aN (ar (bR (ag 4) aN) aK))))))
  (aP (kY 6 gd rfl (x2r aN (bt tS (kz (Zn rfl) B.bh (by decide +kernel) (ar (kz pQ B.bf (by decide +kernel) (ar (ag 0) aK)) (ar aN aK))) aN) aN B.bi)
  (aP (bU 7 (PD.ro (cx F_v hr m_v (ar (bR (ag 0) (ag 6)) (ar (bR (ag 0) (bt f_ (ag 6) aN)) (ar (ag 1) aK))))) nd)
  (aZ (iq 5 (Zw (PM (PF.pd (jY (ar (ag 7) aK))) (ag 5)) (jY (ar (cx F_b hr m_b (ar (ag 1) (ar (ag 7) aK))) aK))) nd))) nd)
  (aZ (zh 5))))))))
theorem f_n{E:Ev}(B:Bi E)(u_n:Own E "_law_whole" Ir ["found"]):IH E:=by
 exact dO u_n a1o rfl rfl λ_ _ _ _ _ _ _ hr hu nd=>(aZ (cz (Y5 (zv Bf (ag 0) B.be (λI q=>iE I rfl B.bd (by decide +kernel) q) ZZ) (Y4 (Y6 (zv Bg (ag 0) B.be (λI q=>iE I rfl B.bb (by decide +kernel) q) Z0))))))
theorem f_q{E:Ev}(B:Bi E)(u_q:Own E "_law_ring" Iu ["found","due","P"])(wI:IH E):Q5 E:=by
 obtain⟨_,_,IW,IX⟩:=wI.up (k':=1) (by lia)
 exact dO u_q a1p rfl rfl λ_ _ _ _ _ _ _ hr hu nd=>(aP (j5 (lZ.pt (wc (wd (wb (zv vj (ag 0) B.be (λI q=>iE I rfl B.bm (by decide +kernel) q) PJ))) (wc (eF (tU hu) (kz pQ B.bf (by decide +kernel) (ar (ag 0) aK)) aN (d9 _)) (Gx (wd (wb (zv Bh (bR (ag 0) aN) B.be (λI q=>iE I rfl B.bg (by decide +kernel) q) Z1))))))) (aZ (cz wa)) j4)
  (aP (j5 (wd (wb (kz (w7a rfl) B.ba (by decide +kernel) (ar (PF.pd (nc (tZ (PF.pd (PM (PF.pd (jY (ar (bR (ag 0) aN) (ar (bR (ag 0) aN) aK)))) (bR (ag 0) aN)))) (me (λ_ _ _ _ _=>(PD.ro (tV IW hr IX (ar (ag 0) aK))))) nd rfl)) aK)))) (aZ (cz wa)) j4)
  (aZ (cz (O7 (ky hu) (ag 0) (f9 (ar aN (ar (ag 1) (ar (PF.pd (jY (ar (ag 2) aK))) aK)))) (d9 _))))))
theorem f_B{E:Ev}(B:Bi E)(u_B:Own E "one_at" vH ["width","place"]):Q6 E:=by
 exact dO u_B a1q rfl rfl λ_ _ _ _ _ _ _ hr hu nd=>(aZ (cz (kX l9 B.bm (by decide +kernel) (ar (PF.pd (nc (kA.tX (md (ag 0) B.bi)) (me (λ_ _ _ _ _=>(PD.ro (Y8 (eF (ky hu) (ag 0) (ag 2) (d9 _)) aN aN)))) nd rfl)) aK))))
theorem f_I{E:Ev}(B:Bi E)(u_I:Own E "idle" tF ["many"])(IY:Q6 E):CS E:=by
 obtain⟨_,_,F_B,m_B⟩:=IY.up (k':=1) (by lia)
 exact dO u_I a1r rfl rfl λ_ _ _ _ _ _ _ hr hu nd=>(aZ (cz (kX l9 B.bm (by decide +kernel) (ar (PF.pd (nc (kA.tX (md (ag 0) B.bi)) (me (λ_ _ _ _ _=>(PD.ro (tV F_B hr m_B (ar (bt f_ (ag 1) aN) (ar (ag 0) aK)))))) nd rfl)) aK))))
theorem f_m{E:Ev}(B:Bi E)(u_m:Own E "column_sum" yp ["form","table","place"]):Q7 E:=by
 exact dO u_m a1s rfl rfl λ_ _ _ _ _ _ _ hr hu nd=>(aZ (cz (kz (GD rfl) B.bl (by decide +kernel) (ar (PF.pd (nc (kA.tX (md (kz pQ B.bf (by decide +kernel) (ar (ag 1) aK)) B.bi)) (me (λ_ _ _ _ _=>(PD.ro (bt oE (bR (ag 1) (ag 0)) (bR (bR (ag 2) (ag 0)) (ag 3)))))) nd rfl)) aK))))
theorem a2r{E:Ev}(a2s:Own E "on" s_on ["P","n"]):II E:=by
 exact dO a2s w7j rfl rfl λ_ _ _ _ _ _ _ hr hu nd=>(aZ (cz (bt i7 (ag 1) (ag 0))))
theorem f_o{E:Ev}(B:Bi E)(u_o:Own E "form_ahead" yq ["P","table","form"])(IZ:Q7 E)(wJ:II E):Q8 E:=by
 obtain⟨_,_,F_m,m_m⟩:=IZ.up (k':=1) (by lia)
 obtain⟨_,_,I0,I8⟩:=wJ.up (k':=1) (by lia)
 exact dO u_o a1t rfl rfl λ_ _ _ _ _ _ _ hr hu nd=>(aP (bU 3 (PD.ro (kz pQ B.bf (by decide +kernel) (ar (ag 1) aK))) nd)
  (aP (G5 4 (kA.tX (md (bt f_ (ag 3) aN) B.bi)) (me (λ_ _ _ _ _=>(PD.ro (tV F_m hr m_m (ar (ag 3) (ar (ag 2) (ar (ag 0) aK))))))) nd rfl)
  (aP (zo 4 (ag 3) (PD.ro (bt f_ (bR (ag 4) (ag 3)) (bR (ag 2) (ag 3)))))
  (aZ (cz (kX l9 B.bm (by decide +kernel) (ar (PF.pd (nc (tZ (ag 4)) (me (λ_ _ _ _ _=>(PD.ro (tV I0 hr I8 (ar (ag 1) (ar (ag 0) aK)))))) nd rfl)) aK)))))))
theorem f_L{E:Ev}(B:Bi E)(u_L:Own E "then" tE ["P","one","other"])(I9:Q8 E):CT E:=by
 obtain⟨_,_,F_o,m_o⟩:=I9.up (k':=2) (by lia)
 exact dO u_L a1u rfl rfl λ_ _ _ _ _ _ _ hr hu nd=>(aZ (cz (kX l9 B.bm (by decide +kernel) (ar (PF.pd (nc (tZ (ag 2)) (me (λ_ _ _ _ _=>(PD.ro (tV F_o hr m_o (ar (ag 1) (ar (ag 2) (ar (ag 0) aK))))))) nd rfl)) aK))))
theorem f_C{E:Ev}(B:Bi E)(u_C:Own E "ladder" vL ["P","table","n"])(qi:CT E):IJ E:=by
 obtain⟨_,_,zV,zW⟩:=qi.up (k':=3) (by lia)
 exact sd u_C a1v rfl rfl λ_ _ _ _ _ _ _ hr hu nd=>(aP (iq 3 (jY aK) nd)
  (aP (bU 4 (PD.ro (ag 1)) nd)
  (aP (kY 5 gd rfl (md (w3b (ag 2)) B.bi)
  (aP (rR 3 (PD.ro (ag 4)))
  (aZ (bU 4 (PD.ro (cx zV hr zW (ar (ag 0) (ar (ag 4) (ar (ag 4) aK))))) nd))) nd)
  (aZ (zh 3)))))
theorem f_t{E:Ev}(B:Bi E)(u_t:Own E "rungs_for" vM ["rungs","n"]):IK E:=by
 exact sd u_t a1w rfl rfl λ_ _ _ _ _ _ _ hr hu nd=>(aZ (G4 (x8w (x4y (ag 0) B.bc) (x8y (λ_ _ _ _ _=>(eF (ky hu) (bt i7 (bt w5t (ag 3) (ag 0)) aN) aN (d9 _))) (λ_ _ _ _ _=>(PD.ro (ag 1)))) nd rfl)))
theorem f_E{E:Ev}(B:Bi E)(u_E:Own E "rounds" tI ["P","table","n"])(qk:CS E)(wK:IJ E)(wL:IK E)(qi:CT E):CU E:=by
 obtain⟨_,_,zX,zY⟩:=qk.up (k':=4) (by lia)
 obtain⟨_,_,I_,Ja⟩:=wK.up (k':=4) (by lia)
 obtain⟨_,_,Jb,Jc⟩:=wL.up (k':=4) (by lia)
 obtain⟨_,_,zV,zW⟩:=qi.up (k':=4) (by lia)
 exact dO u_E a1x rfl rfl λ_ _ _ _ _ _ _ hr hu nd=>(aP (bU 3 (PD.ro (cx zX hr zY (ar (kz pQ B.bf (by decide +kernel) (ar (ag 1) aK)) aK))) nd)
  (aP (kY 4 gd rfl (tY (PF.ro (l_ Jb hr Jc (ar (PF.pd (l_ I_ hr Ja (ar (ag 0) (ar (ag 1) (ar (ag 2) aK))))) (ar (ag 2) aK)))))
  (aZ (bU 3 (PD.ro (cx zV hr zW (ar (ag 0) (ar (ag 3) (ar (ag 4) aK))))) nd)) nd)
  (aZ (cz (ag 3)))))
theorem f_G{E:Ev}(B:Bi E)(u_G:Own E "worth" yj ["P","form","stand"])(wJ:II E):Q9 E:=by
 obtain⟨_,_,I0,I8⟩:=wJ.up (k':=1) (by lia)
 exact dO u_G a1y rfl rfl λ_ _ _ _ _ _ _ hr hu nd=>(aP (bU 3 (PD.ro (kz pQ B.bf (by decide +kernel) (ar (ag 2) aK))) nd)
  (aZ (cz (cx I0 hr I8 (ar (ag 0) (ar (bt f_ (kz (GD rfl) B.bl (by decide +kernel) (ar (PF.pd (nc (kA.tX (md (ag 3) B.bi)) (me (λ_ _ _ _ _=>(PD.ro (bt oE (bR (ag 2) (ag 0)) (bR (ag 3) (ag 0)))))) nd rfl)) aK)) (bR (ag 1) (ag 3))) aK))))))
theorem f_D{E:Ev}(B:Bi E)(u_D:Own E "turned" pE ["P","table","stand"])(Jd:Q9 E):wF E:=by
 obtain⟨_,_,F_G,m_G⟩:=Jd.up (k':=2) (by lia)
 exact dO u_D a1z rfl rfl λ_ _ _ _ _ _ _ hr hu nd=>(aZ (cz (kX l9 B.bm (by decide +kernel) (ar (PF.pd (nc (tZ (ag 1)) (me (λ_ _ _ _ _=>(PD.ro (tV F_G hr m_G (ar (ag 1) (ar (ag 0) (ar (ag 3) aK))))))) nd rfl)) aK))))
theorem f_F{E:Ev}(B:Bi E)(u_F:Own E "walked" tO ["P","table","stand","count"])(j8:wF E):CV E:=by
 obtain⟨_,_,ql,qm⟩:=j8.up (k':=3) (by lia)
 exact sd u_F a2a rfl rfl λ_ _ _ _ _ _ _ hr hu nd=>(aP (iq 4 (jY aK) nd)
  (aP (kY 5 gd rfl (md (ag 3) B.bi)
  (aP (rR 4 (PD.ro (ag 2)))
  (aZ (bU 2 (PD.ro (cx ql hr qm (ar (ag 0) (ar (ag 1) (ar (ag 2) aK))))) nd))) nd)
  (aZ (zh 4))))
theorem f_p{E:Ev}(u_p:Own E "far_stands" Iv ["P","table","m","r","stand"])(qo:CU E)(j8:wF E)(qp:CV E):Q_ E:=by
 obtain⟨_,_,zZ,z8⟩:=qo.up (k':=5) (by lia)
 obtain⟨_,_,ql,qm⟩:=j8.up (k':=5) (by lia)
 obtain⟨_,_,z9,z_⟩:=qp.up (k':=5) (by lia)
 exact sd u_p a2b rfl rfl λ_ _ _ _ _ _ _ hr hu nd=>(aP (bU 5 (PD.ro (cx zZ hr z8 (ar (ag 0) (ar (ag 1) (ar (ag 2) aK))))) nd)
  (aZ (G4 (l_ z9 hr z_ (ar (ag 0) (ar (ag 5) (ar (cx ql hr qm (ar (ag 0) (ar (ag 5) (ar (ag 4) aK)))) (ar (bt pP (bt tS (bt f_ (ag 3) (ag 2)) aN) (ag 2)) aK))))))))
theorem f_l{E:Ev}(u_l:Own E "root_above" Iw ["r"]):Ra E:=by
 exact dO u_l a2c rfl rfl λ_ _ _ _ _ _ _ hr hu nd=>(aP (bU 1 (PD.ro aN) nd)
  (aP (uq 200 gd (eF Gy (bt oE (ag 1) (ag 1)) (ag 0) (d9 _)) (aZ (bU 1 (PD.ro (bt f_ (ag 1) aN)) nd)))
  (aZ (cz (ag 1)))))
theorem f_h{E:Ev}(B:Bi E)(u_h:Own E "on_or_apart" yQ ["P","table","t","r","entry","goal"])(Je:Q_ E)(Jf:Ra E)(qp:CV E):Rb E:=by
 obtain⟨_,_,F_p,m_p⟩:=Je.up (k':=6) (by lia)
 obtain⟨_,_,F_l,m_l⟩:=Jf.up (k':=6) (by lia)
 obtain⟨_,_,z9,z_⟩:=qp.up (k':=6) (by lia)
 exact dO u_h a2d rfl rfl λ_ _ _ _ _ _ _ hr hu nd=>(aP (bU 6 (PD.ro (cx F_l hr m_l (ar (ag 3) aK))) nd)
  (aP (iq 7 (l_ z9 hr z_ (ar (ag 0) (ar (ag 1) (ar (ag 5) (ar (ag 6) aK))))) nd)
  (aP (iq 8 (l_ F_p hr m_p (ar (ag 0) (ar (ag 1) (ar (ag 6) (ar (ag 3) (ar (ag 4) aK)))))) nd)
  (aP (w5e 8 (w2u 9 10 gd rfl (x8u (gW 8) aN B.bc)
  (aZ (j5 (eF (Qt hu) (ag 10) (ag 7) rfl) (aZ (cz (f9 (ar m4 (ar (bt tS (bt f_ (ag 2) (bt oE (ag 9) (ag 6))) (Qv hu (ag 7) (ag 10))) aK))))) j4)) nd))
  (aZ (cz (f9 (ar m4 (ar (ag 2) (ar (ag 3) (ar (ag 7) (ar (ag 8) aK))))))))))))
theorem f_z{E:Ev}(u_z:Own E "climbed" tN ["P","rungs","n","stand"])(wL:IK E)(j8:wF E):CW E:=by
 obtain⟨_,_,Jb,Jc⟩:=wL.up (k':=3) (by lia)
 obtain⟨_,_,ql,qm⟩:=j8.up (k':=3) (by lia)
 exact dO u_z a2e rfl rfl λ_ _ _ _ _ _ _ hr hu nd=>(aP (kY 4 gd rfl (tY (PF.ro (l_ Jb hr Jc (ar (ag 1) (ar (ag 2) aK)))))
  (aZ (bU 3 (PD.ro (cx ql hr qm (ar (ag 0) (ar (ag 4) (ar (ag 3) aK))))) nd)) nd)
  (aZ (cz (ag 3))))
theorem f_c{E:Ev}(B:Bi E)(u_c:Own E "parts_of_rings" Iy ["P","many"]):Rc E:=by
 exact sd u_c a2f rfl rfl λ_ _ _ _ _ _ _ hr hu nd=>(aP (iq 2 (jY (ar (bt tS (ag 0) aN) aK)) nd)
  (aP (bU 3 (PD.ro aN) nd)
  (aP (kY 4 gd rfl (md (ag 1) B.bi)
  (aP (rR 2 (PD.ro (ag 3)))
  (aZ (bU 3 (PD.ro (bt f_ (bt oE (ag 3) (ag 0)) aN)) nd))) nd)
  (aP (bU 5 (PD.ro aN) nd)
  (aP (uq 10 gd (eF Gy (ag 5) (bt f_ (ag 1) aN) (d9 _)) (aP (rR 2 (PD.ro (ag 0)))
  (aZ (bU 5 (PD.ro (bt oE (ag 5) (ag 0))) nd))))
  (aZ (zh 2)))))))
theorem f_g{E:Ev}(u_g:Own E "least_divisor" Iz ["n"]):Rf E:=by
 exact dO u_g a2g rfl rfl λ_ _ _ _ _ _ _ hr hu nd=>(aP (bU 1 (PD.ro aN) nd)
  (aP (uq 10000 gd (eF Y9 (bt oE (ag 1) (ag 1)) (ag 0) (d9 _)) (aP (j5 (eF (ky hu) (bt i7 (ag 0) (ag 1)) aN (d9 _)) (aZ (cz (ag 1))) j4)
  (aZ (bU 1 (PD.ro (bt f_ (ag 1) aN)) nd))))
  (aZ (cz (ag 0)))))
theorem f_f{E:Ev}(u_f:Own E "without_prime" IA ["n","divisor"]):Rg E:=by
 exact dO u_f a2h rfl rfl λ_ _ _ _ _ _ _ hr hu nd=>(aP (uq 100 gd (eF (ky hu) (bt i7 (ag 0) (ag 1)) aN (d9 _)) (aZ (bU 0 (PD.ro (bt pP (ag 0) (ag 1))) nd)))
  (aZ (cz (ag 0))))
theorem f_u{E:Ev}(u_u:Own E "primes_of" yI ["n"])(Jg:Rf E)(Jh:Rg E):Rh E:=by
 obtain⟨_,_,F_g,m_g⟩:=Jg.up (k':=1) (by lia)
 obtain⟨_,_,F_f,m_f⟩:=Jh.up (k':=1) (by lia)
 exact sd u_u a2i rfl rfl λ_ _ _ _ _ _ _ hr hu nd=>(aP (iq 1 (jY aK) nd)
  (aP (uq 100 gd (eF O9 (ag 0) aN (d9 _)) (aP (rR 1 (PD.ro (cx F_g hr m_g (ar (ag 0) aK))))
  (aZ (bU 0 (PD.ro (cx F_f hr m_f (ar (ag 0) (ar (bR (ag 1) (Y7 aN)) aK)))) nd))))
  (aZ (zh 1))))
theorem f_a{E:Ev}(B:Bi E)(u_a:Own E "primes_of_parts" yN ["parts"])(Ji:Rh E):Ri E:=by
 obtain⟨_,_,F_u,m_u⟩:=Ji.up (k':=2) (by lia)
 exact sd u_a a2j rfl rfl λ_ _ _ _ _ _ _ hr hu nd=>(aP (iq 1 (jY aK) nd)
  (aP (kY 2 gd rfl (tY (gW 0))
  (aZ (x4v 1 (l_ F_u hr m_u (ar (ag 2) aK)))) nd)
  (aZ (G4 (w2v (ag 1) B.bk B.bj rfl)))))
theorem f_A{E:Ev}(u_A:Own E "product" yL ["parts"]):Rj E:=by
 exact dO u_A a2k rfl rfl λ_ _ _ _ _ _ _ hr hu nd=>(aP (bU 1 (PD.ro aN) nd)
  (aP (kY 2 gd rfl (tY (gW 0))
  (aZ (bU 1 (PD.ro (bt w3i (ag 1) (ag 2))) nd)) nd)
  (aZ (cz (ag 1)))))
theorem f_x{E:Ev}(u_x:Own E "shortest" yJ ["P","rungs","n","primes","stand"])(qq:CW E):Rk E:=by
 obtain⟨_,_,Aa,Ab⟩:=qq.up (k':=4) (by lia)
 exact dO u_x a2l rfl rfl λ_ _ _ _ _ _ _ hr hu nd=>(aP (kY 5 gd rfl (tY (gW 3))
  (aZ (uq 200 gd (lZ.pt (Y3 (eF (ky hu) (bt i7 (ag 2) (ag 5)) aN (d9 _)) (Y2 (eF (ky hu) (cx Aa hr Ab (ar (ag 0) (ar (ag 1) (ar (bt pP (ag 2) (ag 5)) (ar (ag 4) aK))))) (ag 4) (d9 _))))) (aZ (bU 2 (PD.ro (bt pP (ag 2) (ag 5))) nd)))) nd)
  (aZ (cz (ag 2))))
theorem f_J{E:Ev}(u_J:Own E "tail" yK ["P","rungs","r","stand"])(qq:CW E)(j8:wF E):Rl E:=by
 obtain⟨_,_,Aa,Ab⟩:=qq.up (k':=4) (by lia)
 obtain⟨_,_,ql,qm⟩:=j8.up (k':=4) (by lia)
 exact dO u_J a2m rfl rfl λ_ _ _ _ _ _ _ hr hu nd=>(aP (bU 4 (PD.ro aN) nd)
  (aP (uq 10 gd (eF (tU hu) (cx Aa hr Ab (ar (ag 0) (ar (ag 1) (ar (ag 2) (ar (ag 3) aK))))) (ag 3) (d9 _)) (aP (bU 3 (PD.ro (cx ql hr qm (ar (ag 0) (ar (bR (ag 1) aN) (ar (ag 3) aK))))) nd)
  (aZ (bU 4 (PD.ro (bt f_ (ag 4) aN)) nd))))
  (aZ (cz (ag 4)))))
theorem f_e{E:Ev}(B:Bi E)(u_e:Own E "ring_of_table" vX ["P","table","stand"])(qq:CW E)(wK:IJ E)(Jj:Rc E)(Jk:Ri E)(Jl:Rj E)(Jm:Rk E)(Jn:Rl E):IL E:=by
 obtain⟨_,_,Aa,Ab⟩:=qq.up (k':=5) (by lia)
 obtain⟨_,_,I_,Ja⟩:=wK.up (k':=5) (by lia)
 obtain⟨_,_,F_c,m_c⟩:=Jj.up (k':=5) (by lia)
 obtain⟨_,_,F_a,m_a⟩:=Jk.up (k':=5) (by lia)
 obtain⟨_,_,F_A,m_A⟩:=Jl.up (k':=5) (by lia)
 obtain⟨_,_,F_x,m_x⟩:=Jm.up (k':=5) (by lia)
 obtain⟨_,_,F_J,m_J⟩:=Jn.up (k':=5) (by lia)
 exact dO u_e a2n rfl rfl λ_ _ _ _ _ _ _ hr hu nd=>(aP (bU 3 (PD.ro (kz pQ B.bf (by decide +kernel) (ar (ag 1) aK))) nd)
  (aP (iq 4 (l_ F_c hr m_c (ar (ag 0) (ar (ag 3) aK))) nd)
  (aP (bU 5 (PD.ro (cx F_A hr m_A (ar (ag 4) aK))) nd)
  (aP (iq 6 (l_ F_a hr m_a (ar (ag 4) aK)) nd)
  (aP (iq 7 (l_ I_ hr Ja (ar (ag 0) (ar (ag 1) (ar (ag 5) aK)))) nd)
  (aP (bU 8 (PD.ro (cx F_x hr m_x (ar (ag 0) (ar (ag 7) (ar (ag 5) (ar (ag 6) (ar (cx Aa hr Ab (ar (ag 0) (ar (ag 7) (ar (ag 3) (ar (ag 2) aK))))) aK))))))) nd)
  (aZ (cz (f9 (ar (cx F_J hr m_J (ar (ag 0) (ar (ag 7) (ar (ag 8) (ar (ag 2) aK))))) (ar (ag 8) (ar (PF.pd (nc (tZ (ag 6)) (Pn (λ_ _ _ _ _=>(eF (ky hu) (bt i7 (ag 9) (ag 0)) aN (d9 _))) (λ_ _ _ _ _=>(PD.ro (ag 0)))) nd rfl)) aK))))))))))))
theorem f_y{E:Ev}(B:Bi E)(u_y:Own E "setting" yt ["many","x","form"])(qk:CS E):Rm E:=by
 obtain⟨_,_,zX,zY⟩:=qk.up (k':=2) (by lia)
 exact dO u_y a2o rfl rfl λ_ _ _ _ _ _ _ hr hu nd=>(aP (iq 3 (Zv (cx zX hr zY (ar (ag 0) aK)) B.bg (by decide +kernel)) nd)
  (aP (zo 3 (ag 1) (PD.ro (kX l9 B.bm (by decide +kernel) (ar (ag 2) aK))))
  (aZ (cz (kX l9 B.bm (by decide +kernel) (ar (ag 3) aK))))))
theorem f_w{E:Ev}(u_w:Own E "table_of" tJ ["P","many","items"])(u_d:Own E "table_of_item" IC ["P","many","item"])(qk:CS E)(qi:CT E)(qo:CU E)(Jo:Rm E):∀n:Nat,cY E (5+n) "table_of" ["P","many","items"] (lQ n)/\cY E (5+n) "table_of_item" ["P","many","item"] (pF n):=by
 obtain⟨a_w,d_w,Rq,Rr,wM⟩:=u_w
 obtain⟨a_d,d_d,Rt,Ru,Rw⟩:=u_d
 have A:∀n:Nat,gF E.P E.w E.K E.mg E.base (5+n) a_w d_w ["P","many","items"] (lQ n)/\gF E.P E.w E.K E.mg E.base (5+n) a_d d_d ["P","many","item"] (pF n):=by
  intro n
  induction n with
  | zero=>exact⟨PL (k:=4) Rq IB Rr,PL (k:=4) Rt ID Ru⟩
  | succ n ih =>
    obtain⟨Ac,F_d⟩:=ih
    obtain⟨_,_,zX,zY⟩:=qk.up (k':=5+n) (by lia)
    obtain⟨_,_,zV,zW⟩:=qi.up (k':=5+n) (by lia)
    obtain⟨_,_,zZ,z8⟩:=qo.up (k':=5+n) (by lia)
    obtain⟨_,_,F_y,m_y⟩:=Jo.up (k':=5+n) (by lia)
    refine⟨?_,?_⟩
    ·refine Cp (k:=5+n) Rq IB Rr (λds h=>rg h) λbH A outer s H E hr=>?_
     have nd:=IB.nd
     have hu:=hr.units
     refine⟨Bw (lQ n) (pF n),?_,λds a8=>(vp (rg a8)).symm⟩
     exact(aP (bU 3 (PD.ro (cx zX hr zY (ar (ag 1) aK))) nd)
     (aP (kY 4 gd rfl (tY (gW 2))
     (aZ (bU 3 (PD.ro (cx zV hr zW (ar (ag 0) (ar (ag 3) (ar (cx F_d hr Rw (ar (ag 0) (ar (ag 1) (ar (ag 4) aK)))) aK))))) nd)) nd)
     (aZ (cz (ag 3)))))
    ·refine Cp (k:=5+n) Rt ID Ru (λds h=>rg h) λbH A outer s H E hr=>?_
     have nd:=ID.nd
     have hu:=hr.units
     refine⟨Bx (lQ n) (pF n),?_,λds a8=>(vp (rg a8)).symm⟩
     exact(aP (j5 (eF (ky hu) (bR (ag 2) aN) m4 (d9 _)) (aZ (cz (cx F_y hr m_y (ar (ag 1) (ar (bR (ag 2) aN) (ar (bR (ag 2) aN) aK)))))) j4)
     (aZ (cz (cx zZ hr z8 (ar (ag 0) (ar (cx Ac hr wM (ar (ag 0) (ar (ag 1) (ar (bR (ag 2) aN) aK)))) (ar (bR (ag 2) aN) aK)))))))
 exact λn=>⟨⟨_,_,(A n).1,wM⟩,⟨_,_,(A n).2,Rw⟩⟩
theorem f_H{E:Ev}(B:Bi E)(u_H:Own E "reach" BZ ["P","many","items","stand","goal"])(Jp:Rb E)(wN:IL E)(qo:CU E)(wO:Rn E)(j8:wF E)(qp:CV E):Ro E:=by
 obtain⟨_,_,F_h,m_h⟩:=Jp.up (k':=17) (by lia)
 obtain⟨_,_,Jq,Jr⟩:=wN.up (k':=17) (by lia)
 obtain⟨_,_,zZ,z8⟩:=qo.up (k':=17) (by lia)
 obtain⟨_,_,Ac,wM⟩:=wO.up (k':=17) (by lia)
 obtain⟨_,_,ql,qm⟩:=j8.up (k':=17) (by lia)
 obtain⟨_,_,z9,z_⟩:=qp.up (k':=17) (by lia)
 exact dO u_H a2p rfl rfl λ_ _ _ _ _ _ _ hr hu nd=>(aP (bU 5 (PD.ro (cx Ac hr wM (ar (ag 0) (ar (ag 1) (ar (ag 2) aK))))) nd)
  (aP (bU 6 (zE Jq hr Jr (gI (gW 0) (gI (gW 5) (gI (gW 3) zw)))) nd)
  (aP (bU 7 (PD.ro (bR (ag 6) aN)) nd)
  (aP (bU 8 (PD.ro (bR (ag 6) aN)) nd)
  (aP (j5 (eF O9 (ag 8) (Z2 B.bn ⟨_,rfl⟩) (d9 _)) (aZ (x8s B.bq m4 rfl)) j4)
  (aP (iq 9 (l_ z9 hr z_ (ar (ag 0) (ar (ag 5) (ar (ag 3) (ar (bt f_ (ag 7) aN) aK))))) nd)
  (aP (j5 (eF (Qt hu) (ag 4) (ag 9) rfl) (aZ (cz (f9 (ar m4 (ar (Qv hu (ag 9) (ag 4)) aK))))) j4)
  (aP (j5 (eF (tU hu) (cx ql hr qm (ar (ag 0) (ar (cx zZ hr z8 (ar (ag 0) (ar (ag 5) (ar (ag 8) aK)))) (ar (ag 4) aK)))) (ag 4) (d9 _)) (aZ (cz (f9 (ar m4 (ar (ag 7) (ar (ag 8) aK)))))) j4)
  (aZ (cz (iL.pd (zE F_h hr m_h (gI (gW 0) (gI (gW 5) (gI (gW 7) (gI (gW 8) (gI (PD.ro (bR (ag 9) (ag 7))) (gI (gW 4) zw))))))))))))))))))
theorem f_K{E:Ev}(u_K:Own E "ring" yO ["P","many","items","stand"])(wN:IL E)(wO:Rn E):Rp E:=by
 obtain⟨_,_,Jq,Jr⟩:=wN.up (k':=17) (by lia)
 obtain⟨_,_,Ac,wM⟩:=wO.up (k':=17) (by lia)
 exact dO u_K a2q rfl rfl λ_ _ _ _ _ _ _ hr hu nd=>(aZ (cz (iL.pd (zE Jq hr Jr (gI (gW 0) (gI (PD.ro (cx Ac hr wM (ar (ag 0) (ar (ag 1) (ar (ag 2) aK))))) (gI (gW 3) zw)))))))
theorem w8i{E:Ev}{a:Addr}{d:cP}(B:Bi E)(U:mI E.K "law" "law" IE a d)(hb:n6 E.K d ["script"] [])(wH:IF E)(wG:IG E)(Js:QZ E)(Jt:Q4 E)(Ju:Q5 E)(wI:IH E)(Jv:Ro E)(Jw:Rp E):gF E.P E.w E.K E.mg E.base 19 a d ["script"] B2:=by
 obtain⟨_,_,uz,uA⟩:=wH.up (k':=18) (by lia)
 obtain⟨_,_,IM,IP⟩:=wG.up (k':=18) (by lia)
 obtain⟨_,_,F_r,m_r⟩:=Js.up (k':=18) (by lia)
 obtain⟨_,_,F_k,m_k⟩:=Jt.up (k':=18) (by lia)
 obtain⟨_,_,F_q,m_q⟩:=Ju.up (k':=18) (by lia)
 obtain⟨_,_,IW,IX⟩:=wI.up (k':=18) (by lia)
 obtain⟨_,_,F_H,m_H⟩:=Jv.up (k':=18) (by lia)
 obtain⟨_,_,F_K,m_K⟩:=Jw.up (k':=18) (by lia)
 refine Cp U QY hb (λds h=>rg h) λbH A outer s H E hr=>?_
 have nd:=QY.nd
 have hu:=hr.units
 exact⟨Gq,(aP (bU 1 (PD.ro aN) nd)
  (aP (j5 (eF (ky hu) (bt i7 (cx uz hr uA (ar (ag 0) (ar aN aK))) aN) aN (d9 _)) (aZ (bU 1 (PD.ro (bR (f9 p_) (bt i7 (bt pP (cx uz hr uA (ar (ag 0) (ar aN aK))) aN) aN))) nd)) j4)
  (aP (iq 2 (l_ F_k hr m_k (ar (ag 0) (ar (ag 1) aK))) nd)
  (aP (bU 3 (PD.ro (bR (PF.pd (jY (ar (ag 1) (ar aN aK)))) (kX w6z B.bd (by decide +kernel) (ar (O7 (ky hu) (ag 1) aN (d9 _)) aK)))) nd)
  (aP (iq 4 (jY (ar (cx IM hr IP (ar (cx uz hr uA (ar (ag 0) (ar aN aK))) (ar (ag 1) (ar aN aK)))) aK)) nd)
  (aP (kY 5 gd rfl (md (ag 3) B.bi)
  (aZ (rR 4 (PD.ro (cx F_r hr m_r (ar (ag 1) (ar (ag 2) (ar (bR (ag 4) (ag 5)) aK))))))) nd)
  (aP (j5 (lZ.pt (wc (eF (tU hu) (bR (ag 4) (ag 3)) (bR (ag 4) aN) (d9 _)) (Gx (eF (tU hu) (w2y (ag 4) B.bf B.bj rfl hu) (ag 3) (d9 _))))) (aZ (cz wa)) j4)
  (aP (bU 6 (PD.ro (kX l9 B.bm (by decide +kernel) (ar (ag 2) aK))) nd)
  (aP (j5 (eF (ky hu) (bt i7 (bt pP (cx uz hr uA (ar (ag 0) (ar aN aK))) aN) aN) aN (d9 _)) (aZ (bU 6 (PD.ro (f9 (ar (f9 (ar m4 (ar aN (ar (kX l9 B.bm (by decide +kernel) (ar (ag 2) aK)) aK)))) aK))) nd)) j4)
  (aP (j5 (wd (wb (cx F_q hr m_q (ar (iL.pd (zE F_K hr m_K (gI (gW 1) (gI (PD.ro aN) (gI (gW 6) (gI (PD.ro (bR (ag 4) aN)) zw)))))) (ar (ag 3) (ar (ag 1) aK)))))) (aZ (cz wa)) j4)
  (aP (kY 5 gd rfl (md (ag 3) B.bi)
  (aP (bU 7 (zE F_H hr m_H (gI (gW 1) (gI (PD.ro aN) (gI (gW 6) (gI (PD.ro (bR (ag 4) aN)) (gI (PD.ro (bR (ag 4) (ag 5))) zw)))))) nd)
  (aZ (j5 (lZ.pt (wc (wd (wb (zv vj (ag 7) B.be (λI q=>iE I rfl B.bm (by decide +kernel) q) PJ))) (wc (eF (tU hu) (kz pQ B.bf (by decide +kernel) (ar (ag 7) aK)) aN (d9 _)) (wc (wd (wb (cx IW hr IX (ar (bR (ag 7) aN) aK)))) (Gx (eF (tU hu) (ag 7) (f9 (ar m4 (ar (ag 5) aK))) (d9 _))))))) (aZ (cz wa)) j4))) nd)
  (aZ (cz wa))))))))))))),λds a8=>(vp (rg a8)).symm⟩
end
theorem se{α:Type}{p:List α->Prop}(h:∀a,p [a])(us:List α)(hl:us.length=1):p us:=by
 obtain⟨a,rfl⟩:∃a,us=[a]:=by
  match us,hl with
  | [a],_=>exact⟨a,rfl⟩
 exact h a
theorem sf{α:Type}{p:List α->Prop}(h:∀a b,p [a,b])(us:List α)(hl:us.length=2):p us:=by
 obtain⟨a,b,rfl⟩:∃a b,us=[a,b]:=by
  match us,hl with
  | [a,b],_=>exact⟨a,b,rfl⟩
 exact h a b
theorem jH{α:Type}{p:List α->Prop}(h:∀a b c,p [a,b,c])(us:List α)(hl:us.length=3):p us:=by
 obtain⟨a,b,c,rfl⟩:∃a b c,us=[a,b,c]:=by
  match us,hl with
  | [a,b,c],_=>exact⟨a,b,c,rfl⟩
 exact h a b c
theorem CY{α:Type}{p:List α->Prop}(h:∀a b c d,p [a,b,c,d])(us:List α)(hl:us.length=4):p us:=by
 obtain⟨a,b,c,d,rfl⟩:∃a b c d,us=[a,b,c,d]:=by
  match us,hl with
  | [a,b,c,d],_=>exact⟨a,b,c,d,rfl⟩
 exact h a b c d
theorem Jy{α:Type}{p:List α->Prop}(h:∀a b c d e,p [a,b,c,d,e])(us:List α)(hl:us.length=5):p us:=by
 obtain⟨a,b,c,d,e,rfl⟩:∃a b c d e,us=[a,b,c,d,e]:=by
  match us,hl with
  | [a,b,c,d,e],_=>exact⟨a,b,c,d,e,rfl⟩
 exact h a b c d e
theorem w8b{α:Type}{p:List α->Prop}(h:∀a b c d e f,p [a,b,c,d,e,f])(us:List α)(hl:us.length=6):p us:=by
 obtain⟨a,b,c,d,e,f,rfl⟩:∃a b c d e f,us=[a,b,c,d,e,f]:=by
  match us,hl with
  | [a,b,c,d,e,f],_=>exact⟨a,b,c,d,e,f,rfl⟩
 exact h a b c d e f
section
variable {w:aO}{h:Heap}{mg:Str->Option Value}(X:(KK w.params).In h)(G:h.Ns dP mg)
include X G in
theorem ma{x:Str}{v:Value}(e:mz (KK w.params) dP x=some (some v)):mg x=some v:=C6 X G e
include X G in
theorem mn{x:Str}(e:mz (KK w.params) dP x=some none):mg x=none:=PySem.W.mg_none_of X G e
include X G in
theorem ow(base:Heap){x:Str}{st:Stmt}{ps:List Str}{c:Addr}{pm:Value}(a:Addr)(n:mz (KK w.params) dP x=some (some (.ref a)))(l:(KK w.params).lookup a=some (HQ.fO x st pm (.ref c)))(e:JK (KK w.params) (.ref c) x=true)(b:∀(kV doc pm:Value) (an:Option Addr) (bH ct:Value) (us:List Value),us.length=ps.length->RG (C3 x x (xO st) (oi st) (bN st) .none kV doc pm an bH ct) ⟨us,[]⟩=pure (ps.zip us)):Own ⟨PySem.Challenge.rw_longrounds_k74_rings_of_nine.prog,w,(KK w.params),mg,base⟩ x st ps:=⟨a,_,HQ.Ii l e,(HQ.Ii l e).binds b,C6 X G n⟩
include X G in
set_option maxHeartbeats 0 in
theorem all{fa:Addr}(hfa:mg "law"=some (.ref fa)):∃fd:cP,(∀(s:ai) (v:Value),BindsTo s fd ⟨[v],[]⟩ [("script",v)])/\∀base:Heap,(KK w.params).In base->base.Ns dP mg->jo PySem.Challenge.rw_longrounds_k74_rings_of_nine.prog w (KK w.params) mg base (pR PySem.Challenge.rw_longrounds_k74_rings_of_nine.prog w) 19 fa fd ["script"] (wt B2 (KK w.params)):=by
 k_fill
 have Rx:mz (KK w.params) dP "TooLong"=some (some (.ref 37)):=by k_is
 have Ry:=C6 X G Rx
 have a9p:He (KK w.params) 37:=⟨by k_is,by k_is,by k_is,by k_is,by k_is,by k_is,QX (by k_is)⟩
 have a2t:mz (KK w.params) dP "LongError"=some (some (.ref 24)):=by k_is
 have a2u:=C6 X G a2t
 have a9q:He (KK w.params) 24:=⟨by k_is,by k_is,by k_is,by k_is,by k_is,by k_is,QX (by k_is)⟩
 have a2v:Hd (KK w.params) mg .tooLong 37:=⟨Rx,Ry,by k_exc⟩
 have a9r:mz (KK w.params) dP "NoPrime"=some none:=by k_is
 have a9s:mz (KK w.params) dP "NoNumber"=some none:=by k_is
 have a9t:mz (KK w.params) dP "NoProgram"=some none:=by k_is
 have a9u:mz (KK w.params) dP "Lossy"=some none:=by k_is
 have a9v:mz (KK w.params) dP "NoText"=some none:=by k_is
 have lL:(KK w.params).lookup 293=some (HQ.fO "law" IE (.str "law_longrounds_k74_rings_of_nine" 513) (.ref 292)):=by k_is
 have lC:JK (KK w.params) (.ref 292) "law"=true:=by k_is
 have a2w:=ma X G (x:="law") (v:=.ref 293) (by k_is)
 have e:=hfa.symm.trans a2w
 cases e
 have UL:=HQ.Ii lL lC
 refine a1g UL (λs v=>.of_eq rfl) λbase _ _=>?_
 have B:Bi ⟨PySem.Challenge.rw_longrounds_k74_rings_of_nine.prog,w,(KK w.params),mg,base⟩:=⟨mn X G (by k_is),mn X G (by k_is),mn X G (by k_is),mn X G (by k_is),mn X G (by k_is),mn X G (by k_is),mn X G (by k_is),mn X G (by k_is),mn X G (by k_is),mn X G (by k_is),mn X G (by k_is),mn X G (by k_is),mn X G (by k_is),ma X G (by k_is),Ry,a2u,a2v⟩
 have a2x:=ow X G base (x:="_law_cell") (st:=Ij) (ps:=["script","k"]) 238 (by k_is) (by k_is) (by k_is) λ_ _ _ _ _ _=>sf λ_ _=>rfl
 have wH:=f_s B a2x
 have a2y:=ow X G base (x:="_law_digits") (st:=Ik) (ps:=["cell","P","size"]) 245 (by k_is) (by k_is) (by k_is) λ_ _ _ _ _ _=>jH λ_ _ _=>rfl
 have wG:=f_j B a2y
 have a2z:=ow X G base (x:="_law_done") (st:=Il) (ps:=["P","items","stand"]) 281 (by k_is) (by k_is) (by k_is) λ_ _ _ _ _ _=>jH λ_ _ _=>rfl
 have Js:=f_r B a2z
 have a3a:=ow X G base (x:="_law_adding") (st:=Im) (ps:=["x","k","n"]) 259 (by k_is) (by k_is) (by k_is) λ_ _ _ _ _ _=>jH λ_ _ _=>rfl
 have IQ:=f_i B a3a
 have a3b:=ow X G base (x:="_law_given_back") (st:=Io) (ps:=["P","item"]) 271 (by k_is) (by k_is) (by k_is) λ_ _ _ _ _ _=>sf λ_ _=>rfl
 have IS:=f_b B a3b
 have a3c:=ow X G base (x:="_law_set") (st:=Ip) (ps:=["cell","more","P"]) 266 (by k_is) (by k_is) (by k_is) λ_ _ _ _ _ _=>jH λ_ _ _=>rfl
 have IT:=f_v a3c wG
 have a3d:=ow X G base (x:="_law_items") (st:=Iq) (ps:=["script","P"]) 276 (by k_is) (by k_is) (by k_is) λ_ _ _ _ _ _=>sf λ_ _=>rfl
 have Jt:=f_k B a3d IQ wH IS IT
 have a3e:=ow X G base (x:="_law_whole") (st:=Ir) (ps:=["found"]) 252 (by k_is) (by k_is) (by k_is) λ_ _ _ _ _ _=>se λ_=>rfl
 have wI:=f_n B a3e
 have a3f:=ow X G base (x:="_law_ring") (st:=Iu) (ps:=["found","due","P"]) 286 (by k_is) (by k_is) (by k_is) λ_ _ _ _ _ _=>jH λ_ _ _=>rfl
 have Ju:=f_q B a3f wI
 have a3g:=ow X G base (x:="one_at") (st:=vH) (ps:=["width","place"]) 68 (by k_is) (by k_is) (by k_is) λ_ _ _ _ _ _=>sf λ_ _=>rfl
 have IY:=f_B B a3g
 have a3h:=ow X G base (x:="idle") (st:=tF) (ps:=["many"]) 73 (by k_is) (by k_is) (by k_is) λ_ _ _ _ _ _=>se λ_=>rfl
 have qk:=f_I B a3h IY
 have a3i:=ow X G base (x:="column_sum") (st:=yp) (ps:=["form","table","place"]) 78 (by k_is) (by k_is) (by k_is) λ_ _ _ _ _ _=>jH λ_ _ _=>rfl
 have IZ:=f_m B a3i
 have a3j:=ow X G base (x:="on") (st:=s_on) (ps:=["P","n"]) 53 (by k_is) (by k_is) (by k_is) λ_ _ _ _ _ _=>sf λ_ _=>rfl
 have wJ:=a2r a3j
 have a3k:=ow X G base (x:="form_ahead") (st:=yq) (ps:=["P","table","form"]) 83 (by k_is) (by k_is) (by k_is) λ_ _ _ _ _ _=>jH λ_ _ _=>rfl
 have I9:=f_o B a3k IZ wJ
 have a3l:=ow X G base (x:="then") (st:=tE) (ps:=["P","one","other"]) 88 (by k_is) (by k_is) (by k_is) λ_ _ _ _ _ _=>jH λ_ _ _=>rfl
 have qi:=f_L B a3l I9
 have a3m:=ow X G base (x:="ladder") (st:=vL) (ps:=["P","table","n"]) 102 (by k_is) (by k_is) (by k_is) λ_ _ _ _ _ _=>jH λ_ _ _=>rfl
 have wK:=f_C B a3m qi
 have a3n:=ow X G base (x:="rungs_for") (st:=vM) (ps:=["rungs","n"]) 107 (by k_is) (by k_is) (by k_is) λ_ _ _ _ _ _=>sf λ_ _=>rfl
 have wL:=f_t B a3n
 have a3o:=ow X G base (x:="rounds") (st:=tI) (ps:=["P","table","n"]) 114 (by k_is) (by k_is) (by k_is) λ_ _ _ _ _ _=>jH λ_ _ _=>rfl
 have qo:=f_E B a3o qk wK wL qi
 have a3p:=ow X G base (x:="worth") (st:=yj) (ps:=["P","form","stand"]) 58 (by k_is) (by k_is) (by k_is) λ_ _ _ _ _ _=>jH λ_ _ _=>rfl
 have Jd:=f_G B a3p wJ
 have a3q:=ow X G base (x:="turned") (st:=pE) (ps:=["P","table","stand"]) 63 (by k_is) (by k_is) (by k_is) λ_ _ _ _ _ _=>jH λ_ _ _=>rfl
 have j8:=f_D B a3q Jd
 have a3r:=ow X G base (x:="walked") (st:=tO) (ps:=["P","table","stand","count"]) 203 (by k_is) (by k_is) (by k_is) λ_ _ _ _ _ _=>CY λ_ _ _ _=>rfl
 have qp:=f_F B a3r j8
 have a3s:=ow X G base (x:="far_stands") (st:=Iv) (ps:=["P","table","m","r","stand"]) 217 (by k_is) (by k_is) (by k_is) λ_ _ _ _ _ _=>Jy λ_ _ _ _ _=>rfl
 have Je:=f_p a3s qo j8 qp
 have a3t:=ow X G base (x:="root_above") (st:=Iw) (ps:=["r"]) 210 (by k_is) (by k_is) (by k_is) λ_ _ _ _ _ _=>se λ_=>rfl
 have Jf:=f_l a3t
 have a3u:=ow X G base (x:="on_or_apart") (st:=yQ) (ps:=["P","table","t","r","entry","goal"]) 224 (by k_is) (by k_is) (by k_is) λ_ _ _ _ _ _=>w8b λ_ _ _ _ _ _=>rfl
 have Jp:=f_h B a3u Je Jf qp
 have a3v:=ow X G base (x:="climbed") (st:=tN) (ps:=["P","rungs","n","stand"]) 170 (by k_is) (by k_is) (by k_is) λ_ _ _ _ _ _=>CY λ_ _ _ _=>rfl
 have qq:=f_z a3v wL j8
 have a3w:=ow X G base (x:="parts_of_rings") (st:=Iy) (ps:=["P","many"]) 149 (by k_is) (by k_is) (by k_is) λ_ _ _ _ _ _=>sf λ_ _=>rfl
 have Jj:=f_c B a3w
 have a3x:=ow X G base (x:="least_divisor") (st:=Iz) (ps:=["n"]) 46 (by k_is) (by k_is) (by k_is) λ_ _ _ _ _ _=>se λ_=>rfl
 have Jg:=f_g a3x
 have a3y:=ow X G base (x:="without_prime") (st:=IA) (ps:=["n","divisor"]) 135 (by k_is) (by k_is) (by k_is) λ_ _ _ _ _ _=>sf λ_ _=>rfl
 have Jh:=f_f a3y
 have a3z:=ow X G base (x:="primes_of") (st:=yI) (ps:=["n"]) 142 (by k_is) (by k_is) (by k_is) λ_ _ _ _ _ _=>se λ_=>rfl
 have Ji:=f_u a3z Jg Jh
 have a4a:=ow X G base (x:="primes_of_parts") (st:=yN) (ps:=["parts"]) 163 (by k_is) (by k_is) (by k_is) λ_ _ _ _ _ _=>se λ_=>rfl
 have Jk:=f_a B a4a Ji
 have a4b:=ow X G base (x:="product") (st:=yL) (ps:=["parts"]) 156 (by k_is) (by k_is) (by k_is) λ_ _ _ _ _ _=>se λ_=>rfl
 have Jl:=f_A a4b
 have a4c:=ow X G base (x:="shortest") (st:=yJ) (ps:=["P","rungs","n","primes","stand"]) 177 (by k_is) (by k_is) (by k_is) λ_ _ _ _ _ _=>Jy λ_ _ _ _ _=>rfl
 have Jm:=f_x a4c qq
 have a4d:=ow X G base (x:="tail") (st:=yK) (ps:=["P","rungs","r","stand"]) 184 (by k_is) (by k_is) (by k_is) λ_ _ _ _ _ _=>CY λ_ _ _ _=>rfl
 have Jn:=f_J a4d qq j8
 have a4e:=ow X G base (x:="ring_of_table") (st:=vX) (ps:=["P","table","stand"]) 189 (by k_is) (by k_is) (by k_is) λ_ _ _ _ _ _=>jH λ_ _ _=>rfl
 have wN:=f_e B a4e qq wK Jj Jk Jl Jm Jn
 have a4f:=ow X G base (x:="setting") (st:=yt) (ps:=["many","x","form"]) 95 (by k_is) (by k_is) (by k_is) λ_ _ _ _ _ _=>jH λ_ _ _=>rfl
 have Jo:=f_y B a4f qk
 have a4g:=ow X G base (x:="table_of") (st:=tJ) (ps:=["P","many","items"]) 128 (by k_is) (by k_is) (by k_is) λ_ _ _ _ _ _=>jH λ_ _ _=>rfl
 have a4h:=ow X G base (x:="table_of_item") (st:=IC) (ps:=["P","many","item"]) 121 (by k_is) (by k_is) (by k_is) λ_ _ _ _ _ _=>jH λ_ _ _=>rfl
 have Rz:=f_w a4g a4h qk qi qo Jo
 have wO:=(Rz 12).1
 have p_d:=(Rz 12).2
 have a4i:=ow X G base (x:="reach") (st:=BZ) (ps:=["P","many","items","stand","goal"]) 231 (by k_is) (by k_is) (by k_is) λ_ _ _ _ _ _=>Jy λ_ _ _ _ _=>rfl
 have Jv:=f_H B a4i Jp wN qo wO j8 qp
 have a4j:=ow X G base (x:="ring") (st:=yO) (ps:=["P","many","items","stand"]) 196 (by k_is) (by k_is) (by k_is) λ_ _ _ _ _ _=>CY λ_ _ _ _=>rfl
 have Jw:=f_K a4j wN wO
 exact w8i (E:=⟨PySem.Challenge.rw_longrounds_k74_rings_of_nine.prog,w,(KK w.params),mg,base⟩) B UL (UL.binds λ_ _ _ _ _ _=>se λ_=>rfl) wH wG Js Jt Ju wI Jv Jw
end
end Row
open PySem PySem.W PyProof.Rows
set_option maxRecDepth 100000 in
set_option maxHeartbeats 0 in
theorem PySem.Challenge.cw_longrounds_k74_rings_of_nine_holds : PySem.Challenge.rw_longrounds_k74_rings_of_nine.Holds := by
 w_on;o_law
 refine PySem.W.holds_open (q:=Tx PySem.Challenge.pw_longrounds_k74_rings_of_nine [49]) (loose:=HQ.a1d PySem.Challenge.pw_longrounds_k74_rings_of_nine) (Xt:=λs=>PySem.W.xlAt (Tx PySem.Challenge.pw_longrounds_k74_rings_of_nine [49]) [] s&&PySem.W.recOk [] s) (XP:=PySem.W.XL (Tx PySem.Challenge.pw_longrounds_k74_rings_of_nine [49]) []) (Yf:=λs=>Row.ks.map s.heap.get?) (Ya:=λw=>(Row.KK w.params).map λp:Addr×Obj=>some p.2) (YP:=PySem.W.InK Row.KK) (N:=40000) ?hl (PySem.W.InK.of (K:=Row.KK) (as:=Row.ks) λ_=>rfl) PySem.W.InK.keeps (λs e=>PySem.W.xl_of s (Bool.and_eq_true_iff.mp e).1) PySem.W.XL.keeps (by rfl) (by rfl) (by rfl) (λs e=>PySem.W.recFacts_of (Bool.and_eq_true_iff.mp e).2) (by rfl) (by assumption) (by decide +kernel) ⟨rfl,rfl,rfl,rfl,rfl,by decide +kernel⟩ ?hw ?hc
 case hl =>
  refine HQ.a1e (by kernel_rfl) (by kernel_rfl) (λs=>by kernel_rfl) ?_
  intro w os
  delta Row.KK Row.top
  rw[PySem.W.Fast.te3173095248291853426]
  kernel_rfl
 case hw=>w_witness2
 exact L3.Z6 (sp:=L3.wt L3.B2) (l:=PySem.Challenge.rw_longrounds_k74_rings_of_nine) (n:=63) (k:=19) (x:="script") (CX:=λw=>L3.pR PySem.Challenge.rw_longrounds_k74_rings_of_nine.prog w) rfl (by decide) rfl ⟨rfl,by decide,by decide⟩ (K:=Row.KK) (λw h Y=>Y) (λw mg fa h KX G pj=>Row.all KX G pj) (λK H a ns hl hS=>L3.Z4 L3.YM hl hS) λw H s e s' h=>L3.Z5 h

