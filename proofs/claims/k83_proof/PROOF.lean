import PyProof.Rows.All
import Wide.All
import OpenK.AllK
import Wide.FinOn
import Lean
import PyProof.EqAt
import PyProof.EqKinds
import PyProof.TupleCall
import KE.KIntText
import KE.KRevIter
import PyProof.CollectIter
import PyProof.ListNew
import PyProof.StrBlockH
import PyProof.StrWalks
import PyProof.StrLawsChain
import PyProof.StrLawsTight
import KE.IntTextText
import PySem.Challenge.RW_longrounds_k83_desk_leads_and_undoes
set_option Elab.async false
set_option linter.all false
set_option maxRecDepth 100000
set_option genSizeOf false
set_option maxHeartbeats 4000000
open Array renaming length_toList->qM,getElem_toList->z_,getElem?_eq_getElem->Aa,getElem?_toList->SA,all_toList->SY,toList_append->a5k,getElem?_eq_none->a6r
open Bool renaming and_eq_true->i0,false_eq_true->oU,false_ne_true->sC,or_eq_true->CZ,or_false->Kc,true_and->SU,eq_iff_iff->a7k
open Char renaming toNat->SJ
open False renaming elim->cx
open ForInStep renaming yield->mJ
open Int renaming toNat_natCast->mG,eq_ofNat_of_zero_le->oR,emod_eq_of_lt->sF,zero_add->uE,emod_nonneg->CM,lt_or_le->CS,mul_comm->Ki,emod_lt_of_pos->Kj,mul_le_mul->Ko,neg_mul->Kp,sub_emod->SI,emod_add_mul_ediv->SR,mul_le_mul_of_nonneg_right->SS,natAbs_natCast->SV,natCast_nonneg->SX,fdiv_eq_ediv_of_nonneg->a4g,lt_trichotomy->a4y,mul_neg_of_pos_of_neg->a4z,mul_emod_left->a5a,ediv_nonneg->a5b,ediv_le_self->a5c,ediv_eq_zero_of_lt->a6h
open List renaming length_map->aX,length_cons->b6,size_toArray->de,length_append->dN,mem_append_right->dW,range->eW,getElem?_set_ne->eZ,getElem?_map->e8,mem_cons_of_mem->ft,getElem?_eq_getElem->fu,map_cons->fN,mem_cons_self->gj,length_set->gp,replicate->gG,length_nil->gS,getElem?_set_self->iq,map_map->i4,map_append->jF,mem_cons->jG,getElem?_eq_none->jY,mem_append_left->kH,append_nil->kJ,length_take->lE,not_mem_nil->lG,all_eq_true->mF,cons_append->mI,append_assoc->oO,getElem_mem->oS,length_drop->pS,map_nil->pT,nil_append->pU,length_reverse->qT,mem_of_getElem?->sy,range_succ->sE,getElem?_append_right->uB,getElem?_append_left->wH,replicate_succ->wM,map_drop->wN,take_length->wO,any_cons->wR,reverse_cons->zI,flatten_cons->zJ,map_take->zK,take_of_length_le->zL,drop_zero->zM,getElem?_range->zP,all_cons->zQ,filterMap_cons->CG,all_map->CK,ext_getElem->CO,mem_append->CT,mem_of_mem_take->CU,range'->CW,mem_map->CY,getElem?_replicate->JY,drop_length->Kg,mem_singleton->Kh,range_succ_eq_map->Km,map_congr_left->Kn,take_append_drop->Kq,take_add_one->Kt,getD->Ku,findSome?_cons->Kw,drop_eq_getElem_cons->KC,of_mem_zip->Sf,length->Si,length_singleton->Sz,map_set->SQ,take_succ_cons->S0,any_nil->S8,map_reverse->S9,getElem_inj->a3y,length_replicate->a4m,foldl_cons->a4t,length_dropLast->a4u,getElem_set->a4x,mem_of_mem_drop->a5d,range'_succ->a5f,range_eq_range'->a5g,mem_or_eq_of_mem_set->a5h,getElem?_cons_succ->a5l,take_zero->a5m,nodup_nil->a5v,getElem?_reverse->a6t,getElem_append_left->a7c,getElem_append_right->a7d,getElem_cons_succ->a7e,take_succ_eq_append_getElem->a7f
open List.cons renaming injEq->Kl
open Nat renaming le_refl->a9,lt_of_lt_of_le->dc,ne_of_lt->dM,le_trans->fG,toDigits->lF,lt_irrefl->mB,ne_of_gt->nV,zero_le->pV,zero_add->qS,toDigits_of_lt_base->wQ,lt_succ_self->wV,not_lt_zero->CL,le_of_lt->JU,lt_of_le_of_lt->Kf,sub_self->Kk,lt_or_ge->Kr,mul_comm->Ks,le_of_not_lt->SD,min_eq_left->SG,sub_zero->SH,mod_lt->SK,toDigits_append_toDigits->SM,div_add_mod->SN,pow_succ->SO,add_zero->SW,le_succ->TN,min_eq_right->a4w,two_pow_pos->a5e,le_antisymm->a5x,le_succ_of_le->a5z,succ_le_succ->a6a,lt_succ_of_lt->a7l
open Ne renaming symm->eA
open Option renaming map_some->CP,getD_some->CQ,getD_none->Ke,bind_some->S_
open Option.some renaming inj->mD,injEq->wU
open Or renaming inr->dX,inl->gq
open Prod renaming fst->uF,snd->zW
open Prod.mk renaming injEq->KU
open PyProof renaming noPylong_small->a4h
open PyProof.Rows renaming AllBare->nR,callWith_type1->oV,IsTup->sr,envOfC->uA,IntsAre->uC,Call_->wY,slot_tuple_getitem->J_,Subscript_->Ky,callWith_builtin1->Kz,boot_range->KA,len_tuple->Sd,assign_Tuple_tuple->a4a,slicePart_none->a4n,entry_tuple_getitem->a4q,args_tuple_getitem->a4r,subscriptTail_builtinR->a4s
open PyProof.Rows.F renaming plain_set_update_loop->TM,entry_set_update_loop->a7j
open PySem renaming Shared->ah,wpAny->au,wpAny_mono->az,model->aD,wpAny_bind->aI,World->aR,Program->aS,starEach->aT,wpAny_pure->bR,sizeLine->b5,FuncData->cB,backTo->cH,mainGlobals->dw,Scope->dz,spliced->e9,compEnvC->gU,binaryOp->iI,relabel->iK,compareOp->iY,cLine->iZ,codeAny->jl,wpAny_holding->jE,mem_of_lookup->kg,strValues->kh,assign->kI,Keyword->kK,wpAny_Call_Name_kw->kL,bootBuiltins->lA,rawInt->lB,sizeLine_eq->lD,Result->mE,SetTable->mK,isTrue->nS,assignEach->nU,Model->oK,NameKind->oM,wpAny_field->oN,Params->oP,wpAny_execs_nil->pX,swapsWith->pY,pyNext->qN,pyIter->qO,IsPart->qP,call_meets->qQ,codeAny_mono->qR,scanBound->qV,execs->sv,wpAny_newObj_type->sA,JoinOk->sG,wpAny_passesOwn->sI,Fin->sJ,backToKw->uw,keywordEach->ux,bindL->uy,bindC->uz,callerA->uD,newList->uG,foldedSetIterable->uH,wpAny_execs_cons->uI,attributeBase->uJ,getItem->wI,sliceBounds->wL,wpAny_truthy_bool->wW,notedBy->wZ,newFunctionEnv->w9,lookup_relabel_local->w_,closureFor->xc,wpAny_Call_method_late->xf,wpAny_loadPart_at->xh,wpAny_of_eq->xi,typeLookup_type->xj,builtinLookup_eq_fast->xl,GenState->zE,wpAny_call_entry->zH,holding->zR,wpAny_call->zV,wpAny_Return_some->zY,wpAny_standAt->zZ,wpAny_specialOf->z9,relayAll->Ab,revObj->Ac,behindInMarks->CH,typeLookup->CJ,Meets->C0,wpAny_pyIter_list->C2,wpAny_comprehension_free->C3,compPost->C4,wpAny_Expr_any->C5,codeAny_builtin->C6,field->C7,importedModules->C_,treeTable->Dc,letOwnedTupleGo->JV,IsRangeIter->JW,CmpOp->JX,concat_meets->J2,wpAny_callSpecial?_slot->J4,wpAny_typeOf->Ka,wpAny_ite_false->Kx,eval_ListComp->KD,wpAny_If->KG,wpAny_Assign_Name->KH,comprehension->KI,noteFrame->KL,wpAny_rule->KN,numAt->KQ,wpAny_attempt->KR,ElemsOf->KZ,wpAny_eqBool_str->R4,builtinsNs->R6,wpAny_Name->R7,assignInOrder->R9,wpAny_assign_Name->R_,bindArgs->Se,leaving->Sg,cellsFrom->Sh,noFill_tuple_add->Sj,seq_tuple_add->Sk,seqIndex?->Ss,seqIndex_of->Su,seqIndex_neg->Sv,call->SE,DictEntry->SF,wpAny_BinOp->Ta,standAt->Tb,wpAny_tests_nil->Ti,swapsWithSole->Tj,swappedStores->Tn,codeAny_call_builtin->Tq,checkBuiltinCall->Tr,isSubtype_type->Tv,wpAny_isInstance->Tz,wpAny_setField_rec->TB,plainId_quiet->TF,OsState->TY,wpAny_pyNext_list_item->a4b,wpAny_pyNext_list_end->a4c,wpAny_pyNext_range_end->a4d,wpAny_pyIter_rangeiter->a4e,wpAny_pyIter_range->a4f,recursionLimit->a4k,wpAny_sequenceKey->a4p,wpAny_isTrue_Compare1->a5n,wpAny_Tuple_spliced->a5o,wpAny_List_spliced->a5p,seqSlot_of->a5r,wpAny_tests_one->a5t,wpAny_newFunctionEnv->a5u,wpAny_list_append_plain->a5w,codeAny_compStart_list->a5y,exec_Assign_Name_used->a6b,wpAny_Assign_stores->a6e,codeAny_whileLoop->a6f,wpAny_Try_except->a6m,wpAny_pyIter_enum->a6n,wpAny_comp_letGo->a6o,firstArgMember->a6s,codeAny_of_tree->a6v,wpAny_storeSet_of->a7g,fits_of_scanBound->a7h
open PySem.Around renaming under_plainId->TH
open PySem.AutoSeq1 renaming idx_int->Tc
open PySem.Bind renaming checkArgs->a6q
open PySem.Builtin.Int renaming intBits->Tu
open PySem.Builtin.List renaming listExtendWith->K0,listTooLong->Sy,listSameRef->a7m,listItems->a7n
open PySem.Builtin.Range renaming rangeSize->zF,small->a6i
open PySem.Builtin.Slice renaming slicePlaces->J3,sliceAdjust->So,sliceApplied->a4o
open PySem.Builtin.Str renaming occurrences->zG,partsBetween->a7a,strKind->a7b
open PySem.Builtin.Tuple renaming tupleExact->Kb,tupleItemsOf->Sr,tupleTooMany->a5q
open PySem.Calls renaming spliced_cons->fT,spliced_nil->iJ,callWith_builtin->uK,evalArgs_plain->xg,Constant_str->R8,Name_function_global->a3z,call_len_list->a4i
open PySem.Challenge renaming pw_longrounds_k83_desk_leads_and_undoes->K2
open PySem.Code renaming quiet_builtin->a6l
open PySem.Data renaming fields->Sa,cell->Sb
open PySem.F renaming plainAttrs_list->KJ,slot_str_split->KY,slot_tuple_add->Sl,entry_tuple_add->Sm,args_tuple_add_2->Sn,slot_tuple_mul->Td,entry_tuple_mul->Tf,args_tuple_mul_2->Tg,typeOf_object_class->Tp,sub_reversed_self->Tx,entry_str_split->TJ,args_str_split_2->TK,slot_int_rmul->a5s,slot_list_append->a6c,type_list_append->a6d,plain_set_new->a6w,plainAttrs_str->a6z,slot_tuple_index->a7o
open PySem.Heap renaming lt_size->bX,get?_push_of_some->dE,get?_push_size->gf,SameBut->su,get?_none_of_le->wF,size_push->zX,get?_update_other->Kd,get?_update_self->Sw
open PySem.Heap.SameBut renaming refl->a6j,update->a7i
open PySem.Manifest renaming signature?->a6p
open PySem.NameKind renaming free->qU
open PySem.Obj renaming mapSeq->wK,putSet->TL,data_mapFields->a6g
open PySem.PyData renaming eqv->pW,canLay0->sH,depth->zS,canLayAll0->zT,depthAll->zU,eqvAll->C1
open PySem.SeqAt renaming in_tuple_reads->a6x
open PySem.SetTable renaming Probe->xm,grown->xn,below->C8,leap->C9,bits->KW,runEnd->a6y
open PySem.SetTable.below renaming go->KS
open PySem.SetTable.probe renaming go->a6u
open PySem.Slot renaming of->Tw
open PySem.Str renaming ofString->jn,join->jZ,length->wJ,ext'->zN,cps_append->CN,length_append->Kv
open PySem.StrLaws renaming glued_eq_join->zO,join_length_le->a5i,joinFits->a5j
open PySem.Txt renaming join->mH,split->oQ
open PySem.Value renaming ref->fF,int->nQ,none->qL,type->wD,str->zD,bool->CF,builtin->Tt
open PySem.W renaming Frag->aE,nsIn->ir,boot_heap->ki,mg_of->sD,findIn->uu,mroIn->uv,kia_one->uL,keepIn->wG,callWith_K->wX,kitOne->z8,SharedT->Ad,fnOf->CI,codeIn->JZ,clsIn->KO,looks_mroIn->KP,through->K1,methodObj->R5,excIn->To,looks_findIn->Ts,staticsOk->TR,namesBound->TU,gensDone->TV,laidKept->TX,topFrom->TZ,view->T1,instObj->a3x,specialIn->a4j,cellsFrom_some->a4l,OpenLaw->a4v,typeIn->a6k,mg_none_of->a7p
open PySem.Walks renaming list->Th
open Std.Legacy renaming Range->TQ
open Sum renaming inl->wB,inr->wC
open True renaming intro->CV
noncomputable section
namespace L2
open PySem PySem.Spec PyProof.Rows
abbrev Key:=Sum Int Str
def K3:Key->Value->Bool
 | .inl k,v=>Value.isInt k v
 | .inr x,v=>Value.isStrOf x v
def T2(w:aR):Key->Int
 | .inl k=>hashInt k
 | .inr x=>hashStr w x
def pZ:∀{k:Key} {v:Value},K3 k v=true->(∃i t,k=wB i/\v=nQ i t)∨(∃x t,k=wC x/\v=zD x t)
 | .inl i,v,h=>by
   obtain⟨t,e⟩:=Value.isInt_shape (k:=i) (v:=v) h
   exact .inl ⟨i,t,rfl,e⟩
 | .inr x,v,h=>by
   obtain⟨t,e⟩:=Value.isStrOf_shape (x:=x) (v:=v) h
   exact .inr ⟨x,t,rfl,e⟩
def T3(a b:Int):decide ((wB a:Key)=wB b)=(a==b):=by
 by_cases e:a=b
 ·subst e;simp
 ·have h:¬(wB a:Key)=wB b:=λq=>e (Sum.inl.inj q)
  rw[decide_eq_false h]
  exact(beq_eq_false_iff_ne.mpr e).symm
def T4(a b:Str):decide ((wC a:Key)=wC b)=decide (a=b):=by
 by_cases e:a=b
 ·subst e;simp
 ·have h:¬(wC a:Key)=wC b:=λq=>e (Sum.inr.inj q)
  rw[decide_eq_false h,decide_eq_false e]
def T5(a:Int)(b:Str):decide ((wB a:Key)=wC b)=false:=decide_eq_false (λq=>nomatch q)
def T6(a:Str)(b:Int):decide ((wC a:Key)=wB b)=false:=decide_eq_false (λq=>nomatch q)
def K4(prog:aS)(w:aR):PySem.KeyKind prog w Key where
 is:=K3
 hash:=T2 w
 inj:=λv a b ha hb=>by
  rcases pZ ha with ⟨i,t,rfl,rfl⟩ | ⟨x,t,rfl,rfl⟩
  ·rcases pZ hb with ⟨j,u,rfl,e⟩ | ⟨y,u,rfl,e⟩
   ·injection e with e1 _;rw[e1]
   ·exact nomatch e
  ·rcases pZ hb with ⟨j,u,rfl,e⟩ | ⟨y,u,rfl,e⟩
   ·exact nomatch e
   ·injection e with e1 _;rw[e1]
 byValue:=λk v h=>by
  rcases pZ h with ⟨i,t,rfl,rfl⟩ | ⟨x,t,rfl,rfl⟩<;>rfl
 pyHash:=λhv h=>by
  rcases pZ hv with ⟨i,t,rfl,rfl⟩ | ⟨x,t,rfl,rfl⟩
  ·exact wpAny_pyHash_int h
  ·exact wpAny_pyHash_str h
 eqBool:=λhu hv h=>by
  rcases pZ hu with ⟨i,t,rfl,rfl⟩ | ⟨x,t,rfl,rfl⟩
  ·rcases pZ hv with ⟨j,u,rfl,rfl⟩ | ⟨y,u,rfl,rfl⟩
   ·rw[T3] at h;exact wpAny_eqBool_int h
   ·rw[T5] at h;exact SeqAt.EqAt.int_str i t y u _ _ _ _ h
  ·rcases pZ hv with ⟨j,u,rfl,rfl⟩ | ⟨y,u,rfl,rfl⟩
   ·rw[T6] at h;exact SeqAt.EqAt.str_int x t j u _ _ _ _ h
   ·rw[T4] at h;exact R4 h
 «strs»:=λk x t v h=>by
  rcases pZ h with ⟨i,u,rfl,e⟩ | ⟨y,u,rfl,e⟩
  ·exact nomatch e
  ·injection e with e1 _
   subst e1
   cases v<;>rfl
end L2
namespace L2
open PySem PySem.Spec PyProof.Rows
inductive V where
 | cQ | bl (b:Bool) | int (i:Int) | str (x:Str) | xo (b:Array UInt8) | xp (b:UInt64) | ref (a:Addr) | ty (n:String)
 deriving DecidableEq
def RelV:V->Value->Prop
 | .cQ,u=>u=qL
 | .bl b,u=>u=CF b
 | .int i,u=>∃t,u=nQ i t
 | .str x,u=>∃t,u=zD x t
 | .xo b,u=>∃t,u=Value.bytes b t
 | .xp b,u=>∃t,u=Value.float b t
 | .ref a,u=>u=fF a
 | .ty n,u=>u=wD n
abbrev Vals:List V->List Value->Prop:=Paired RelV
def Vals.length{xs:List V}{us:List Value}(r:Vals xs us):xs.length=us.length:=Paired.length r
def Vals.get:∀{xs:List V} {us:List Value} {i:Nat} {x:V},Vals xs us->xs[i]? = some x->∃u,us[i]? = some u/\RelV x u
 | _,_,_,_,.nil,e=>by simp at e
 | _,_,0,_,.cons r _,e=>by simp at e;subst e;exact⟨_,rfl,r⟩
 | _,_,i+1,x,.cons _ t,e=>by
   obtain⟨u,h1,h2⟩:=Vals.get (i:=i) (x:=x) t (by simpa using e)
   exact⟨u,by simpa using h1,h2⟩
def Vals.set{x:V}{u:Value}(r:RelV x u):∀{xs:List V} {us:List Value} (i:Nat),Vals xs us->Vals (xs.set i x) (us.set i u)
 | _,_,_,.nil=>.nil
 | _,_,0,.cons _ t=>.cons r t
 | _,_,i+1,.cons q t=>.cons q (Vals.set r i t)
def Vals.append:∀{xs ys:List V} {us ws:List Value},Vals xs us->Vals ys ws->Vals (xs++ys) (us++ws)
 | _,_,_,_,.nil,s=>s
 | _,_,_,_,.cons r t,s=>.cons r (Vals.append t s)
def Vals.take:∀{xs:List V} {us:List Value} (n:Nat),Vals xs us->Vals (xs.take n) (us.take n)
 | _,_,0,_=>.nil
 | _,_,_+1,.nil=>.nil
 | _,_,n+1,.cons r t=>.cons r (Vals.take n t)
def Vals.drop:∀{xs:List V} {us:List Value} (n:Nat),Vals xs us->Vals (xs.drop n) (us.drop n)
 | _,_,0,r=>r
 | _,_,_+1,.nil=>.nil
 | _,_,n+1,.cons _ t=>Vals.drop n t
def K5:Option V->Option Value->Prop
 | some v,some u=>RelV v u
 | none,none=>True
 | _,_=>False
def KV{κ:Type}:List (κ×V)->List (κ×Value)->Prop:=Paired λ(p:κ×V) (q:κ×Value)=>p.1=q.1/\RelV p.2 q.2
def kV:Key->V
 | .inl i=>.int i
 | .inr x=>.str x
inductive HO where
 | lst (xs:List V)
 | tup (xs:List V)
 | dK (gW:List (Key×V)) | dT (gW:List (List Key×V))
 | set (S:Int->Bool) (n:Nat)
 | ins (C dx:Addr) (fs:List (Str×V))
 | own (x:Addr)
 | xd (fs:List (Str×V))
 | met (f x:Addr)
 | Ae (lo hi:Int)
 | gX (o:Obj) (u:HO)
 | qW (ps:Array Value)
 | ext (φ:Heap->Prop)
abbrev Hp:=Addr->Option HO
def upd(H:Hp)(a:Addr)(o:HO):Hp:=λb=>if b=a then some o else H b
def dj{H:Hp}{a:Addr}{o:HO}:upd H a o a=some o:=by unfold upd;rw[if_pos rfl]
def bM{H:Hp}{a b:Addr}{o:HO}(h:b≠a):upd H a o b=H b:=by unfold upd;rw[if_neg h]
def ib{H:Hp}{a b:Addr}{o:HO}(h:H a=some o)(h':H b=none):a≠b:=by
 intro e;subst e;rw[h] at h';cases h'
section
variable (P:aS)(w:aR)
def mL(h:Heap)(a:Addr)(items:Array Value):Prop:=∃o,h.get? a=some o/\o.cls = .type "tuple"/\∃n,(o.data,o.dict)=(.seq items n,none)
def mL.tup{h:Heap}{a:Addr}{items:Array Value}(x:mL h a items):sr h a items:=by
 obtain⟨o,e,c,n,d⟩:=x
 exact⟨o,e,c,n,(Prod.mk.inj d).1⟩
def mL.new(h:Heap)(items:Array Value):mL (h.push { cls:=.type "tuple",data:=.seq items }) h.objs.size items:=⟨_,gf h rfl,rfl,_,rfl⟩
def jo(H:Hp)(h:Heap)(a:Addr):HO->Prop
 | .lst xs=>xs.length<=b5/\∃(its:List Value) (n:Nat),Vals xs its/\h.get? a=some { cls:=.type "list",data:=.seq its.toArray n }
 | .tup xs=>xs.length<=b5/\∃its:List Value,Vals xs its/\mL h a its.toArray
 | .dK gW=>gW.length<=b5/\(a==sysModules)=false/\∃vs,KV gW vs/\h.DictOf (K4 P w) a vs
 | .dT gW=>gW.length<=b5/\(a==sysModules)=false/\∃xs:List (List Key×Addr×Value),
    Paired (λ(p:List Key×V) (q:List Key×Addr×Value)=>p.1=q.1/\H q.2.1=some (.tup (p.1.map kV))/\RelV p.2 q.2.2) gW xs /\
    ∃o es ep,h.get? a=some o/\o.ExactDict/\o.data = .dict es ep/\es.toList=xs.map (entryOfKey (tupleKind (K4 P w)))/\(xs.map (·.1)).Nodup
 | .set S n=>h.SetOf (intKind P w) a S n
 | .ins C dx fs=>H dx=some (.own a)/\fs.length<=1000/\dx≠a/\h.get? a=some (a3x C dx) /\
    ∃mA,h.Ns1 dx mA/\(∀f,K5 (fs.lookup f) (mA f))/\PySem.Within mA (fs.map (·.1))
 | .own _=>∃o,h.get? a=some o
 | .xd fs=>∃mA,h.Ns1 a mA/\∀f,K5 (fs.lookup f) (mA f)
 | .Ae lo hi=>∃t u v,h.get? a=some { cls:=.type "range",data:=.fields #[.int lo t,.int hi u,.int 1 v] }
 | .gX o u=>h.get? a=some o/\jo H h a u
 | .qW ps=>h.get? a=some { cls:=.none,data:=.fields ps }
 | .met f x=>h.get? a=some (R5 (.ref f) (.ref x))
 | .ext φ=>φ h/\(∃o,h.get? a=some o)/\∀h1 h2:Heap,φ h1->(∀o,h1.get? a=some o->h2.get? a=some o)->φ h2
def eB(H:Hp)(h:Heap):Prop:=∀a o,H a=some o->jo P w H h a o
end
section
variable {P:aS}{w:aR}{H H':Hp}{h h':Heap}{a:Addr}{o:HO}
def jo.lt(x:jo P w H h a o):a<h.objs.size:=by
 cases o with
 | lst xs=>obtain⟨_,_,_,_,e⟩:=x;exact bX e
 | tup xs=>obtain⟨_,_,_,p⟩:=x;exact(mL.tup p).lt
 | dK gW=>obtain⟨_,_,_,_,o,_,_,e,_⟩:=x;exact bX e
 | dT gW=>obtain⟨_,_,_,_,o,_,_,e,_⟩:=x;exact bX e
 | set S n=>obtain⟨o,_,_,_,e,_⟩:=x;exact bX e
 | ins C dx fs=>obtain⟨_,_,_,e,_⟩:=x;exact bX e
 | own y=>obtain⟨_,e⟩:=x;exact bX e
 | xd fs=>obtain⟨_,⟨_,_,_,e,_⟩,_⟩:=x;exact bX e
 | Ae lo hi=>obtain⟨_,_,_,e⟩:=x;exact bX e
 | gX ob u=>obtain⟨e,_⟩:=x;exact bX e
 | qW ps=>exact bX (show h.get? a=some _ from x)
 | met f y=>exact bX (show h.get? a=some _ from x)
 | ext φ=>obtain⟨_,⟨_,e⟩,_⟩:=x;exact bX e
def Paired.K6{α β:Type}{F G:α->β->Prop}:∀{K7:List α} {K8:List β},Paired F K7 K8->(∀a b,F a b->G a b)->Paired G K7 K8
 | _,_,.nil,_=>.nil
 | _,_,.cons r t,f=>.cons (f _ _ r) (Paired.K6 t f)
def jo.lH(x:jo P w H h a o)(k:∀b u,(b=a∨H b=some (.own a))->h.get? b=some u->h'.get? b=some u)
 (ho:∀b,H b=some (.own a)->H' b=some (.own a)) (ht:∀b xs,H b=some (.tup xs)->H' b=some (.tup xs)):jo P w H' h' a o:=by
 induction o with
 | lst xs=>obtain⟨z,its,n,r,e⟩:=x;exact⟨z,its,n,r,k _ _ (.inl rfl) e⟩
 | tup xs=>obtain⟨z,its,r,ob,e,c⟩:=x;exact⟨z,its,r,ob,k _ _ (.inl rfl) e,c⟩
 | dK gW=>obtain⟨z,y,vs,r,ob,es,ep,e,c⟩:=x;exact⟨z,y,vs,r,ob,es,ep,k _ _ (.inl rfl) e,c⟩
 | dT gW =>
   obtain⟨z,y,xs,r,ob,es,ep,e,c⟩:=x
   exact⟨z,y,xs,Paired.K6 r λp q z=>⟨z.1,ht _ _ z.2.1,z.2.2⟩,ob,es,ep,k _ _ (.inl rfl) e,c⟩
 | set S n=>obtain⟨ob,es,ep,t,e,c⟩:=x;exact⟨ob,es,ep,t,k _ _ (.inl rfl) e,c⟩
 | ins C dx fs =>
   obtain⟨d,z,ne,e,mA,⟨od,es,ep,e2,c⟩,r⟩:=x
   exact⟨ho _ d,z,ne,k _ _ (.inl rfl) e,mA,⟨od,es,ep,k _ _ (.inr d) e2,c⟩,r⟩
 | own y=>obtain⟨ob,e⟩:=x;exact⟨ob,k _ _ (.inl rfl) e⟩
 | xd fs=>obtain⟨mA,⟨od,es,ep,e,c⟩,r⟩:=x;exact⟨mA,⟨od,es,ep,k _ _ (.inl rfl) e,c⟩,r⟩
 | Ae lo hi=>obtain⟨t,u,v,e⟩:=x;exact⟨t,u,v,k _ _ (.inl rfl) e⟩
 | gX ob u ih=>obtain⟨e,q⟩:=x;exact⟨k _ _ (.inl rfl) e,ih q⟩
 | qW ps =>
   have e:h.get? a=some { cls:=.none,data:=.fields ps }:=x
   show h'.get? a=some { cls:=.none,data:=.fields ps }
   exact k a _ (.inl rfl) e
 | met f y =>
   have e:h.get? a=some (R5 (.ref f) (.ref y)):=x
   show h'.get? a=some (R5 (.ref f) (.ref y))
   exact k a _ (.inl rfl) e
 | ext φ=>obtain⟨p,⟨o,e⟩,st⟩:=x;exact⟨st _ _ p λo q=>k _ _ (.inl rfl) q,⟨o,k _ _ (.inl rfl) e⟩,st⟩
def eB.lt(x:eB P w H h)(e:H a=some o):a<h.objs.size:=(x a o e).lt
def eB.fresh(x:eB P w H h)(e:h.objs.size<=a):H a=none:=by
 cases q:H a with
 | none=>rfl
 | some u=>exact absurd (dc (x.lt q) e) (mB _)
def eB.kept(x:eB P w H h)(k:∀b u,h.get? b=some u->h'.get? b=some u):eB P w H h':=λa o e =>
 (x a o e).lH (λb u _ q=>k b u q) (λ_ q=>q) λ_ _ q=>q
def eB.laid(x:eB P w H h)(k:∀b u,h.get? b=some u->h'.get? b=some u)(hp:h.objs.size<=a)(new:jo P w (upd H a o) h' a o):eB P w (upd H a o) h':=λb u e=>by
 have hn:=x.fresh hp
 by_cases hb:b=a
 ·subst hb;rw[dj] at e;cases e;exact new
 ·rw[bM hb] at e
  exact(x b u e).lH (λc v _ q=>k c v q) (λc q=>by rw[bM (ib q hn)];exact q) λc xs q=>by rw[bM (ib q hn)];exact q
end
def Rd(H:Hp)(a:Addr)(u:HO):Prop:=H a=some u∨∃o,H a=some (.gX o u)
def Rd.ok{P:aS}{w:aR}{H:Hp}{h:Heap}{a:Addr}{u:HO}(r:Rd H a u)(x:eB P w H h):jo P w H h a u:=by
 rcases r with r | ⟨o,r⟩
 ·exact x a u r
 ·obtain⟨_,q⟩:=x a _ r
  exact q
def Af:Option HO->Prop
 | some (.lst _)=>True
 | some (.dK _)=>True
 | some (.dT _)=>True
 | some (.set _ _)=>True
 | some (.ins _ _ _)=>True
 | some (.ext _)=>True
 | _=>False
section
variable {P:aS}{w:aR}{H:Hp}{h h':Heap}{x e:Addr}{o':HO}
def eB.write(ok:eB P w H h)(mu:Af (H x))(he:e=x∨H e=some (.own x))(k:∀b u,b≠e->h.get? b=some u->h'.get? b=some u)(uM:∃u,h'.get? e=some u)
 (new:jo P w (upd H x o') h' x o'):eB P w (upd H x o') h':=λb u q=>by
 have K9:∀c y,H c=some (.own y)->c≠x:=λc y r z=>by subst z;rw[r] at mu;exact mu
 have T7:∀c xs,H c=some (.tup xs)->c≠x:=λc xs r z=>by subst z;rw[r] at mu;exact mu
 by_cases hb:b=x
 ·subst hb;rw[dj] at q;cases q;exact new
 ·rw[bM hb] at q
  by_cases sL:b=e
  ·have q':H b=some (.own x):=by
    rcases he with z | z
    ·exact absurd (sL.trans z) hb
    ·rw[sL];exact z
   rw[q] at q';cases q'
   obtain⟨v,hv⟩:=uM
   exact⟨v,by rw[sL];exact hv⟩
  ·refine(ok b u q).lH (λc v hc r=>k c v ?_ r) (λc r=>by rw[bM (K9 c b r)];exact r) λc xs r=>by rw[bM (T7 c xs r)];exact r
   rcases hc with rfl | hc
   ·exact sL
   ·rintro rfl
    rcases he with z | z
    ·exact K9 c b hc z
    ·rw[hc] at z;cases z;exact hb rfl
end
structure Un (fs ex:List Addr) (H H':Hp) (h h':Heap):Prop where
 keep:∀b o,h.get? b=some o->H b=none->b ∉ fs->b ∉ ex->h'.get? b=some o
 slot:∀b o,h.get? b=some o->H b=none->b∈fs->b ∉ ex->∃sl,h'.get? b=some { o with slots:=sl }
 free:∀b o,h.get? b=some o->H b=none->b ∉ ex->H' b=none
 there:∀b o,h.get? b=some o->b ∉ ex->∃o',h'.get? b=some o'
 kM:∀b xs,H b=some (.tup xs)->H' b=some (.tup xs)
 kj:∀b o u,H b=some (.gX o u)->H' b=some (.gX o u)
 kN:∀b ps,H b=some (.qW ps)->∃more,H' b=some (.qW (ps++more))
section
variable {fs T8 ex ex':List Addr}{H H1 H2:Hp}{h h1 h2 h':Heap}{a x e:Addr}{o:HO}
def Un.any(u:Un fs ex H H1 h h1){b:Addr}{ob:Obj}(q:h.get? b=some ob)(n:H b=none)(hx:b ∉ ex):∃sl,h1.get? b=some { ob with slots:=sl }:=by
 by_cases hb:b∈fs
 ·exact u.slot b ob q n hb hx
 ·exact⟨ob.slots,u.keep b ob q n hb hx⟩
def Un.kept(k:∀b u,h.get? b=some u->h'.get? b=some u):Un fs ex H H h h' :=
 ⟨λb ob q _ _ _=>k b ob q,λb ob q _ _ _=>⟨ob.slots,k b ob q⟩,λ_ _ _ n _=>n,λb ob q _=>⟨ob,k b ob q⟩,λ_ _ q=>q,λ_ _ _ q=>q,λ_ ps q=>⟨#[],by rw[q];simp⟩⟩
def Un.refl:Un fs ex H H h h:=Un.kept λ_ _ q=>q
def Un.laid(k:∀b u,h.get? b=some u->h'.get? b=some u)(hp:h.objs.size<=a)(hn:H a=none):Un fs ex H (upd H a o) h h' where
 keep:=λb u q _ _ _=>k b u q
 slot:=λb u q _ _ _=>⟨u.slots,k b u q⟩
 free:=λb u q n _=>by rw[bM (dM (dc (bX q) hp))];exact n
 there:=λb u q _=>⟨u,k b u q⟩
 kM:=λb xs q=>by rw[bM (ib q hn)];exact q
 kj:=λb u xs q=>by rw[bM (ib q hn)];exact q
 kN:=λb ps q=>⟨#[],by rw[bM (ib q hn),q];simp⟩
def Un.write(mu:Af (H x))(he:e=x∨H e=some (.own x))(k:∀b u,b≠e->h.get? b=some u->h'.get? b=some u)(uM:∃u,h'.get? e=some u):Un fs ex H (upd H x o) h h':=by
 have hx:∀b,H b=none->b≠x:=λb n z=>by subst z;rw[n] at mu;exact mu
 have hb:∀b,H b=none->b≠e:=λb n z=>by
  subst z
  rcases he with r | r
  ·exact hx b n r
  ·rw[n] at r;cases r
 have hm:∀b u,H b=some u->¬Af (some u)->b≠x:=λb u q nm z=>by subst z;rw[q] at mu;exact nm mu
 refine⟨λb u q n _ _=>k b u (hb b n) q,λb u q n _ _=>⟨u.slots,k b u (hb b n) q⟩,λb u q n _=>by rw[bM (hx b n)];exact n,λb u q _=>?_,
  λb xs q=>by rw[bM (hm b _ q λz=>z)];exact q,λb u xs q=>by rw[bM (hm b _ q λz=>z)];exact q,λb ps q=>⟨#[],by rw[bM (hm b _ q λz=>z),q];simp⟩⟩
 by_cases sL:b=e
 ·subst sL;exact uM
 ·exact⟨u,k b u sL q⟩
end
def Ag(h:Heap)(H:Hp):List Addr:=(eW h.objs.size).filter λa=>(H a).isSome
def j0(h:Heap)(H:Hp):Heap:=PySem.W.hideAll h (Ag h H)
def T9(h:Heap)(H:Hp):(j0 h H).objs.size=h.objs.size:=PySem.W.hideAll_size _ _
def De{h:Heap}{H:Hp}{b:Addr}{o:Obj}(e:h.get? b=some o)(n:H b=none):(j0 h H).get? b=some o :=
 PySem.W.hideAll_get _ e λhm=>by
  have q:(H b).isSome=true:=(List.mem_filter.mp hm).2
  rw[n] at q;simp at q
def Df{h:Heap}{H:Hp}{b:Addr}{o:Obj}(e:(j0 h H).get? b=some o):h.get? b=some o/\H b=none:=by
 have e':h.get? b=some o:=PySem.W.of_hideAll (Ag h H) e
 refine⟨e',?_⟩
 cases q:H b with
 | none=>rfl
 | some x =>
   have hm:b∈Ag h H:=List.mem_filter.mpr ⟨List.mem_range.mpr (bX e'),by simp[q]⟩
   have z:(j0 h H).get? b=none:=PySem.W.hideAll_none (Ag h H) hm
   rw[z] at e;cases e
def T_(g h:Heap)(L:Addr):List (Addr×Obj):=(eW h.objs.size).filterMap λa=>if a=L∨(g.get? a).isSome=true then none else (h.get? a).map λo=>(a,o)
def rest(g h:Heap)(L d:Addr):List (Addr×Obj):=(T_ g h L).filter λp=>decide (p.1≠d)
end L2
namespace L2
open PySem PySem.Spec PyProof.Rows
structure Mod (K:aE) (mg:Str->Option Value) (base:Heap):Prop where
 oW:K.In base
 glob:base.Ns dw mg
 blt:∃mb,base.Ns R6 mb/\∀x:Str,x≠"__name__"->mb x=lA x
 nolimit:base.NoLimit
structure Cx where
 prog:aS
 w:aR
 K:aE
 mg:Str->Option Value
 base:Heap
 A:Around
 N:List Str
 s₀:ah
 H₀:Hp
 env:Env
 outer:List Env
 stack:List Env
 ex:List Addr
 fn:Str->Bool
 calm:Bool
 pn:List (Addr×Obj)
 xe:Value->ah->Prop
def dA(l:List Env):List Addr:=l.filterMap (·.frame)
abbrev Cx.fs (X:Cx):List Addr:=dA X.outer
def lI(sc:dz)(x:Str):Prop:=sc.names.lookup x=some .local∨sc.names.lookup x=some .cell∨sc.names.lookup x=some .free
def Loc(sc:dz)(x:Str):Prop:=sc.names.lookup x=some .local∨sc.names.lookup x=some .cell
def Look(env:Env)(h:Heap)(m:Str->Option Value)(x:Str)(u:Value):Prop :=
 (env.kindOf x=some .local/\m x=some u)∨((env.kindOf x=some .cell∨env.kindOf x=some .free)/\∃c,env.cells.lookup x=some c/\h.IsCell c (some u))
structure Cx.Ok (X:Cx):Prop where
 mod:Mod X.K X.mg X.base
 kind:X.env.scope.kind = .function
 glob:X.env.globals=dw
 blt:X.env.builtins=R6
 above:X.s₀.heap.objs.size<=X.env.locals
 inj:∀x y c,X.env.cells.lookup x=some c->X.env.cells.lookup y=some c->x=y
 has:∀x,(X.env.kindOf x=some .cell∨X.env.kindOf x=some .free)->∃c,X.env.cells.lookup x=some c
 qX:∀x c,X.fn x=true->X.env.cells.lookup x=some c->X.s₀.heap.objs.size<=c
 hd:X.calm=true->X.A.handled=none
 frames:X.A.frames=some X.stack
 sM:X.stack=X.outer∨(X.stack=X.env::X.outer/\X.env.frame=some X.env.locals)
 xq:∀b∈X.ex,b≠X.env.locals/\∀x c,X.env.cells.lookup x=some c->c≠b
 bs:∀b o,X.base.get? b=some o->X.s₀.heap.get? b=some o/\X.H₀ b=none
 kl:X.base.objs.size<=X.s₀.heap.objs.size
 p4:∀b o,X.base.get? b=some o->b ∉ X.ex
 sN:∀b∈X.ex,b ∉ X.fs
 j4:X.s₀.heap.FunFrames X.base X.outer
 lJ:∀b∈X.fs,X.H₀ b=none
structure Inv (X:Cx) (pins:List (Addr×Obj)) (σ:List (Option V)) (H:Hp) (s:ah):Prop where
 ok:X.Ok
 os:s.os=X.s₀.os
 bare:nR s.gens
 base:Un X.fs X.ex X.H₀ H X.s₀.heap s.heap
 loc:∃m,s.heap.Ns X.env.locals m/\∀(i:Nat) (x:Str) (v:V),X.N[i]? = some x->σ[i]? = some (some v)->lI X.env.scope x->∃u,RelV v u/\Look X.env s.heap m x u
 cell:∀x c,X.env.cells.lookup x=some c->∃v,s.heap.IsCell c v
 free:H X.env.locals=none
 j5:∀x c,X.env.cells.lookup x=some c->H c=none
 pin:∀p∈X.pn++pins,s.heap.get? p.1=some p.2/\H p.1=none/\p.1≠X.env.locals/\p.1 ∉ X.fs/\∀v,p.2.data ≠ .cell v
 aN:eB X.prog X.w H s.heap
 len:σ.length=X.N.length
section
variable {X:Cx}{pins:List (Addr×Obj)}{σ:List (Option V)}{H H':Hp}{s:ah}{h':Heap}
def Cx.Ok.Ua(ok:X.Ok){b:Addr}{o:Obj}(e:X.base.get? b=some o):b ∉ X.fs:=λhb=>by
 have:=(ok.j4.mem hb).1
 rw[e] at this;cases this
def Inv.bs(I:Inv X pins σ H s):∀b o,X.base.get? b=some o->s.heap.get? b=some o/\H b=none:=λb o e =>
 ⟨I.base.keep b o (I.ok.bs b o e).1 (I.ok.bs b o e).2 (I.ok.Ua e) (I.ok.p4 b o e),I.base.free b o (I.ok.bs b o e).1 (I.ok.bs b o e).2 (I.ok.p4 b o e)⟩
def Inv.bk(I:Inv X pins σ H s):∀b o,X.base.get? b=some o->s.heap.get? b=some o:=λb o e=>(I.bs b o e).1
def Inv.mod(I:Inv X pins σ H s):Mod X.K X.mg X.base:=I.ok.mod
def Inv.gH(I:Inv X pins σ H s):X.K.In s.heap:=I.ok.mod.oW.keeps I.bk
def Inv.lt(I:Inv X pins σ H s):X.env.locals<s.heap.objs.size:=let ⟨_,hn,_⟩:=I.loc;hn.lt
def Inv.sz(I:Inv X pins σ H s):X.s₀.heap.objs.size<=s.heap.objs.size:=fG I.ok.above (JU I.lt)
def Inv.Ah(I:Inv X pins σ H s){a:Addr}(h:s.heap.objs.size<=a):a ∉ X.fs:=λhb=>by
 obtain⟨_,o,ho,_⟩:=I.ok.j4.mem hb
 exact absurd (dc (bX ho) (fG I.sz h)) (mB _)
def Inv.nW(I:Inv X pins σ H s):∀x c,X.env.cells.lookup x=some c->c≠X.env.locals:=λx c e z=>by
 obtain⟨v,o,ho,hd⟩:=I.cell x c e
 obtain⟨m,⟨o',es,ep,fv,p5,_⟩,_⟩:=I.loc
 rw[z,fv] at ho;cases ho;rw[p5] at hd;cases hd
def Inv.j4(I:Inv X pins σ H s):s.heap.FunFrames X.base X.outer:=by
 have all:∀(l:List Env),(∀b∈dA l,b∈X.fs)->X.s₀.heap.FunFrames X.base l->s.heap.FunFrames X.base l:=by
  intro l
  induction l with
  | nil=>intro _ _;trivial
  | cons env r ih =>
    intro hs hl
    obtain⟨hk,⟨L,o,hf,hn,ho,hd⟩,hr⟩:=hl
    have hL:L∈X.fs:=hs L (by unfold dA;rw[CG,hf];exact gj)
    obtain⟨sl,e⟩:=I.base.slot L o ho (I.ok.lJ L hL) hL λz=>I.ok.sN L z hL
    exact⟨hk,⟨L,_,hf,hn,e,hd⟩,ih (λb hb=>hs b (by unfold dA;rw[CG,hf];exact ft _ hb)) hr⟩
 exact all X.outer (λ_ hb=>hb) I.ok.j4
def Inv.stack(I:Inv X pins σ H s):s.heap.FunFrames X.base X.stack:=by
 rcases I.ok.sM with e | ⟨e,hf⟩
 ·rw[e];exact I.j4
 ·rw[e]
  obtain⟨m,hn,_⟩:=I.loc
  refine .cons (by rw[I.ok.kind];decide) hf hn ?_ I.j4
  exact wF (fG I.ok.kl I.ok.above)
def Inv.oX(I:Inv X pins σ H s):∀b∈dA X.stack,b∈X.env.locals::X.fs:=λb hb=>by
 rcases I.ok.sM with e | ⟨e,hf⟩
 ·rw[e] at hb;exact ft _ hb
 ·rw[e] at hb
  unfold dA at hb
  rw[CG,hf] at hb
  exact hb
def Inv.Ai(I:Inv X pins σ H s):∀b∈dA X.stack,H b=none:=λb hb=>by
 rcases List.mem_cons.mp (I.oX b hb) with e | hb
 ·rw[e];exact I.free
 ·obtain⟨_,o,ho,_⟩:=I.ok.j4.mem hb
  exact I.base.free b o ho (I.ok.lJ b hb) λz=>I.ok.sN b z hb
def Inv.step{g':Array zE}{t':Nat}{d':Drawn}{ch:List Addr}(I:Inv X pins σ H s)
 (i5:∀b∈ch,(b∈X.ex∨X.s₀.heap.get? b=none)/\b≠X.env.locals/\(∀x c,X.env.cells.lookup x=some c->c≠b)/\∀p∈X.pn++pins,p.1≠b)
 (keep:∀b o,b≠X.env.locals->b ∉ X.fs->b ∉ ch->s.heap.get? b=some o->H b=none->h'.get? b=some o)
 (slot:∀b o,b≠X.env.locals->b∈X.fs->b ∉ ch->s.heap.get? b=some o->H b=none->∃sl,h'.get? b=some { o with slots:=sl }) (free:∀b o,b ∉ ch->s.heap.get? b=some o->H b=none->H' b=none)
 (there:∀b o,b ∉ ch->s.heap.get? b=some o->∃o',h'.get? b=some o')
 (kM:∀b xs,H b=some (.tup xs)->H' b=some (.tup xs)) (kj:∀b o u,H b=some (.gX o u)->H' b=some (.gX o u)) (kN:∀b ps,H b=some (.qW ps)->∃more,H' b=some (.qW (ps++more)))
 (ns:∀m,s.heap.Ns X.env.locals m->h'.Ns X.env.locals m) (aN:eB X.prog X.w H' h') (hg:nR g') :
 Inv X pins σ H' { s with heap:=h',gens:=g',drawn:=d',toks:=t' }:=by
 have K_:∀b o,X.s₀.heap.get? b=some o->b≠X.env.locals:=λb o e=>dM (dc (bX e) I.ok.above)
 have Aj:∀b o,X.s₀.heap.get? b=some o->b ∉ X.ex->b ∉ ch:=λb o e hx hb=>by
  rcases(i5 b hb).1 with z | z
  ·exact hx z
  ·rw[e] at z;cases z
 have cellK:∀x c,X.env.cells.lookup x=some c->∀v,s.heap.IsCell c v->h'.IsCell c v:=λx c e v ⟨o,ho,hd⟩=>by
  have xr:c ∉ ch:=λz=>(i5 c z).2.2.1 x c e rfl
  by_cases hc:c∈X.fs
  ·obtain⟨sl,q⟩:=slot c o (I.nW x c e) hc xr ho (I.j5 x c e)
   exact⟨_,q,hd⟩
  ·exact⟨o,keep c o (I.nW x c e) hc xr ho (I.j5 x c e),hd⟩
 refine⟨I.ok,I.os,hg,⟨λb o e n hb hx=>?_,λb o e n hb hx=>?_,λb o e n hx=>?_,λb o e hx=>?_,λb xs e=>kM b xs (I.base.kM b xs e),λb o xs e=>kj b o xs (I.base.kj b o xs e),λb ps e=>?_⟩,?_,λx c e=>?_,?_,λx c e=>?_,λp hp=>?_,aN,I.len⟩
 ·exact keep b o (K_ b o e) hb (Aj b o e hx) (I.base.keep b o e n hb hx) (I.base.free b o e n hx)
 ·obtain⟨sl,e1⟩:=I.base.slot b o e n hb hx
  obtain⟨qY,e2⟩:=slot b _ (K_ b o e) hb (Aj b o e hx) e1 (I.base.free b o e n hx)
  exact⟨qY,e2⟩
 ·obtain⟨o',e1⟩:=I.base.there b o e hx
  exact free b o' (Aj b o e hx) e1 (I.base.free b o e n hx)
 ·obtain⟨o',e1⟩:=I.base.there b o e hx
  exact there b o' (Aj b o e hx) e1
 ·obtain⟨m1,e1⟩:=I.base.kN b ps e
  obtain⟨m2,e2⟩:=kN b _ e1
  exact⟨m1++m2,by rw[e2,Array.append_assoc]⟩
 ·obtain⟨m,hn,hl⟩:=I.loc
  refine⟨m,ns m hn,λi x v e1 e2 e3=>?_⟩
  obtain⟨u,r,l⟩:=hl i x v e1 e2 e3
  refine⟨u,r,?_⟩
  rcases l with l | ⟨k,c,e,z⟩
  ·exact .inl l
  ·exact .inr ⟨k,c,e,cellK x c e _ z⟩
 ·obtain⟨v,z⟩:=I.cell x c e
  exact⟨v,cellK x c e v z⟩
 ·obtain⟨m,⟨o,_,_,ho,_⟩,_⟩:=I.loc
  exact free _ o (λz=>(i5 _ z).2.1 rfl) ho I.free
 ·obtain⟨v,o,ho,hd⟩:=I.cell x c e
  exact free c o (λz=>(i5 c z).2.2.1 x c e rfl) ho (I.j5 x c e)
 ·obtain⟨e,n,ne,nf,d⟩:=I.pin p hp
  have xr:p.1 ∉ ch:=λz=>(i5 p.1 z).2.2.2 p hp rfl
  exact⟨keep p.1 p.2 ne nf xr e n,free p.1 p.2 xr e n,ne,nf,d⟩
def Inv.un{t':Nat}(I:Inv X pins σ H s)(u:Un X.fs [] H H' s.heap h')(aN:eB X.prog X.w H' h'):Inv X pins σ H' { s with heap:=h',toks:=t' }:=by
 obtain⟨m,⟨o,es,ep,ho,r⟩,_⟩:=id I.loc
 obtain⟨sl,hL⟩:=u.any ho I.free (by simp)
 exact I.step (g':=s.gens) (d':=s.drawn) (ch:=[]) (λ_ z=>nomatch z) (λb o _ hb _ e n=>u.keep b o e n hb (by simp)) (λb o _ hb _ e n=>u.slot b o e n hb (by simp)) (λb o _ e n=>u.free b o e n (by simp)) (λb o _ e=>u.there b o e (by simp)) u.kM u.kj u.kN (λm' hm=>by
  obtain⟨o',cT,Dg,fv,r'⟩:=hm
  rw[ho] at fv;cases fv
  exact⟨_,cT,Dg,hL,r'⟩) aN I.bare
def Inv.call{g':Array zE}{t':Nat}{d':Drawn}{ch:List Addr}(I:Inv X pins σ H s)(u:Un (dA X.stack) ch H H' s.heap h')(aN:eB X.prog X.w H' h')(hg:nR g')
 (i5:∀b∈ch,(b∈X.ex∨X.s₀.heap.get? b=none)/\b≠X.env.locals/\(∀x c,X.env.cells.lookup x=some c->c≠b)/\∀p∈X.pn++pins,p.1≠b) :
 Inv X pins σ H' { s with heap:=h',gens:=g',drawn:=d',toks:=t' }:=by
 obtain⟨m,⟨o,es,ep,ho,r⟩,_⟩:=id I.loc
 obtain⟨sl,hL⟩:=u.any ho I.free λz=>(i5 _ z).2.1 rfl
 exact I.step (ch:=ch) i5 (λb o hL hb hc e n=>u.keep b o e n (λz=>(List.mem_cons.mp (I.oX b z)).elim hL hb) hc) (λb o _ _ hc e n=>u.any e n hc) (λb o hc e n=>u.free b o e n hc) (λb o hc e=>u.there b o e hc) u.kM u.kj u.kN (λm' hm=>by
  obtain⟨o',cT,Dg,fv,r'⟩:=hm
  rw[ho] at fv;cases fv
  exact⟨_,cT,Dg,hL,r'⟩) aN hg
def Inv.turned{t':Nat}{it:Addr}(I:Inv X pins σ H s)(k:∀b o,b≠it->s.heap.get? b=some o->h'.get? b=some o)(hn:H it=none)(hL:it≠X.env.locals)
 (h1:it∈X.ex∨X.s₀.heap.objs.size<=it) (h2:∀x c,X.env.cells.lookup x=some c->c≠it) (h3:∀p∈X.pn++pins,p.1≠it):Inv X pins σ H { s with heap:=h',toks:=t' }:=by
 have qZ:∀b u,H b=some u->b≠it:=λb u e z=>by rw[z,hn] at e;cases e
 refine I.step (g':=s.gens) (d':=s.drawn) (ch:=[it]) (λb hb=>?_) (λb o _ _ hc e _=>k b o (λz=>hc (by simp[z])) e) (λb o _ _ hc e _=>⟨o.slots,k b o (λz=>hc (by simp[z])) e⟩) (λ_ _ _ _ n=>n)
  (λb o hc e=>⟨o,k b o (λz=>hc (by simp[z])) e⟩) (λ_ _ e=>e) (λ_ _ _ e=>e) (λb ps e=>⟨#[],by rw[e];simp⟩) (λm hm=>?_) (λb u e=>?_) I.bare
 ·have e:b=it:=by simpa using hb
  subst e
  exact⟨h1.imp_right λz=>wF z,hL,h2,h3⟩
 ·obtain⟨o,es,ep,ho,r⟩:=hm
  exact⟨o,es,ep,k _ o (eA hL) ho,r⟩
 ·refine(I.aN b u e).lH (λc v hc q=>k c v ?_ q) (λ_ q=>q) λ_ _ q=>q
  rcases hc with z | z
  ·rw[z];exact qZ b u e
  ·exact qZ c _ z
def Inv.tok(I:Inv X pins σ H s)(t:Nat):Inv X pins σ H { s with toks:=t }:=I.un (h':=s.heap) (t':=t) Un.refl I.aN
def Inv.kept{t':Nat}(I:Inv X pins σ H s)(k:∀b u,s.heap.get? b=some u->h'.get? b=some u):Inv X pins σ H { s with heap:=h',toks:=t' }:=I.un (Un.kept k) (I.aN.kept k)
def Inv.laid{a:Addr}{o:HO}{t':Nat}(I:Inv X pins σ H s)(k:∀b u,s.heap.get? b=some u->h'.get? b=some u)(hp:s.heap.objs.size<=a)(new:jo X.prog X.w (upd H a o) h' a o) :
 Inv X pins σ (upd H a o) { s with heap:=h',toks:=t' }:=I.un (Un.laid k hp (I.aN.fresh hp)) (I.aN.laid k hp new)
def Inv.write{x e:Addr}{o:HO}{t':Nat}(I:Inv X pins σ H s)(mu:Af (H x))(he:e=x∨H e=some (.own x))(k:∀b u,b≠e->s.heap.get? b=some u->h'.get? b=some u)(uM:∃u,h'.get? e=some u)
 (new:jo X.prog X.w (upd H x o) h' x o):Inv X pins σ (upd H x o) { s with heap:=h',toks:=t' }:=I.un (Un.write mu he k uM) (I.aN.write mu he k uM new)
def Inv.q_{rd:List (Addr×Obj)}(I:Inv X pins σ H s)(h:∀p∈rd,s.heap.get? p.1=some p.2/\H p.1=none/\p.1≠X.env.locals/\p.1 ∉ X.fs/\∀v,p.2.data ≠ .cell v):Inv X rd σ H s :=
 ⟨I.ok,I.os,I.bare,I.base,I.loc,I.cell,I.free,I.j5,λp hp=>(List.mem_append.mp hp).elim (λz=>I.pin p (kH _ z)) (h p),I.aN,I.len⟩
def Dh{N:List Str}(hN:N.Nodup){i j:Nat}{x:Str}(a:N[i]? = some x)(b:N[j]? = some x):i=j:=by
 obtain⟨h1,e1⟩:=List.getElem?_eq_some_iff.mp a
 obtain⟨h2,e2⟩:=List.getElem?_eq_some_iff.mp b
 exact(a3y hN).mp (e1.trans e2.symm)
def Di{M:oK}{A:Around}{E:Value->ah->Prop}{i:Nat}{x:Str}{v:V}{u:Value}{Q:Unit->ah->Prop}(I:Inv X pins σ H s)(hN:X.N.Nodup)(hi:X.N[i]? = some x)(hx:Loc X.env.scope x)(r:RelV v u)
 (h:∀s',Inv X pins (σ.set i (some v)) H s'->(∃a,su a s.heap s'.heap/\(a=X.env.locals∨X.env.cells.lookup x=some a))->Q () s') (hf:X.fn x=true∨X.env.scope.names.lookup x=some .local:=by first | exact .inl rfl | exact .inr rfl | assumption):au M A (storeName X.env x u) Q E s:=by
 obtain⟨m,hn,hl⟩:=id I.loc
 have Dj:(X.env.scope.kind == .class||(X.env.scope.kind == .module&&X.env.locals != X.env.globals))=false:=by rw[I.ok.kind];rfl
 have Ak:i<σ.length:=by rw[I.len];exact(List.getElem?_eq_some_iff.mp hi).1
 have nW:=I.nW
 have tracked:∀{a:Addr} {h':Heap},(∃o,s.heap.get? a=some o/\H a=none)->su a s.heap h'->eB X.prog X.w H h':=λ{a h'} ha hs b ob e=>by
  obtain⟨_,_,xt⟩:=ha
  refine(I.aN b ob e).lH (λc w' hc q=>(hs.2 c ?_).trans q) (λ_ q=>q) λ_ _ q=>q
  rintro rfl
  rcases hc with rfl | hc
  ·rw[xt] at e;cases e
  ·rw[xt] at hc;cases hc
 rcases hx with hk | hk
 ·refine wpAny_storeName_local hk hn (λh' gI hs=>?_) Dj
  obtain⟨oL,_,_,Ub,_⟩:=id hn
  refine h _ ⟨I.ok,I.os,I.bare,⟨λb o e n hb hx=>?_,λb o e n hb hx=>?_,I.base.free,λb o e hx=>?_,I.base.kM,I.base.kj,I.base.kN⟩,⟨_,gI,λj y v' e1 e2 e3=>?_⟩,λy c e=>?_,I.free,I.j5,λp hp=>?_,tracked ⟨oL,Ub,I.free⟩ hs,by simpa using I.len⟩ ⟨_,hs,.inl rfl⟩
  ·exact(hs.2 b (dM (dc (bX e) I.ok.above))).trans (I.base.keep b o e n hb hx)
  ·obtain⟨sl,e1⟩:=I.base.slot b o e n hb hx
   exact⟨sl,(hs.2 b (dM (dc (bX e) I.ok.above))).trans e1⟩
  ·obtain⟨o',e1⟩:=I.base.there b o e hx
   exact⟨o',(hs.2 b (dM (dc (bX e) I.ok.above))).trans e1⟩
  ·by_cases hj:j=i
   ·subst hj
    rw[hi] at e1;cases e1
    rw[iq Ak] at e2
    cases e2
    exact⟨u,r,.inl ⟨hk,by simp⟩⟩
   ·rw[eZ (eA hj)] at e2
    obtain⟨u',r',q⟩:=hl j y v' e1 e2 e3
    refine⟨u',r',?_⟩
    rcases q with ⟨k,e⟩ | ⟨k,c,e,z⟩
    ·refine .inl ⟨k,?_⟩
     have:y≠x:=λe=>hj (Dh hN e1 (e ▸ hi))
     simp[this,e]
    ·exact .inr ⟨k,c,e,z.sameBut hs (nW y c e)⟩
  ·obtain⟨w',z⟩:=I.cell y c e
   exact⟨w',z.sameBut hs (nW y c e)⟩
  ·obtain⟨e,n,ne,nf,d⟩:=I.pin p hp
   exact⟨(hs.2 p.1 ne).trans e,n,ne,nf,d⟩
 ·have Dk:X.fn x=true:=by
   rcases hf with z | z
   ·exact z
   ·rw[z] at hk;cases hk
  obtain⟨c,hc⟩:=I.ok.has x (.inl hk)
  obtain⟨w',z⟩:=I.cell x c hc
  refine wpAny_storeName_cell I.ok.kind hk hc z (λh' oY hs=>?_)
  obtain⟨oc,La,Uc⟩:=id z
  refine h { s with heap:=h' } ⟨I.ok,I.os,I.bare,⟨λb o e n hb hx=>?_,λb o e n hb hx=>?_,I.base.free,λb o e hx=>?_,I.base.kM,I.base.kj,I.base.kN⟩,⟨m,hn.sameBut hs (eA (nW x c hc)),λj y v' e1 e2 e3=>?_⟩,λy c' e=>?_,I.free,I.j5,λp hp=>?_,tracked ⟨oc,La,I.j5 x c hc⟩ hs,by simpa using I.len⟩ ⟨c,hs,.inr hc⟩
  ·exact(hs.2 b (dM (dc (bX e) (I.ok.qX x c Dk hc)))).trans (I.base.keep b o e n hb hx)
  ·obtain⟨sl,e1⟩:=I.base.slot b o e n hb hx
   exact⟨sl,(hs.2 b (dM (dc (bX e) (I.ok.qX x c Dk hc)))).trans e1⟩
  ·obtain⟨o',e1⟩:=I.base.there b o e hx
   exact⟨o',(hs.2 b (dM (dc (bX e) (I.ok.qX x c Dk hc)))).trans e1⟩
  ·by_cases hj:j=i
   ·subst hj
    rw[hi] at e1;cases e1
    rw[iq Ak] at e2
    cases e2
    exact⟨u,r,.inr ⟨.inl hk,c,hc,oY⟩⟩
   ·rw[eZ (eA hj)] at e2
    obtain⟨u',r',q⟩:=hl j y v' e1 e2 e3
    refine⟨u',r',?_⟩
    rcases q with q | ⟨k,c',e,z'⟩
    ·exact .inl q
    ·refine .inr ⟨k,c',e,z'.sameBut hs ?_⟩
     rintro rfl
     exact hj (Dh hN e1 (I.ok.inj _ _ _ e hc ▸ hi))
  ·by_cases uN:c'=c
   ·subst uN;exact⟨_,oY⟩
   ·obtain⟨w2,z2⟩:=I.cell y c' e
    exact⟨w2,z2.sameBut hs uN⟩
  ·obtain⟨e,n,ne,nf,d⟩:=I.pin p hp
   refine⟨(hs.2 p.1 ?_).trans e,n,ne,nf,d⟩
   intro q
   rw[q,La] at e
   have q':oc=p.2:=mD e
   exact d w' (by rw[<-q'];exact Uc)
def uO{M:oK}{A:Around}{E:Value->ah->Prop}{i:Nat}{x:Str}{v:V}{u:Value}{Q:Unit->ah->Prop}(I:Inv X pins σ H s)(hN:X.N.Nodup)(hi:X.N[i]? = some x)(hx:Loc X.env.scope x)(r:RelV v u)
 (h:∀s',Inv X pins (σ.set i (some v)) H s'->Q () s') (hf:X.fn x=true∨X.env.scope.names.lookup x=some .local:=by first | exact .inl rfl | exact .inr rfl | assumption):au M A (storeName X.env x u) Q E s :=
 Di I hN hi hx r (λs' I' _=>h s' I') hf
def Inv.Dl{s':ah}{ch:List Addr}(I:Inv X pins σ H s)(ho:s'.os=s.os)(u:Un (dA X.stack) ch H H' s.heap s'.heap)(aN:eB X.prog X.w H' s'.heap)(hg:nR s'.gens)
 (i5:∀b∈ch,(b∈X.ex∨X.s₀.heap.get? b=none)/\b≠X.env.locals/\(∀x c,X.env.cells.lookup x=some c->c≠b)/\∀p∈X.pn++pins,p.1≠b):Inv X pins σ H' s':=by
 obtain⟨h',g',d',t',o'⟩:=s'
 have e:o'=s.os:=ho
 subst e
 exact I.call (g':=g') (t':=t') (d':=d') u aN hg i5
end
abbrev XK:=Value->Option Addr->Hp->Prop
abbrev St:=List (Option V)
abbrev VK:=V->Hp->Prop
abbrev TE:=St->Hp->VK->Prop
abbrev TT:=St->Hp->(Bool->Hp->Prop)->Prop
abbrev TA:=St->Hp->(List V->Hp->Prop)->Prop
structure Ends where
 nx:St->Hp->Prop
 rt:VK
 bk:St->Hp->Prop:=λ_ _=>False
 ct:St->Hp->Prop:=λ_ _=>False
abbrev TS:=Ends->St->Hp->Prop
def EP(X:Cx)(pins:List (Addr×Obj))(σ:St)(Q:VK)(u:Value)(s':ah):Prop:=∃v H',Inv X pins σ H' s'/\RelV v u/\Q v H'
def TP(X:Cx)(pins:List (Addr×Obj))(σ:St)(Q:Bool->Hp->Prop)(b:Bool)(s':ah):Prop:=∃H',Inv X pins σ H' s'/\Q b H'
def AP(X:Cx)(pins:List (Addr×Obj))(σ:St)(Q:List V->Hp->Prop)(us:List Value)(s':ah):Prop:=∃vs H',Inv X pins σ H' s'/\Vals vs us/\Q vs H'
def SP(X:Cx)(pins:List (Addr×Obj))(D:Ends)(f:Flow)(s':ah):Prop :=
 match f with
 | .next=>∃aJ H',Inv X pins aJ H' s'/\D.nx aJ H'
 | .brk=>∃aJ H',Inv X pins aJ H' s'/\D.bk aJ H'
 | .cont=>∃aJ H',Inv X pins aJ H' s'/\D.ct aJ H'
 | .ret u=>∃v aJ H',Inv X pins aJ H' s'/\RelV v u/\D.rt v H'
def PE(X:Cx)(e:Expr)(t:TE):Prop :=
 ∀(pins:List (Addr×Obj)) (s:ah) (σ:St) (H:Hp) (Q:VK),Inv X pins σ H s->t σ H Q->au (aD X.prog X.w) X.A (eval e X.env) (EP X pins σ Q) X.xe s
def PT(X:Cx)(e:Expr)(t:TT):Prop :=
 ∀(pins:List (Addr×Obj)) (s:ah) (σ:St) (H:Hp) (Q:Bool->Hp->Prop),Inv X pins σ H s->t σ H Q->au (aD X.prog X.w) X.A (nS e X.env (eval e X.env)) (TP X pins σ Q) X.xe s
def PW(X:Cx)(e:Expr)(t:TT):Prop :=
 ∀(whole:Sem Value) (pins:List (Addr×Obj)) (s:ah) (σ:St) (H:Hp) (Q:Bool->Hp->Prop),Inv X pins σ H s->t σ H Q->au (aD X.prog X.w) X.A (nS e X.env whole) (TP X pins σ Q) X.xe s
def Ud(X:Cx)(st:List Stmt)(t:TS):Prop :=
 ∀(pins:List (Addr×Obj)) (s:ah) (σ:St) (H:Hp) (D:Ends),Inv X pins σ H s->t D σ H->au (aD X.prog X.w) X.A (sv st X.env) (SP X pins D) X.xe s
def ic{α:Type}{t:Sem α}{Q Q':α->ah->Prop}{M:oK}{A:Around}{E:Value->ah->Prop}{s:ah}(h:au M A t Q E s)(hQ:∀a s,Q a s->Q' a s):au M A t Q' E s:=az h hQ λ_ _ x=>x
end L2
namespace L2
open PySem PySem.Spec PyProof.Rows
section
variable {X:Cx}
def Lb(i:Nat):TE:=λσ H Q=>∃v,σ[i]? = some (some v)/\Q v H
def tC(v:V):TE:=λ_ H Q=>Q v H
def p6{i:Nat}{x:Str}{pos:Pos}(hN:X.N[i]? = some x)(hv:lI X.env.scope x)(hd:(x==("__debug__":Str))=false:=by decide)(dY:(x==("__classdict__":Str))=false:=by decide):PE X (.Name x pos) (Lb i):=by
 intro pins s σ H Q I h
 obtain⟨v,e,h⟩:=h
 obtain⟨m,hn,hl⟩:=I.loc
 obtain⟨u,r,l⟩:=hl i x v hN e hv
 have fin:EP X pins σ Q u s:=⟨v,H,I,r,h⟩
 rcases l with ⟨hk,hm⟩ | ⟨hk,c,hc,Lc⟩
 ·exact R7 (wpAny_loadName_local I.ok.kind hk hn hm fin) hd
 ·rcases hk with hk | hk
  ·exact R7 (wpAny_loadName_cell I.ok.kind hk hc Lc fin) hd
  ·exact R7 (wpAny_loadName_free I.ok.kind hk hc Lc fin dY) hd
def Ue{i j pos}:PE X (.Constant (.int i) j pos) (tC (.int i)):=λ_ _ _ H _ I h=>wpAny_Constant_int ⟨.int i,H,I.tok _,⟨_,rfl⟩,h⟩
def Ug{b j pos}:PE X (.Constant (.bool b) j pos) (tC (.bl b)):=λ_ _ _ H _ I h=>Constant_bool ⟨.bl b,H,I,rfl,h⟩
def Uh{x j pos}:PE X (.Constant (.str x) j pos) (tC (.str x)):=λ_ _ _ H _ I h=>R8 ⟨.str x,H,I.tok _,⟨_,rfl⟩,h⟩
def Gl(X:Cx)(x:Str):Prop:=X.env.kindOf x=some .globalImplicit
def nX{E:Value->ah->Prop}{pins:List (Addr×Obj)}{s:ah}{σ:St}{H:Hp}{x:Str}{u:Value}{pos:Pos}{Q:Value->ah->Prop}(I:Inv X pins σ H s)(hg:Gl X x)(hm:X.mg x=some u)(h:Q u s)
 (hd:(x==("__debug__":Str))=false:=by decide):au (aD X.prog X.w) X.A (eval (.Name x pos) X.env) Q E s :=
 a3z I.ok.kind hg (Calls.loadGlobal_global (by rw[I.ok.glob];exact I.mod.glob.keeps I.bk) hm h) hd
def iu{E:Value->ah->Prop}{pins:List (Addr×Obj)}{s:ah}{σ:St}{H:Hp}{x:Str}{u:Value}{pos:Pos}{Q:Value->ah->Prop}(I:Inv X pins σ H s)(hg:Gl X x)(hm:X.mg x=none)(hv:lA x=some u)(h:Q u s)
 (hn:x≠"__name__":=by decide) (hd:(x==("__debug__":Str))=false:=by decide):au (aD X.prog X.w) X.A (eval (.Name x pos) X.env) Q E s:=by
 obtain⟨mb,h1,h2⟩:=I.mod.blt
 exact a3z I.ok.kind hg (Calls.loadGlobal_builtin (by rw[I.ok.glob];exact I.mod.glob.keeps I.bk) hm (by rw[I.ok.blt];exact h1.keeps I.bk) ((h2 x hn).trans hv) h) hd
def Ui{x:Str}{v:V}{u:Value}{pos:Pos}(hg:Gl X x)(hm:X.mg x=some u)(r:RelV v u)(hd:(x==("__debug__":Str))=false:=by decide):PE X (.Name x pos) (tC v) :=
 λ_ _ _ H _ I h=>nX I hg hm ⟨v,H,I,r,h⟩ hd
variable {a b:Expr}{ta tb:TE}{pos:Pos}
variable {tA tB':TT}{rest:List Expr}
end
end L2
namespace L2
open PySem PySem.Spec PyProof.Rows
def cA(K:aE)(H:Hp)(a:Addr)(xs:List V):Prop :=
 Rd H a (.lst xs) ∨
  ∃(o:Obj) (its:Array Value) (n:Nat),K.lookup a=some o/\o.cls = .type "list"/\o.dict=none/\o.data = .seq its n/\its.size<=b5/\Vals xs its.toList
def cC(K:aE)(H:Hp)(a:Addr)(xs:List V):Prop :=
 Rd H a (.tup xs) ∨
  ∃(o:Obj) (its:Array Value) (n:Nat),K.lookup a=some o/\o.cls = .type "tuple"/\(o.data,o.dict)=(.seq its n,none)/\its.size<=b5/\Vals xs its.toList
def Uj:Value->Option V
 | .none=>some .cQ
 | .bool b=>some (.bl b)
 | .int i _=>some (.int i)
 | .str x _=>some (.str x)
 | .bytes b _=>some (.xo b)
 | .float b _=>some (.xp b)
 | .ref a=>some (.ref a)
 | .type n=>some (.ty n)
 | _=>none
def RelV.abs{x:V}{u:Value}(r:RelV x u):Uj u=some x:=by
 cases x with
 | cQ=>cases r;rfl
 | bl _=>cases r;rfl
 | int _=>obtain⟨t,rfl⟩:=r;rfl
 | str _=>obtain⟨t,rfl⟩:=r;rfl
 | xo _=>obtain⟨t,rfl⟩:=r;rfl
 | xp _=>obtain⟨t,rfl⟩:=r;rfl
 | ref _=>cases r;rfl
 | ty _=>cases r;rfl
def RelV.inj{x y:V}{u:Value}(r:RelV x u)(q:RelV y u):x=y:=mD (r.abs.symm.trans q.abs)
def Vals.inj:∀{xs ys:List V} {us:List Value},Vals xs us->Vals ys us->xs=ys
 | _,_,_,.nil,.nil=>rfl
 | _,_,_,.cons r t,.cons r' t'=>by rw[r.inj r',Vals.inj t t']
section
variable {X:Cx}{pins:List (Addr×Obj)}{σ:St}{H:Hp}{s:ah}{a:Addr}{xs ys:List V}
def cA.of{K:aE}(h:H a=some (.lst xs)):cA K H a xs:=.inl (.inl h)
def cC.of{K:aE}(h:H a=some (.tup xs)):cC K H a xs:=.inl (.inl h)
def Inv.list(I:Inv X pins σ H s)(h:cA X.K H a xs):∃its:List Value,Vals xs its/\PlainL s.heap a its.toArray/\xs.length<=b5:=by
 rcases h with h | ⟨o,its,n,hk,hc,hd,hs,hz,r⟩
 ·obtain⟨z,its,n,r,e⟩:=h.ok I.aN
  exact⟨its,r,⟨_,n,e,rfl,rfl,rfl⟩,z⟩
 ·refine⟨its.toList,r,⟨o,n,I.gH a o hk,hc,hd,by simpa using hs⟩,?_⟩
  have e:=r.length
  simp only[qM] at e
  lia
def Inv.Ld(I:Inv X pins σ H s)(h:cC X.K H a xs):∃its:List Value,Vals xs its/\mL s.heap a its.toArray/\xs.length<=b5:=by
 rcases h with h | ⟨o,its,n,hk,hc,hs,hz,r⟩
 ·obtain⟨z,its,r,p⟩:=h.ok I.aN
  exact⟨its,r,p,z⟩
 ·refine⟨its.toList,r,⟨o,I.gH a o hk,hc,n,by simpa using hs⟩,?_⟩
  have e:=r.length
  simp only[qM] at e
  lia
def Inv.tuple(I:Inv X pins σ H s)(h:cC X.K H a xs):∃its:List Value,Vals xs its/\sr s.heap a its.toArray/\xs.length<=b5:=by
 obtain⟨its,r,p,z⟩:=I.Ld h
 exact⟨its,r,p.tup,z⟩
def Inv.Le(I:Inv X pins σ H s)(h:cA X.K H a xs)(h':cA X.K H a ys):xs=ys:=by
 obtain⟨its,r,⟨o,n,e,_,_,d⟩,_⟩:=I.list h
 obtain⟨its',r',⟨o',n',e',_,_,d'⟩,_⟩:=I.list h'
 rw[e] at e';cases e'
 rw[d] at d'
 injection d' with d1 _
 have:its=its':=by simpa using congrArg Array.toList d1
 subst this
 exact r.inj r'
def Inv.Lf(I:Inv X pins σ H s)(h:cC X.K H a xs)(h':cC X.K H a ys):xs=ys:=by
 obtain⟨its,r,⟨o,e,_,n,d⟩,_⟩:=I.tuple h
 obtain⟨its',r',⟨o',e',_,n',d'⟩,_⟩:=I.tuple h'
 rw[e] at e';cases e'
 rw[d] at d'
 injection d' with d1 _
 have:its=its':=by simpa using congrArg Array.toList d1
 subst this
 exact r.inj r'
end
abbrev Cx.dB (X:Cx) (E:Value->ah->Prop):Cx:={ X with xe:=E }
abbrev Cx.bY (X:Cx):Cx:=X.dB λ_ _=>False
def Cx.Ok.dB{X:Cx}(ok:X.Ok)(E:Value->ah->Prop):(X.dB E).Ok :=
 ⟨ok.mod,ok.kind,ok.glob,ok.blt,ok.above,ok.inj,ok.has,ok.qX,ok.hd,ok.frames,ok.sM,ok.xq,ok.bs,ok.kl,ok.p4,ok.sN,ok.j4,ok.lJ⟩
def Cx.Ok.fw{X:Cx}{E:Value->ah->Prop}(ok:(X.dB E).Ok):X.Ok :=
 ⟨ok.mod,ok.kind,ok.glob,ok.blt,ok.above,ok.inj,ok.has,ok.qX,ok.hd,ok.frames,ok.sM,ok.xq,ok.bs,ok.kl,ok.p4,ok.sN,ok.j4,ok.lJ⟩
section
variable {X:Cx}{pins:List (Addr×Obj)}{σ:St}{H:Hp}{s:ah}{E:Value->ah->Prop}
def Inv.dB(I:Inv X pins σ H s)(E:Value->ah->Prop):Inv (X.dB E) pins σ H s:=⟨I.ok.dB E,I.os,I.bare,I.base,I.loc,I.cell,I.free,I.j5,I.pin,I.aN,I.len⟩
def Inv.fw(I:Inv (X.dB E) pins σ H s):Inv X pins σ H s:=⟨I.ok.fw,I.os,I.bare,I.base,I.loc,I.cell,I.free,I.j5,I.pin,I.aN,I.len⟩
end
section
variable {X:Cx}{st:Stmt}{rest:List Stmt}{t u:TS}{e:Expr}{te:TE}{pos:Pos}
def Inv.quiet{pins:List (Addr×Obj)}{σ:St}{H:Hp}{s:ah}(I:Inv X pins σ H s):interactive X.env=false:=by simp[interactive,I.ok.kind]
end
abbrev TG:=V->St->Hp->(St->Hp->Prop)->Prop
abbrev rf:=List V->St->Hp->(St->Hp->Prop)->Prop
def PG(X:Cx)(target:Expr)(t:TG):Prop :=
 ∀(pins:List (Addr×Obj)) (s:ah) (σ:St) (H:Hp) (v:V) (u:Value) (Q:St->Hp->Prop),Inv X pins σ H s->RelV v u->t v σ H Q ->
  au (aD X.prog X.w) X.A (kI target X.env u) (λ_ s'=>∃aJ H',Inv X pins aJ H' s'/\Q aJ H') X.xe s
def xu(X:Cx)(ts:List Expr)(t:rf):Prop :=
 ∀(pins:List (Addr×Obj)) (s:ah) (σ:St) (H:Hp) (vs:List V) (us:List Value) (Q:St->Hp->Prop),Inv X pins σ H s->Vals vs us->t vs σ H Q ->
  au (aD X.prog X.w) X.A (R9 ((nU ts X.env).map (·.2)) us) (λ_ s'=>∃aJ H',Inv X pins aJ H' s'/\Q aJ H') X.xe s
abbrev Uk:=V->V->V->Hp->(Hp->Prop)->Prop
def Ul(X:Cx)(t:Uk):Prop :=
 ∀(pins:List (Addr×Obj)) (s:ah) (σ:St) (H:Hp) (o i v:V) (ov iv u:Value) (Q:Hp->Prop),Inv X pins σ H s->RelV o ov->RelV i iv->RelV v u->t o i v H Q ->
  au (aD X.prog X.w) X.A (setItem ov iv u) (λ_ s'=>∃H',Inv X pins σ H' s'/\Q H') X.xe s
section
variable {X:Cx}{pos:Pos}
def xw(i:Nat):TG:=λv σ H Q=>Q (σ.set i (some v)) H
def uP{i:Nat}{x:Str}(hN:X.N.Nodup)(hi:X.N[i]? = some x)(hx:Loc X.env.scope x)(hf:X.fn x=true∨X.env.scope.names.lookup x=some .local:=by first | exact .inl rfl | exact .inr rfl | assumption):PG X (.Name x pos) (xw i):=by
 intro pins s σ H v u Q I r h
 exact R_ (uO I hN hi hx r (λs' I'=>⟨_,H,I',h⟩) hf)
def ao:rf:=λvs σ H Q=>vs=[]/\Q σ H
def ae(t:TG)(u:rf):rf:=λvs σ H Q=>∃v r,vs=v::r/\t v σ H λaJ H'=>u r aJ H' Q
def Lg:xu X [] ao:=by
 intro pins s σ H vs us Q I r h
 obtain⟨e,h⟩:=h
 subst e
 cases r
 exact assignInOrder_nil ⟨σ,H,I,h⟩
def Al{e:Expr}{es:List Expr}{t:TG}{u:rf}(h1:PG X e t)(h2:xu X es u)
 (hs:(nU (e::es) X.env).map (·.2)=kI e X.env::(nU es X.env).map (·.2):=by rfl):xu X (e::es) (ae t u):=by
 intro pins s σ H vs us Q I r h
 obtain⟨v,vr,e1,h⟩:=h
 subst e1
 cases r with
 | cons r rr =>
   rw[hs]
   refine assignInOrder_cons (ic (h1 pins s σ H _ _ _ I r h) λ_ s1 ⟨lK,H1,I1,q1⟩=>?_)
   exact h2 pins s1 lK H1 _ _ Q I1 rr q1
def d_(K:aE)(n:Nat)(t:rf):TG:=λv σ H Q=>∃a xs,v = .ref a/\cC K H a xs/\xs.length=n/\t xs σ H Q
def Um{es:List Expr}{k:Nat}{t:rf}{n:Nat}(hc:X.calm=true)(h:xu X es t)
 (hn:(nU es X.env).length=n:=by rfl) (lM:(nU es X.env).findIdx? (·.1)=none:=by rfl):PG X (.Tuple es k pos) (d_ X.K n t):=by
 intro pins s σ H v u Q I r hw
 obtain⟨a,xs,e1,hq,hl,hw⟩:=hw
 subst e1
 cases r
 obtain⟨its,rv,ht,hz⟩:=I.tuple hq
 refine a4a (I.ok.hd hc) ht (by simp[hn,<-hl,rv.length]) lM λh' hx=>?_
 have I1:Inv X pins σ H { s with heap:=h' }:=I.kept (t':=s.toks) λb o e=>hx b o (dM (bX e)) e
 exact h pins _ σ H xs _ Q I1 (by simpa using rv) hw
end
section
variable {X:Cx}{pos:Pos}
end
structure It where
 go:Nat->Hp->Prop
 uQ:Nat->Hp->V->Hp->Prop
 stop:Nat->Hp->Prop
def fU(X:Cx)(pins:List (Addr×Obj))(H:Hp)(b:Addr):Prop :=
 H b=none/\b≠X.env.locals/\b ∉ X.fs/\(b∈X.ex∨X.s₀.heap.objs.size<=b)/\(∀x c,X.env.cells.lookup x=some c->c≠b)/\∀p∈X.pn++pins,p.1≠b
def Inv.sO{X:Cx}{pins:List (Addr×Obj)}{σ:St}{H H':Hp}{s:ah}{b:Addr}(I:Inv X pins σ H s)(hb:s.heap.objs.size<=b)(hn:H' b=none):fU X pins H' b:=by
 refine⟨hn,nV (dc I.lt hb),I.Ah hb,.inr (fG I.sz hb),λx c e z=>?_,λp hp z=>?_⟩
 ·obtain⟨v,q⟩:=I.cell x c e
  exact absurd (dc q.lt (by rw[z];exact hb)) (mB _)
 ·exact absurd (dc (bX (I.pin p hp).1) (by rw[z];exact hb)) (mB _)
structure Turn (P:aS) (w:aR) (K:aE) (tg:Expr) (J:It) (fp:List Addr) (it:Addr) (tn:Nat->Heap->Prop):Prop where
 mem:it∈fp
 obj:∀i h,tn i h->∀b∈fp,∃o,h.get? b=some o/\∀v,o.data ≠ .cell v
 keep:∀i h h',tn i h->(∀b∈fp,∀o,h.get? b=some o->h'.get? b=some o)->tn i h'
 item:∀(X:Cx),X.prog=P->X.w=w->X.K=K->X.calm=true->∀(i:Nat) (pins:List (Addr×Obj)) (s:ah) (σ:St) (H:Hp) (E:Value->ah->Prop),Inv X pins σ H s->(∀b∈fp,fU X pins H b)->tn i s.heap->J.go i H ->
  au (aD P w) X.A (qN (.ref it)) (λr s1=>∃u,r=some u /\
   au (aD P w) X.A (JV tg (.ref it) u) (λ_ s2=>∃x H',Inv X pins σ H' s2/\RelV x u/\J.uQ i H x H'/\tn (i+1) s2.heap/\∀b∈fp,H' b=none) E s1) E s
 done:∀(X:Cx),X.prog=P->X.w=w->X.K=K->X.calm=true->∀(i:Nat) (pins:List (Addr×Obj)) (s:ah) (σ:St) (H:Hp) (E:Value->ah->Prop),Inv X pins σ H s->(∀b∈fp,fU X pins H b)->tn i s.heap->J.stop i H ->
  au (aD P w) X.A (qN (.ref it)) (λr s1=>r=none/\Inv X pins σ H s1) E s
 self:∀(A:Around) (i:Nat) (s:ah) (Q:Value->ah->Prop) (E:Value->ah->Prop),tn i s.heap->Q (.ref it) s->au (aD P w) A (qO (.ref it)) Q E s
abbrev TI:=St->Hp->(It->Hp->Prop)->Prop
def Dm(X:Cx)(pins:List (Addr×Obj))(σ:St)(tg:Expr)(R:It->Hp->Prop)(lN:Value)(s2:ah):Prop :=
 ∃(it:Addr) (fp:List Addr) (tn:Nat->Heap->Prop) (J:It) (H':Hp),lN = .ref it/\Inv X pins σ H' s2/\Turn X.prog X.w X.K tg J fp it tn/\tn 0 s2.heap/\(∀b∈fp,fU X pins H' b)/\R J H'
def PI(X:Cx)(tg iter:Expr)(wi:TI):Prop :=
 ∀(pins:List (Addr×Obj)) (s:ah) (σ:St) (H:Hp) (R:It->Hp->Prop),Inv X pins σ H s->wi σ H R ->
  au (aD X.prog X.w) X.A (eval iter X.env) (λv s1=>au (aD X.prog X.w) X.A (qO v) (Dm X pins σ tg R) X.xe s1) X.xe s
def uR{M:oK}{A:Around}{E:Value->ah->Prop}{s:ah}{tg:Expr}{it:Addr}{u:Value}{o:Obj}{n:String}{vs:Array Value}{Q:Unit->ah->Prop}(ho:s.heap.get? it=some o)(hc:o.cls = .type n)(hd:o.data = .fields vs)
 (hn:["enumerate","zip","dict_itemiterator","dict_reverseitemiterator","odict_iterator","itertools.zip_longest","itertools.pairwise"].contains n=false) (hQ:Q () s):au M A (JV tg (.ref it) u) Q E s:=by
 unfold JV
 cases tg<;>first
  | exact bR hQ
  | (cases u<;>first
      | exact bR hQ
      | (refine aI (wpAny_load ho ?_)
         rw[hc,hd]
         show au M A (if (["enumerate","zip","dict_itemiterator","dict_reverseitemiterator","odict_iterator","itertools.zip_longest","itertools.pairwise"].contains n&&vs[0]? == some (lB _))=true then _ else _) Q E s
         rw[if_neg (by intro h;rw[hn,Bool.false_and] at h;cases h)]
         exact bR hQ))
def Am(K:aE)(a:Addr):It :=
 ⟨λi H=>∃xs x,cA K H a xs/\xs[i]? = some x,λi H x H'=>H'=H/\∀xs,cA K H a xs->xs[i]? = some x,λi H=>∃xs,cA K H a xs/\xs.length<=i⟩
def Dn(K:aE)(a:Addr):It :=
 ⟨λi H=>∃xs x,cC K H a xs/\xs[i]? = some x,λi H x H'=>H'=H/\∀xs,cC K H a xs->xs[i]? = some x,λi H=>∃xs,cC K H a xs/\xs.length<=i⟩
def rg(lo:Int)(n:Nat):It:=⟨λi _=>i<n,λi H x H'=>H'=H/\x = .int (lo+i),λi _=>n<=i⟩
def Uo{P:aS}{w:aR}{K:aE}{tg:Expr}(a it:Addr):Turn P w K tg (Am K a) [it] it (λi h=>h.IsListIter it a i) where
 mem:=by simp
 obj:=λi h st b hb=>by
  have e:b=it:=by simpa using hb
  subst e
  obtain⟨o,e,c,d⟩:=st
  exact⟨o,e,λv z=>by rw[d] at z;cases z⟩
 keep:=λi h h' st k=>st.at λo e=>k it (by simp) o e
 item:=by
  intro X hP hw hK hc i pins s σ H E I hf st hg
  subst hP hw hK
  obtain⟨xs,x,hq,hx⟩:=hg
  obtain⟨its,rv,p,hz⟩:=I.list hq
  obtain⟨u,hu,ru⟩:=rv.get hx
  obtain⟨f0,f1,f2,f3,f4,f5⟩:=hf it (by simp)
  refine a4b st p.isList (x:=u) (by simpa using hu) λh' iL sb=>?_
  have I1:Inv X pins σ H { s with heap:=h' }:=I.turned (t':=s.toks) (λb o hb e=>(sb.2 b hb).trans e) f0 f1 f3 f4 f5
  obtain⟨o,e,c,d⟩:=id iL
  exact⟨u,rfl,uR (s:={ s with heap:=h' }) e c d (by decide) ⟨x,H,I1,ru,⟨rfl,λys hy=>by rw[I.Le hy hq];exact hx⟩,iL,λb hb=>(hf b hb).1⟩⟩
 done:=by
  intro X hP hw hK hc i pins s σ H E I hf st hg
  subst hP hw hK
  obtain⟨xs,hq,hx⟩:=hg
  obtain⟨its,rv,p,hz⟩:=I.list hq
  obtain⟨f0,f1,f2,f3,f4,f5⟩:=hf it (by simp)
  have hl:=rv.length
  exact a4c (I.ok.hd hc) st p.isList (by simp;lia) λh' eb=>⟨rfl,I.turned (t':=s.toks) (λb o hb e=>eb b o hb e) f0 f1 f3 f4 f5⟩
 self:=λ_ _ _ _ _ st h=>wpAny_pyIter_listiter st h
def Up{P:aS}{w:aR}{K:aE}{tg:Expr}(a it:Addr):Turn P w K tg (Dn K a) [it] it (λi h=>h.IsTupleIter it a i) where
 mem:=by simp
 obj:=λi h st b hb=>by
  have e:b=it:=by simpa using hb
  subst e
  obtain⟨o,e,c,d⟩:=st
  exact⟨o,e,λv z=>by rw[d] at z;cases z⟩
 keep:=λi h h' st k=>st.at λo e=>k it (by simp) o e
 item:=by
  intro X hP hw hK hc i pins s σ H E I hf st hg
  subst hP hw hK
  obtain⟨xs,x,hq,hx⟩:=hg
  obtain⟨its,rv,p,hz⟩:=I.tuple hq
  obtain⟨u,hu,ru⟩:=rv.get hx
  obtain⟨f0,f1,f2,f3,f4,f5⟩:=hf it (by simp)
  refine wpAny_pyNext_tuple_item st (show s.heap.IsTuple a its.toArray from p) (x:=u) (by simpa using hu) λh' iL sb=>?_
  have I1:Inv X pins σ H { s with heap:=h' }:=I.turned (t':=s.toks) (λb o hb e=>(sb.2 b hb).trans e) f0 f1 f3 f4 f5
  obtain⟨o,e,c,d⟩:=id iL
  exact⟨u,rfl,uR (s:={ s with heap:=h' }) e c d (by decide) ⟨x,H,I1,ru,⟨rfl,λys hy=>by rw[I.Lf hy hq];exact hx⟩,iL,λb hb=>(hf b hb).1⟩⟩
 done:=by
  intro X hP hw hK hc i pins s σ H E I hf st hg
  subst hP hw hK
  obtain⟨xs,hq,hx⟩:=hg
  obtain⟨its,rv,p,hz⟩:=I.tuple hq
  obtain⟨f0,f1,f2,f3,f4,f5⟩:=hf it (by simp)
  have hl:=rv.length
  exact wpAny_pyNext_tuple_end (I.ok.hd hc) st (show s.heap.IsTuple a its.toArray from p) (by simp;lia) λh' eb=>⟨rfl,I.turned (t':=s.toks) (λb o hb e=>eb b o hb e) f0 f1 f3 f4 f5⟩
 self:=λ_ _ _ _ _ st h=>wpAny_pyIter_tupleiter st h
def Uq{P:aS}{w:aR}{K:aE}{tg:Expr}(it:Addr)(lo:Int)(n:Nat):Turn P w K tg (rg lo n) [it] it (λi h=>JW h it (lo+(i:Nat)*1) ((n:Int)-(i:Nat)) 1) where
 mem:=by simp
 obj:=λi h st b hb=>by
  have e:b=it:=by simpa using hb
  subst e
  exact⟨_,st,λv z=>by
   have z':Sa _=Sb v:=z
   cases z'⟩
 keep:=λi h h' st k=>k it (by simp) _ st
 item:=by
  intro X hP hw hK hc i pins s σ H E I hf st hg
  subst hP hw hK
  obtain⟨f0,f1,f2,f3,f4,f5⟩:=hf it (by simp)
  have W:=Walks.range (prog:=X.prog) (w:=X.w) (I.ok.hd hc) it lo 1 n
  refine W.item i s _ _ hg st λv h' tk hv iL kk=>?_
  obtain⟨t,rfl⟩:=hv
  have I1:Inv X pins σ H { s with heap:=h',toks:=tk }:=I.turned (λb o hb e=>kk b o (by simpa using hb) e) f0 f1 f3 f4 f5
  refine⟨_,rfl,uR (s:={ s with heap:=h',toks:=tk }) (n:="range_iterator") iL rfl rfl (by decide) ⟨.int (lo+i),H,I1,⟨t,?_⟩,⟨rfl,rfl⟩,iL,λb hb=>(hf b hb).1⟩⟩
  rw[Int.mul_one]
 done:=by
  intro X hP hw hK hc i pins s σ H E I hf st hg
  subst hP hw hK
  obtain⟨f0,f1,f2,f3,f4,f5⟩:=hf it (by simp)
  exact a4d (I.ok.hd hc) st (by have:n<=i:=hg;lia) λh' eb=>⟨rfl,I.turned (t':=s.toks) (λb o hb e=>eb b o hb e) f0 f1 f3 f4 f5⟩
 self:=λ_ _ _ _ _ st h=>a4e st h
end L2
namespace L2
open PySem PySem.Spec PyProof.Rows
section
variable {X:Cx}{tg:Expr}
def Dp{pins:List (Addr×Obj)}{σ:St}{H:Hp}{s:ah}{R:It->Hp->Prop}{E:Value->ah->Prop}{lo hi:Int}{t u v:Tok}{tk:Nat}(I:Inv X pins σ H s)(h1:-(2^62)<=lo)(h2:lo<2^62)(h3:-(2^62)<=hi)(h4:hi<2^62)
 (q:R (rg lo (hi-lo).toNat) H):au (aD X.prog X.w) X.A (qO (.ref s.heap.objs.size)) (Dm X pins σ tg R) E { s with heap:=s.heap.push { cls:=.type "range",data:=.fields #[.int lo t,.int hi u,.int 1 v] },toks:=tk }:=by
 refine a4f (IsRange.new ..) (small_one h1 h2 h3 h4) ?_
 have I1:Inv X pins σ H { s with heap:=s.heap.push { cls:=.type "range",data:=.fields #[.int lo t,.int hi u,.int 1 v] },toks:=tk }:=I.kept λb o e=>dE _ e
 refine⟨(s.heap.push { cls:=.type "range",data:=.fields #[.int lo t,.int hi u,.int 1 v] }).objs.size,[(s.heap.push { cls:=.type "range",data:=.fields #[.int lo t,.int hi u,.int 1 v] }).objs.size],_,_,H,rfl,
  I1.kept (t':=tk) λb o e=>dE _ e,Uq _ lo (hi-lo).toNat,?_,λb hb=>?_,q⟩
 ·have e1:lo+((0:Nat):Int)*1=lo:=by simp
  have e2:(((hi-lo).toNat:Nat):Int)-((0:Nat):Int)=zF lo hi 1:=by rw[rangeSize_one];split<;>lia
  show JW _ _ (lo+((0:Nat):Int)*1) ((((hi-lo).toNat:Nat):Int)-((0:Nat):Int)) 1
  rw[e1,e2]
  exact gf _ rfl
 ·have e:b=(s.heap.push { cls:=.type "range",data:=.fields #[.int lo t,.int hi u,.int 1 v] }).objs.size:=by simpa using hb
  subst e
  exact I1.sO (a9 _) (I1.aN.fresh (a9 _))
def uS(fp:List Addr)(h:Heap):List (Addr×Obj):=fp.filterMap λb=>(h.get? b).map λo=>(b,o)
def sP{fp:List Addr}{h:Heap}{b:Addr}{o:Obj}(hb:b∈fp)(e:h.get? b=some o):(b,o)∈uS fp h:=List.mem_filterMap.mpr ⟨b,hb,by rw[e];rfl⟩
def Ur{fp:List Addr}{h:Heap}{p:Addr×Obj}(hp:p∈uS fp h):p.1∈fp/\h.get? p.1=some p.2:=by
 obtain⟨b,hb,e⟩:=List.mem_filterMap.mp hp
 cases q:h.get? b with
 | none=>rw[q] at e;cases e
 | some o =>
   rw[q] at e
   have e':(b,o)=p:=mD e
   subst e'
   exact⟨hb,q⟩
def Inv.pinned{pins:List (Addr×Obj)}{σ:St}{H:Hp}{s:ah}{fp:List Addr}(I:Inv X pins σ H s)(hf:∀b∈fp,fU X pins H b)(ho:∀b∈fp,∃o,s.heap.get? b=some o/\∀v,o.data ≠ .cell v):Inv X (pins++uS fp s.heap) σ H s :=
 I.q_ λp hp=>(List.mem_append.mp hp).elim (λz=>I.pin p (dW _ z)) λz=>by
  obtain⟨hb,e⟩:=Ur z
  obtain⟨f0,f1,f2,_⟩:=hf p.1 hb
  obtain⟨o,e',d⟩:=ho p.1 hb
  rw[e] at e';cases e'
  exact⟨e,f0,f1,f2,d⟩
def Inv.rh{pins pl:List (Addr×Obj)}{σ:St}{H:Hp}{s:ah}(I:Inv X (pins++pl) σ H s):Inv X pins σ H s:=I.q_ λp hp=>I.pin p (dW _ (kH _ hp))
end
end L2
namespace L2
open PySem PySem.Spec PyProof.Rows
abbrev R2:=V->V->Hp->VK->Prop
def fH(X:Cx)(f:Value->Value->Sem Value)(r:R2):Prop :=
 ∀(pins:List (Addr×Obj)) (s:ah) (σ:St) (H:Hp) (x y:V) (v u:Value) (Q:VK),Inv X pins σ H s->RelV x v->RelV y u->r x y H Q ->
  au (aD X.prog X.w) X.A (f v u) (EP X pins σ Q) X.xe s
def i6(X:Cx)(f:Value)(r:List V->Hp->VK->Prop):Prop :=
 ∀(pins:List (Addr×Obj)) (s:ah) (σ:St) (H:Hp) (xs:List V) (us:List Value) (Q:VK),Inv X pins σ H s->Vals xs us->r xs H Q ->
  au (aD X.prog X.w) X.A (call f us) (EP X pins σ Q) X.xe s
def rI(C:Int->Int->Prop)(g:Int->Int->V):R2:=λx y H Q=>∃i j,x = .int i/\y = .int j/\C i j/\Q (g i j) H
def p8(g:Int->Int->V):R2:=λx y H Q=>∃i j,x = .int i/\y = .int j/\Q (g i j) H
section
variable {X:Cx}{a b c:Expr}{ta tb tc:TE}{pos:Pos}
def xy{f:Value->Value->Sem Value}{C:Int->Int->Prop}{g:Int->Int->Int}
 (rule:∀(i j:Int) (t u:Tok) (s:ah) (Q:Value->ah->Prop) (E:Value->ah->Prop),C i j->Q (.int (g i j) s.toks) { s with toks:=s.toks+1 }->au (aD X.prog X.w) X.A (f (.int i t) (.int j u)) Q E s) :
 fH X f (rI C λi j=>.int (g i j)):=by
 intro pins s σ H x y v u Q I rx ry h
 obtain⟨i,j,rfl,rfl,hc,q⟩:=h
 obtain⟨t,rfl⟩:=rx
 obtain⟨t',rfl⟩:=ry
 exact rule i j t t' s _ _ hc ⟨.int (g i j),H,I.tok _,⟨_,rfl⟩,q⟩
def Lh{f:Value->Value->Sem Value}{g:Int->Int->Int}
 (rule:∀(i j:Int) (t u:Tok) (s:ah) (Q:Value->ah->Prop) (E:Value->ah->Prop),Q (.int (g i j) s.toks) { s with toks:=s.toks+1 }->au (aD X.prog X.w) X.A (f (.int i t) (.int j u)) Q E s) :
 fH X f (p8 λi j=>.int (g i j)):=by
 intro pins s σ H x y v u Q I rx ry h
 obtain⟨i,j,rfl,rfl,q⟩:=h
 obtain⟨t,rfl⟩:=rx
 obtain⟨t',rfl⟩:=ry
 exact rule i j t t' s _ _ ⟨.int (g i j),H,I.tok _,⟨_,rfl⟩,q⟩
def An{f:Value->Value->Sem Value}{g:Int->Int->Bool}
 (rule:∀(i j:Int) (t u:Tok) (s:ah) (Q:Value->ah->Prop) (E:Value->ah->Prop),Q (.bool (g i j)) s->au (aD X.prog X.w) X.A (f (.int i t) (.int j u)) Q E s) :
 fH X f (p8 λi j=>.bl (g i j)):=by
 intro pins s σ H x y v u Q I rx ry h
 obtain⟨i,j,rfl,rfl,q⟩:=h
 obtain⟨t,rfl⟩:=rx
 obtain⟨t',rfl⟩:=ry
 exact rule i j t t' s _ _ ⟨.bl (g i j),H,I,rfl,q⟩
def Us(i j:Int):Prop:=0<j/\j<1073741824
def Ut(i j:Int):Prop:=0<=j/\j<=1000000/\i.natAbs<2^64
def Dq(i j:Int):Prop:=(-(2^64)<i/\i<2^64)∨(-(2^64)<j/\j<2^64)
def Dq.ok{i j:Int}(h:Dq i j):IntMulOk i j:=by
 rcases h with ⟨h1,h2⟩ | ⟨h1,h2⟩
 ·exact .of_left (intBits_le_64 h1 h2)
 ·exact .of_right (intBits_le_64 h1 h2)
def Uu:fH X (iI .Add) (p8 λi j=>.int (i+j)):=Lh λ_ _ _ _ _ _ _ q=>add_int q
def Uv:fH X (iI .Sub) (p8 λi j=>.int (i-j)):=Lh λ_ _ _ _ _ _ _ q=>sub_int q
def Uw:fH X (iI .Mult) (rI Dq λi j=>.int (i*j)):=xy λ_ _ _ _ _ _ _ hc q=>mul_int q hc.ok
def Ux:fH X (iI .FloorDiv) (rI Us λi j=>.int (i/j)):=xy λi j _ _ _ _ _ hc q=>by
 have h1:(0:Int)<j:=hc.1
 have h2:j<1073741824:=hc.2
 exact floordiv_int (by lia) (by rw[a4g i (by lia)];exact q) (.inl (a4h (by lia)))
def Uy:fH X (iI .Mod) (rI (λ_ j=>0<j) λi j=>.int (i%j)):=xy λi j _ _ _ _ _ hc q=>by
 have h1:(0:Int)<j:=hc
 exact mod_int' (by lia) (by rw[Int.fmod_eq_emod_of_nonneg i (by lia)];exact q)
def Uz:fH X (iI .Pow) (rI Ut λi j=>.int (i^j.toNat)):=xy λ_ _ _ _ _ _ _ hc q=>pow_int_small hc.1 hc.2.1 hc.2.2 q
end
section
variable {X:Cx}{a b c:Expr}{ta tb tc:TE}{pos:Pos}
def UA{pins:List (Addr×Obj)}{σ:St}{H:Hp}{s:ah}{Q:VK}{k k':Bool}(I:Inv X pins σ H s)(q:Q (.bl k) H)(e:k=k'):EP X pins σ Q (.bool k') s:=by
 subst e
 exact⟨.bl k,H,I,rfl,q⟩
def UB:fH X (iY .Lt) (p8 λi j=>.bl (decide (i<j))):=An λ_ _ _ _ _ _ _ q=>lt_int q
def UC:fH X (iY .LtE) (p8 λi j=>.bl (decide (i<=j))):=An λ_ _ _ _ _ _ _ q=>le_int q
def UD:fH X (iY .Gt) (p8 λi j=>.bl (decide (j<i))):=An λ_ _ _ _ _ _ _ q=>gt_int q
def UE:fH X (iY .GtE) (p8 λi j=>.bl (decide (j<=i))):=An λ_ _ _ _ _ _ _ q=>ge_int q
def UG:fH X (iY .In) (λx y H Q=>∃i j,x = .str i/\y = .str j/\Q (.bl (!(zG j i 0 j.length 1).isEmpty)) H):=by
 intro pins s σ H x y v u Q I rx ry h
 obtain⟨i,j,rfl,rfl,q⟩:=h
 obtain⟨t,rfl⟩:=rx
 obtain⟨t',rfl⟩:=ry
 exact in_str (UA I q rfl)
def fH.or{f:Value->Value->Sem Value}{r r':R2}(h:fH X f r)(h':fH X f r'):fH X f (λx y H Q=>r x y H Q∨r' x y H Q):=by
 intro pins s σ H x y v u Q I rx ry q
 rcases q with q | q
 ·exact h pins s σ H x y v u Q I rx ry q
 ·exact h' pins s σ H x y v u Q I rx ry q
def bN(b:Expr){op:JX}(h:op ≠ .In:=by decide)(h2:op ≠ .NotIn:=by decide):CH op b=false:=by
 have e1:(op==CmpOp.In)=false:=by cases op<;>first | rfl | exact absurd rfl h
 have e2:(op==CmpOp.NotIn)=false:=by cases op<;>first | rfl | exact absurd rfl h2
 cases b<;>simp[CH,e1,e2]
def uT:(b5:Nat)<2^63:=by rw[lD];decide
def UH:fH X (iI .Add) (λx y H Q=>∃i j,x = .str i/\y = .str j/\i.length+j.length<=b5/\Q (.str (i++j)) H):=by
 intro pins s σ H x y v u Q I rx ry h
 obtain⟨i,j,rfl,rfl,hz,q⟩:=h
 obtain⟨t,rfl⟩:=rx
 obtain⟨t',rfl⟩:=ry
 exact add_str (λt' tk=>⟨.str (i++j),H,I.tok _,⟨_,rfl⟩,q⟩) hz
def mM{x:V}{us:List Value}(r:Vals [x] us):∃u,us=[u]/\RelV x u:=by
 cases r with
 | cons r1 r2=>cases r2;exact⟨_,rfl,r1⟩
def Li{x y:V}{us:List Value}(r:Vals [x,y] us):∃u w',us=[u,w']/\RelV x u/\RelV y w':=by
 cases r with
 | cons r1 r2 =>
   cases r2 with
   | cons r3 r4=>cases r4;exact⟨_,_,rfl,r1,r3⟩
def UI(hc:X.calm=true):i6 X (.builtin "max") (λxs H Q=>∃i j,xs=[.int i,.int j]/\Q (.int (if j>i then j else i)) H):=by
 intro pins s σ H xs us Q I r h
 obtain⟨i,j,rfl,q⟩:=h
 obtain⟨u,w',rfl,⟨t,rfl⟩,⟨t',rfl⟩⟩:=Li r
 refine max_two_ints (I.ok.hd hc) λh' tk k=>⟨_,H,I.kept k,?_,q⟩
 by_cases hj:j>i
 ·rw[if_pos hj,if_pos hj];exact⟨_,rfl⟩
 ·rw[if_neg hj,if_neg hj];exact⟨_,rfl⟩
def UJ(hc:X.calm=true):i6 X (.builtin "min") (λxs H Q=>∃i j,xs=[.int i,.int j]/\Q (.int (if j<i then j else i)) H):=by
 intro pins s σ H xs us Q I r h
 obtain⟨i,j,rfl,q⟩:=h
 obtain⟨u,w',rfl,⟨t,rfl⟩,⟨t',rfl⟩⟩:=Li r
 refine min_two_ints (I.ok.hd hc) λh' tk k=>⟨_,H,I.kept k,?_,q⟩
 by_cases hj:j<i
 ·rw[if_pos hj,if_pos hj];exact⟨_,rfl⟩
 ·rw[if_neg hj,if_neg hj];exact⟨_,rfl⟩
def UK:i6 X (.type "int") (λxs H Q=>(∃i,xs=[.int i]/\Q (.int i) H)∨∃k,xs=[.bl k]/\Q (.int (if k then 1 else 0)) H):=by
 intro pins s σ H xs us Q I r h
 rcases h with ⟨i,rfl,q⟩ | ⟨k,rfl,q⟩
 ·obtain⟨u,rfl,t,rfl⟩:=mM r
  exact call_int_int ⟨.int i,H,I,⟨_,rfl⟩,q⟩
 ·obtain⟨u,rfl,r1⟩:=mM r
  cases r1
  exact call_int_bool ⟨.int (if k then 1 else 0),H,I.tok _,⟨_,rfl⟩,q⟩
def UM:i6 X (.type "str") (λxs H Q=>∃i,xs=[.int i]/\i.natAbs.log2<1920/\Q (.str (toString i)) H):=by
 intro pins s σ H xs us Q I r h
 obtain⟨i,rfl,hz,q⟩:=h
 obtain⟨u,rfl,t,rfl⟩:=mM r
 exact PySem.P.str_of_int hz ⟨.str _,H,I.tok _,⟨_,rfl⟩,q⟩
def UN(K:aE)(x:V)(H:Hp)(n:Nat):Prop :=
 match x with
 | .str y=>y.length<=b5/\n=y.length
 | .xo y=>y.size<=b5/\n=y.size
 | .ref p=>(∃xs,cA K H p xs/\n=xs.length)∨∃xs,cC K H p xs/\n=xs.length
 | _=>False
def UO:i6 X (.builtin "len") (λxs H Q=>∃x n,xs=[x]/\UN X.K x H n/\Q (.int n) H):=by
 intro pins s σ H xs us Q I r h
 obtain⟨x,n,rfl,e,q⟩:=h
 obtain⟨u,rfl,rx⟩:=mM r
 have hl:=uT
 have hs:b5=16777216:=lD
 cases x with
 | str y =>
   obtain⟨t,rfl⟩:=rx
   obtain⟨hy,e'⟩:y.length<=b5/\n=y.length:=e
   subst e'
   exact len_str (by lia) ⟨.int _,H,I.tok _,⟨_,rfl⟩,q⟩
 | xo y =>
   obtain⟨t,rfl⟩:=rx
   obtain⟨hy,e'⟩:y.size<=b5/\n=y.size:=e
   subst e'
   exact PySem.W.len_bytes (by lia) ⟨.int _,H,I.tok _,⟨_,rfl⟩,q⟩
 | ref p =>
   cases rx
   have e':(∃xs,cA X.K H p xs/\n=xs.length)∨∃xs,cC X.K H p xs/\n=xs.length:=e
   rcases e' with ⟨xs,hx,e'⟩ | ⟨xs,hx,e'⟩
   ·subst e'
    obtain⟨its,r',pl,hz⟩:=I.list hx
    have hlen:=r'.length
    exact a4i pl.isList (by simp only[de];lia) ⟨.int xs.length,H,I.tok _,⟨_,by simp only[de];rw[hlen]⟩,q⟩
   ·subst e'
    obtain⟨its,r',pl,hz⟩:=I.tuple hx
    have hlen:=r'.length
    exact Sd pl (by simp only[de];lia) ⟨.int xs.length,H,I.tok _,⟨_,by simp only[de];rw[hlen]⟩,q⟩
 | _=>exact(show False from e).elim
end
end L2
namespace L2
open PySem PySem.Spec PyProof.Rows
structure a7q (h:Heap) (x dx C:Addr) (mA:Str->Option Value):Prop where
 obj:h.get? x=some (a3x C dx)
 ns:h.Ns1 dx mA
 ne:dx≠x
section
variable {prog:aS}{w:aR}{A:Around}{E:Value->ah->Prop}{s:ah}{K:aE}{x dx C f:Addr}{mA:Str->Option Value}{name:Str}{v:Value}
end
section
variable {P:aS}{w:aR}{H H':Hp}{h h':Heap}{a C dx:Addr}{fs T8:List (Str×V)}
end
structure UP (K:aE) (C:Addr):Prop where
 pg:PySem.W.plainGet K C Str.empty=true
 hd:PySem.W.hasDictIn K C=true
 po:PySem.W.plainOver K C=true
 sa:uu K (.ref C) "__setattr__"=some (some (.builtin "object.__setattr__"))
structure Con (K:aE) (C:Addr) (f:Str) (v:V) (u:Value):Prop where
 at_:uu K (.ref C) f=some (some u)
 rel:RelV v u
 get:a4j K u "__get__"=some none
 cp:PySem.W.copiedNames.contains f=false
structure Meth (K:aE) (C:Addr) (m:Str) (f:Addr):Prop where
 at_:uu K (.ref C) m=some (some (.ref f))
 fn:PySem.W.isFn K (.ref f)=true
 kp:wG K (.ref f)=true
section
variable {X:Cx}{pins:List (Addr×Obj)}{σ:St}{H:Hp}{s:ah}{a C dx:Addr}{fs:List (Str×V)}{f:Str}{v:V}{A:Around}{E:Value->ah->Prop}
end
section
variable {X:Cx}{o e value:Expr}{f:Str}{pos pos' a7r:Pos}{ta tv:TE}
end
section
variable {X:Cx}{pins:List (Addr×Obj)}{σ:St}{H:Hp}{s:ah}{A:Around}{E:Value->ah->Prop}{Q:Value->ah->Prop}{c:Value}{b:Bool}
inductive nY (K:aE) (H:Hp):V->Value->Prop where
 | cQ:nY K H .cQ (.type "NoneType")
 | bl (x:Bool):nY K H (.bl x) (.type "bool")
 | int (i:Int):nY K H (.int i) (.type "int")
 | str (x:Str):nY K H (.str x) (.type "str")
 | xp (x:UInt64):nY K H (.xp x) (.type "float")
 | lst {a:Addr} {xs:List V} (e:H a=some (.lst xs)):nY K H (.ref a) (.type "list")
 | gX {a:Addr} {o:Obj} {xs:List V} (e:H a=some (.gX o (.lst xs))):nY K H (.ref a) (.type "list")
 | tup {a:Addr} {xs:List V} (e:H a=some (.tup xs)):nY K H (.ref a) (.type "tuple")
 | dK {a:Addr} {gW:List (Key×V)} (e:H a=some (.dK gW)):nY K H (.ref a) (.type "dict")
 | dT {a:Addr} {gW:List (List Key×V)} (e:H a=some (.dT gW)):nY K H (.ref a) (.type "dict")
 | ins {a C dx:Addr} {fs:List (Str×V)} (e:H a=some (.ins C dx fs)) (cl:UP K C) (ha:uu K (.ref C) "__class__"=some (some (.builtin "object.__class__")))
    (hn:a4j K (.builtin "object.__class__") "__get__"=some (some (.builtin "getset_descriptor.__get__"))) (htk:PySem.W.takesIn K (.builtin "object.__class__")=some true)
    (hm:uv K C (.type "object")=some true):nY K H (.ref a) (.ref C)
end
end L2
namespace L2
open PySem PySem.Spec PyProof.Rows
structure dO (k:Nat) (A:Around):Prop where
 hd:A.handled=none
 dp:A.depth+3*k+5<a4k
 un:A.units+16*k+200<iZ
def dO.mono{j k:Nat}{A:Around}(r:dO k A)(h:j<=k):dO j A:=⟨r.hd,by have:=r.dp;lia,by have:=r.un;lia⟩
def dO.deeper{k:Nat}{A:Around}(r:dO (k+1) A)(env:Env):dO k (A.deeper env) :=
 ⟨r.hd,by have:=r.dp;show A.depth+1+3*k+5<_;lia,by have:=r.un;show A.units+3+16*k+200<_;lia⟩
def dO.depth{k:Nat}{A:Around}(r:dO k A):A.depth<a4k:=by have:=r.dp;lia
def dO.units{k:Nat}{A:Around}(r:dO k A):A.units+64<iZ:=by have:=r.un;lia
section
variable {X:Cx}{e:Expr}{es:List Expr}{te:TE}{t:TA}{pos:Pos}
end
abbrev Sp:=List V->Hp->VK->XK->Prop
abbrev lO:=List Env->Hp->ah->XK->Value->ah->Prop
structure uU (P:aS) (w:aR) (K:aE) (mg:Str->Option Value) (base:Heap) (A:Around) (outer:List Env) (s:ah) (H:Hp):Prop where
 frames:A.frames=some outer
 mod:Mod K mg base
 bs:∀b o,base.get? b=some o->s.heap.get? b=some o/\H b=none
 kl:base.objs.size<=s.heap.objs.size
 j4:s.heap.FunFrames base outer
 lJ:∀b∈dA outer,H b=none
 aN:eB P w H s.heap
 bare:nR s.gens
def CE(outer:List Env)(P:aS)(w:aR)(H:Hp)(s:ah)(Q:VK)(u:Value)(s':ah):Prop :=
 ∃v H',s'.os=s.os/\nR s'.gens/\Un (dA outer) [] H H' s.heap s'.heap/\eB P w H' s'.heap/\RelV v u/\Q v H'
def CR(CX:lO)(outer:List Env)(P:aS)(w:aR)(H:Hp)(s:ah)(Q:VK)(E:XK)(r:mE)(s':ah):Prop :=
 match r with
 | .ok (.ret u)=>CE outer P w H s Q u s'
 | .ok _=>False
 | .error e=>CX outer H s E e s'
structure jH (P:aS) (w:aR) (K:aE) (mg:Str->Option Value) (base:Heap) (CX:lO) (k:Nat) (f:Addr) (fd:cB) (ps:List Str) (sp:Sp):Prop where
 len:∀vs H Q E,sp vs H Q E->vs.length=ps.length
 run:∀(A:Around) (outer:List Env) (s:ah) (H:Hp) (args:Args) (us:List Value) (vs:List V) (Q:VK) (E:XK),dO k A->uU P w K mg base A outer s H->BindsTo s fd args (ps.zip us)->Vals vs us->sp vs H Q E ->
  jl (aD P w) A (.call (.ref f) args) (CR CX outer P w H s Q E) s
def jH.mono{P:aS}{w:aR}{K:aE}{mg:Str->Option Value}{base:Heap}{CX:lO}{j k:Nat}{f:Addr}{fd:cB}{ps:List Str}{sp:Sp}(F:jH P w K mg base CX j f fd ps sp)(h:j<=k) :
 jH P w K mg base CX k f fd ps sp:=⟨F.len,λA outer s H args us vs Q E hr=>F.run A outer s H args us vs Q E (hr.mono h)⟩
def jH.imp{P:aS}{w:aR}{K:aE}{mg:Str->Option Value}{base:Heap}{CX:lO}{k:Nat}{f:Addr}{fd:cB}{ps:List Str}{sp Lj:Sp}(F:jH P w K mg base CX k f fd ps sp)
 (h:∀vs H Q E,Lj vs H Q E->sp vs H Q E):jH P w K mg base CX k f fd ps Lj :=
 ⟨λvs H Q E q=>F.len vs H Q E (h _ _ _ _ q),λA outer s H args us vs Q E hr he hb hv hs=>F.run A outer s H args us vs Q E hr he hb hv (h _ _ _ _ hs)⟩
section
variable {X:Cx}{pins:List (Addr×Obj)}{σ:St}{H:Hp}{s s':ah}
def Inv.xA(I:Inv X pins σ H s):uU X.prog X.w X.K X.mg X.base X.A X.stack s H :=
 ⟨I.ok.frames,I.ok.mod,I.bs,fG I.ok.kl I.sz,I.stack,I.Ai,I.aN,I.bare⟩
def Inv.after{Q:VK}{u:Value}(I:Inv X pins σ H s)(h:CE X.stack X.prog X.w H s Q u s'):EP X pins σ Q u s':=by
 obtain⟨v,H',os,bare,un,aN,r,q⟩:=h
 obtain⟨hh,g,d,t,nZ⟩:=s'
 obtain rfl:nZ=s.os:=os
 exact⟨v,H',I.call (h':=hh) (g':=g) (d':=d) (t':=t) (ch:=[]) un aN bare (λb z=>absurd z (by simp)),r,q⟩
end
def km(K:aE)(fd:cB)(ps:List Str)(ds:List Value):Prop :=
 ∀(s:ah) (us:List Value),K.In s.heap->(us++ds).length=ps.length->BindsTo s fd ⟨us,[]⟩ (ps.zip (us++ds))
def km.all{K:aE}{fd:cB}{ps:List Str}(h:∀us:List Value,us.length=ps.length->Se fd ⟨us,[]⟩=pure (ps.zip us)):km K fd ps []:=λs us _ hl=>by
 rw[kJ] at hl ⊢
 exact .of_eq (h us hl)
section
variable {X:Cx}{CX:lO}{k:Nat}{f C:Addr}{fd:cB}{ps:List Str}{sp:Sp}{dvs:List V}{ds:List Value}{E:XK}{x m:Str}{p pos apos:Pos}{e o:Expr}{es:List Expr}{ta:TE}{t:TA}
structure Mk (K:aE) (C f:Addr):Prop where
 makes:PySem.W.makesIn K C=true
 init:uu K (.ref C) "__init__"=some (some (.ref f))
 fn:PySem.W.isFn K (.ref f)=true
 kp:wG K (.ref C)=true
end
def PK(X:Cx)(Lk:List kK)(t:TA):Prop :=
 ∀(pos:Pos) (pins:List (Addr×Obj)) (s:ah) (σ:St) (H:Hp) (Q:List V->Hp->Prop),Inv X pins σ H s->t σ H Q->au (aD X.prog X.w) X.A (evalAll ((uw pos (ux Lk X.env)).map (·.2))) (AP X pins σ Q) X.xe s
section
variable {X:Cx}{CX:lO}{k:Nat}{f C:Addr}{fd:cB}{ps ks:List Str}{sp:Sp}{E:XK}{x m:Str}{p pos apos a7s:Pos}{e o:Expr}{es:List Expr}{Lk:List kK}{te ta:TE}{t tk:TA}{nm:Option Str}
structure a7t (K:aE) (fd:cB) (ps ks:List Str) (g:List Value->List Value->List Value) (gV:List V->List V->List V):Prop where
 to:∀(s:ah) (us ws:List Value),K.In s.heap->(g us ws).length=ps.length->BindsTo s fd ⟨us,ks.zip ws⟩ (ps.zip (g us ws))
 rel:∀{vs:List V} {us:List Value} {zs:List V} {ws:List Value},Vals vs us->Vals zs ws->Vals (gV vs zs) (g us ws)
variable {g:List Value->List Value->List Value}{gV:List V->List V->List V}
end
structure i7 (N P:List Str) (sc:dz):Prop where
 kind:sc.kind = .function
 co:sc.isCoroutine=false
 gen:sc.isGenerator=false
 nd:N.Nodup
 pre:N.take P.length=P
 par:∀x∈P,sc.names.lookup x=some .local∨sc.names.lookup x=some .cell
 UQ:∀y∈sc.names,y.2 ≠ .free
def Ll{kindOf:Str->Option oM}{x:Str}:∀{binds:List (Str×Value)} {m:Str->Option Value},(∀v,(x,v) ∉ binds)->uy kindOf binds m x=m x
 | [],_,_=>rfl
 | (n,v)::r,m,h=>by
   unfold uy
   rw[Ll λw hw=>h w (ft _ hw)]
   split
   ·have:x≠n:=by rintro rfl;exact h v gj
    simp[this]
   ·rfl
def Lm{kindOf:Str->Option oM}{x:Str}:∀{binds:List (Str×Value)} {m:Str->Option Value},(∀v,(x,v) ∉ binds)->uz kindOf binds m x=m x
 | [],_,_=>rfl
 | (n,v)::r,m,h=>by
   unfold uz
   rw[Lm λw hw=>h w (ft _ hw)]
   split
   ·rfl
   ·have:x≠n:=by rintro rfl;exact h v gj
    simp[this]
def Ln{kindOf:Str->Option oM}{x:Str}{v:Value}:∀{P:List Str} {vs:List Value} {i:Nat} {m:Str->Option Value},P.Nodup->P[i]? = some x->vs[i]? = some v->kindOf x=some .local ->
 uy kindOf (P.zip vs) m x=some v
 | [],_,_,_,_,h,_,_=>by simp at h
 | _::_,[],_,_,_,_,h,_=>by simp at h
 | p::P,w::vs,0,m,nd,h1,h2,hk=>by
   simp at h1 h2;subst h1;subst h2
   show uy kindOf ((p,w)::P.zip vs) m p=_
   unfold uy
   rw[Ll λv hv=>(List.nodup_cons.mp nd).1 (Sf hv).1,if_pos hk]
   simp
 | p::P,w::vs,i+1,m,nd,h1,h2,hk=>by
   show uy kindOf ((p,w)::P.zip vs) m x=_
   unfold uy
   exact Ln (i:=i) (List.nodup_cons.mp nd).2 (by simpa using h1) (by simpa using h2) hk
def Lp{kindOf:Str->Option oM}{x:Str}{v:Value}:∀{P:List Str} {vs:List Value} {i:Nat} {m:Str->Option Value},P.Nodup->P[i]? = some x->vs[i]? = some v->kindOf x≠some .local ->
 uz kindOf (P.zip vs) m x=some v
 | [],_,_,_,_,h,_,_=>by simp at h
 | _::_,[],_,_,_,_,h,_=>by simp at h
 | p::P,w::vs,0,m,nd,h1,h2,hk=>by
   simp at h1 h2;subst h1;subst h2
   show uz kindOf ((p,w)::P.zip vs) m p=_
   unfold uz
   rw[Lm λv hv=>(List.nodup_cons.mp nd).1 (Sf hv).1,if_neg hk]
   simp
 | p::P,w::vs,i+1,m,nd,h1,h2,hk=>by
   show uz kindOf ((p,w)::P.zip vs) m x=_
   unfold uz
   exact Lp (i:=i) (List.nodup_cons.mp nd).2 (by simpa using h1) (by simpa using h2) hk
def start(N:List Str)(vs:List V):St:=vs.map some++gG (N.length-vs.length) none
def uV(CX:lO)(P:aS)(w:aR)(K:aE)(mg:Str->Option Value)(base:Heap)(N:List Str)(qual:Str)(scope:dz)(f:Addr)(cd:Value)(A:Around)(outer:List Env)(s:ah)(H:Hp)(E:XK):Cx where
 prog:=P
 w:=w
 K:=K
 mg:=mg
 base:=base
 A:=A.deeper (uA qual scope s.heap.objs.size f cd)
 N:=N
 s₀:=s
 H₀:=H
 env:=uA qual scope s.heap.objs.size f cd
 outer:=outer
 stack:=uA qual scope s.heap.objs.size f cd::outer
 ex:=[]
 calm:=true
 fn:=λ_=>true
 pn:=[]
 xe:=λe s'=>au (aD P w) (A.deeper (uA qual scope s.heap.objs.size f cd)) (Sg (uA qual scope s.heap.objs.size f cd) e) (λ_ xB=>CX outer H s E e xB) (λe' xB=>CX outer H s E e' xB) s'
def Lq{sc:dz}{n:Nat}{x:Str}(h:sc.names.lookup x=some .cell):∃c,(Sh n sc.names []).lookup x=some c:=by
 have q:=a4l sc.names n [] (.inl h)
 exact Option.isSome_iff_exists.mp q
def UR{CX:lO}{P:aS}{w:aR}{K:aE}{mg:Str->Option Value}{base:Heap}{N ps:List Str}{qual:Str}{scope:dz}{f:Addr}{cd:Value}{A:Around}{outer:List Env}{s s1:ah}{H:Hp}{E:XK}{us:List Value}{vs:List V}
 (S:i7 N ps scope) (hd:A.handled=none) (e0:uU P w K mg base A outer s H) (hl:vs.length=ps.length) (r:Vals vs us)
 (x:InCallC s s.heap.objs.size (uy (uA qual scope s.heap.objs.size f cd).kindOf (ps.zip us) λ_=>none) (Sh (s.heap.objs.size+1) scope.names []) (uz (uA qual scope s.heap.objs.size f cd).kindOf (ps.zip us) λ_=>none) s1) :
 Inv (uV CX P w K mg base N qual scope f cd A outer s H E) [] (start N vs) H s1:=by
 have gu:ps.length<=N.length:=by have:=congrArg Si S.pre;rw[lE] at this;lia
 obtain⟨h1,tk,rfl,hk⟩:=x.done
 have xC:∀b:Addr,b ∉ (uV CX P w K mg base N qual scope f cd A outer s H E).ex:=λb z=>absurd (show b∈([]:List Addr) from z) (by simp)
 refine⟨⟨e0.mod,S.kind,rfl,rfl,a9 _,λy z c h1 h2=>?_,λy hy=>?_,λy c _ h=>?_,λ_=>hd,Around.frames_deeper e0.frames,.inr ⟨rfl,rfl⟩,λb z=>absurd z (xC b),e0.bs,e0.kl,λb _ _=>xC b,λb z=>absurd z (xC b),e0.j4,e0.lJ⟩,
  rfl,e0.bare,Un.kept hk,⟨_,x.toInCall.ns,λi y v h1 h2 h3=>?_⟩,λy c h=>⟨_,x.cell y c h⟩,e0.aN.fresh (a9 _),λy c h=>?_,λp hp=>absurd (show p∈([]:List (Addr×Obj)) from hp) (by simp),e0.aN.kept hk,?_⟩
 ·exact name_of_addr x.apart (kg h1) (kg h2)
 ·have hy:scope.names.lookup y=some .cell∨scope.names.lookup y=some .free:=hy
  rcases hy with hy | hy
  ·exact Lq hy
  ·exact absurd rfl (S.UQ _ (kg hy))
 ·exact JU (x.above y c (kg h))
 ·have hi:i<vs.length:=by
   unfold start at h2
   by_cases hi:i<vs.length
   ·exact hi
   ·rw[uB (by simpa using hi)] at h2
    rw[JY] at h2
    split at h2<;>cases h2
  have ha:vs[i]? = some v:=by
   unfold start at h2
   rw[wH (by simpa using hi),e8] at h2
   cases e:vs[i]? with
   | none=>rw[e] at h2;cases h2
   | some a=>rw[e] at h2;cases h2;rfl
  obtain⟨u,hu,rv⟩:=r.get ha
  have hp:ps[i]? = some y:=by
   rw[<-S.pre,List.getElem?_take_of_lt (by lia)];exact h1
  have Lr:ps.Nodup:=by rw[<-S.pre];exact S.nd.sublist (List.take_sublist _ _)
  refine⟨u,rv,?_⟩
  rcases S.par y (sy hp) with k | k
  ·exact .inl ⟨k,Ln Lr hp hu k⟩
  ·obtain⟨c,e⟩:=Lq (n:=s.heap.objs.size+1) k
   refine .inr ⟨.inl k,c,e,?_⟩
   have q:=x.cell y c e
   rw[Lp Lr hp hu (by show scope.names.lookup y≠_;rw[k];decide)] at q
   exact q
 ·exact e0.aN.fresh (JU (x.above y c (kg h)))
 ·unfold start
  show _=N.length
  rw[dN,aX,a4m]
  lia
def xD{CX:lO}{P:aS}{w:aR}{K:aE}{mg:Str->Option Value}{base:Heap}{k:Nat}{f:Addr}{name qual:Str}{params:Arguments}{body:List Stmt}{scope:dz}{dV kV doc pm a_ ct oc:Value}{an od:Option Addr}
 {p9:Array (Option Value)} {N ps:List Str} {sp:Sp} (lk:K.lookup f=some ⟨oc,od,.func (CI name qual params body scope dV kV doc pm an a_ ct),p9⟩) (dY:JZ K a_ qual=true) (S:i7 N ps scope)
 (len:∀vs H Q E,sp vs H Q E->vs.length=ps.length)
 (i8:∀(A:Around) (outer:List Env) (s:ah) (H:Hp) (vs:List V) (Q:VK) (E:XK),dO k (A.deeper (uA qual scope s.heap.objs.size f a_))->sp vs H Q E ->
   ∃t,Ud (uV CX P w K mg base N qual scope f a_ A outer s H E) body t/\t { nx:=λ_ H'=>Q .cQ H',rt:=Q } (start N vs) H) :
 jH P w K mg base CX (k+1) f (CI name qual params body scope dV kV doc pm an a_ ct) ps sp:=by
 refine⟨len,λA outer s H args us vs Q E hr e0 hb r eE=>?_⟩
 have hl:=len _ _ _ _ eE
 have KX:K.In s.heap:=e0.mod.oW.keeps λb o e=>(e0.bs b o e).1
 have lim:s.heap.NoLimit:=e0.mod.nolimit.keeps λb o e=>(e0.bs b o e).1
 have Ao:∀y∈ps.zip us,scope.names.lookup y.1=some .local∨(scope.names.lookup y.1=some .cell/\((Sh (s.heap.objs.size+1) scope.names []).lookup y.1).isSome=true):=λ⟨n,v⟩ hy=>by
  rcases S.par n (Sf hy).1 with q | q
  ·exact .inl q
  ·exact .inr ⟨q,a4l _ _ _ (.inl q)⟩
 refine codeAny_call_function hr.depth (KX _ _ lk) rfl S.co S.gen rfl (PySem.W.codeRec_of KX dY) (hb _ _ _ _ ?_)
 refine wpAny_newFunctionEnv_cells S.kind Ao λenv he s1 x=>?_
 subst he
 refine⟨lim.keeps x.toInCall.keep,codeAny_func ?_⟩
 obtain⟨t,ht,hq⟩:=i8 A outer s H vs Q E (hr.deeper _) eE
 have I:Inv (uV CX P w K mg base N qual scope f a_ A outer s H E) [] (start N vs) H s1:=UR S hr.hd e0 hl r x
 refine az (ht [] s1 (start N vs) H _ I hq) (λfl s' hs=>?_) λe s' hs=>hs
 have fin:∀{aJ:St} {H':Hp} {v:V} {u:Value},Inv (uV CX P w K mg base N qual scope f a_ A outer s H E) [] aJ H' s'->RelV v u->Q v H'->CE outer P w H s Q u s' :=
  λ{aJ H' v u} J rv q=>⟨v,H',J.os,J.bare,J.base,J.aN,rv,q⟩
 cases fl with
 | ret u =>
   obtain⟨v,aJ,H',J,rv,q⟩:=hs
   exact fin J rv q
 | next =>
   obtain⟨aJ,H',J,q⟩:=hs
   exact fin (v:=V.cQ) (u:=qL) J rfl q
 | brk =>
   obtain⟨_,_,_,q⟩:=hs
   exact cx q
 | cont =>
   obtain⟨_,_,_,q⟩:=hs
   exact cx q
end L2
namespace L2
open PySem PySem.Spec PyProof.Rows
section
variable {X:Cx}{x:Str}{p pos:Pos}{e:Expr}{es:List Expr}{t:TA}{id T:String}{r:List V->Hp->VK->Prop}
end
end L2
namespace HT
open PySem PyProof.Rows
section
open PySem.SeqAt
open PySem.AutoSeq1 (wpAny_loadPart')
open PySem.MeetsSeq PySem.MeetsSeq2 PySem.MeetsSeq3
end
section
variable {prog:aS}{w:aR}{A:Around}{E:Value->ah->Prop}{s:ah}
def US{t b:Addr}{vs ws:List Value}{Q:Value->ah->Prop}(ht:sr s.heap t vs.toArray)(hb:sr s.heap b ws.toArray)(hv:vs≠[])
 (h1:ws=[]->Q (.ref t) s) (h2:ws≠[]->Q (.ref s.heap.objs.size) { s with heap:=s.heap.push { cls:=.type "tuple",data:=.seq (vs++ws).toArray } })
 (j6:vs.length+ws.length<=b5):au (aD prog w) A (iI .Add (.ref t) (.ref b)) Q E s:=by
 obtain⟨⟨cls,dd,data,sl⟩,ho,hc,n,hd⟩:=id ht
 obtain⟨⟨UT,Ap,data2,Aq⟩,sQ,n4,n2,hd2⟩:=id hb
 simp only at hc hd n4 hd2
 subst hc hd n4 hd2
 have e:vs.toArray++ws.toArray=(vs++ws).toArray:=by simp
 by_cases hw:ws=[]
 ·exact J2 ⟨_,ho,rfl⟩ ⟨_,sQ,rfl⟩ Sj Sk Sl Sm (Sn _ _)
   (tuple_addW1 t b vs.toArray ws.toArray n n2 dd Ap sl Aq (by simpa using hv) (by simp[hw])) ⟨ho,sQ,h1 hw⟩
 ·refine J2 ⟨_,ho,rfl⟩ ⟨_,sQ,rfl⟩ Sj Sk Sl Sm (Sn _ _)
   (tuple_addW2 t b vs.toArray ws.toArray n n2 dd Ap sl Aq (by simpa using hv) (by simpa using hw) (by rw[de,de];exact j6)) ⟨ho,sQ,?_⟩
  rw[e]
  exact h2 hw
def bJ(n d:Nat):Option Int->Nat
 | none=>d
 | some v=>if v<0 then (v+(n:Int)).toNat else min v.toNat n
def UU(n d:Nat)(hd:d<=n)(o:Option Int):bJ n d o<=n:=by
 cases o with
 | none=>exact hd
 | some v =>
   show(if v<0 then (v+(n:Int)).toNat else min v.toNat n)<=n
   by_cases hv:v<0
   ·rw[if_pos hv];lia
   ·rw[if_neg hv];exact Nat.min_le_right _ _
def Ls(v:Int)(n d:Nat):(if v<0 then max (v+(n:Int)) 0 else min v (n:Int))=((bJ n d (some v):Nat):Int):=by
 show(if v<0 then max (v+(n:Int)) 0 else min v (n:Int))=(((if v<0 then (v+(n:Int)).toNat else min v.toNat n):Nat):Int)
 by_cases hv:v<0
 ·simp only[if_pos hv];lia
 ·simp only[if_neg hv];lia
def UW(lo hi:Option Int)(n:Nat):So lo hi 1 (n:Int)=(((bJ n 0 lo:Nat):Int),((bJ n n hi:Nat):Int)):=by
 have h1:¬((1:Int)<0):=by lia
 unfold So
 simp only[h1,if_false]
 refine Prod.ext ?_ ?_
 ·cases lo with
  | none=>rfl
  | some v=>exact Ls v n 0
 ·cases hi with
  | none=>rfl
  | some v=>exact Ls v n n
def UX(i j:Nat):J3 (i:Int) (j:Int) 1=j-i:=by
 unfold J3
 have h1:(1:Int)>0:=by lia
 simp only[h1,if_true,Int.ediv_one]
 split<;>lia
def Lu{v:Value}{o:Option Int}{Q:Option Int->ah->Prop}(p:qP v o)(h:Q o s):au (aD prog w) A (Builtin.Slice.slicePartIndex v) Q E s:=by
 cases p with
 | none=>exact a4n h
 | int i t=>exact slicePart_int h
def Lv{sl:Addr}{vl vu:Value}{lo hi:Option Int}{n:Nat}{Q:Int×Int×Nat->ah->Prop}(hs:s.heap.IsSliceOf sl vl vu .none)(pl:qP vl lo)(pu:qP vu hi)
 (h:Q (((bJ n 0 lo:Nat):Int),1,bJ n n hi-bJ n 0 lo) s):au (aD prog w) A (a4o (.ref sl) (pure (n:Int))) Q E s:=by
 obtain⟨os,sR,sS,xE⟩:=id hs
 unfold a4o Builtin.Slice.sliceFields
 refine aI (aI (oN sR xE (x:=vl) rfl (aI (oN sR xE (x:=vu) rfl (aI (oN sR xE (x:=.none) rfl (bR ?_)))))))
 refine aI (a4n ?_)
 show au _ _ (if ((1:Int)==0)=true then _ else _) _ _ s
 rw[if_neg (by decide)]
 refine aI (Lu pl (aI (Lu pu (aI (bR ?_)))))
 show au _ _ (match So lo hi 1 (n:Int) with | (lo,hi)=>pure (lo,(1:Int),J3 lo hi 1)) _ _ s
 rw[UW lo hi n]
 show au _ _ (pure (((bJ n 0 lo:Nat):Int),(1:Int),J3 ((bJ n 0 lo:Nat):Int) ((bJ n n hi:Nat):Int) 1)) _ _ s
 rw[UX]
 exact bR h
def UY(xs:Array Value)(i k:Nat):((eW k).filterMap λ(m:Nat)=>xs[((i:Int)+(m:Int)*1).toNat]?).toArray=((xs.toList.drop i).take k).toArray:=by
 have e:(λ(m:Nat)=>xs[((i:Int)+(m:Int)*1).toNat]?)=λm=>xs[i+m]?:=by
  funext m
  have:((i:Int)+(m:Int)*1).toNat=i+m:=by lia
  rw[this]
 rw[e]
 have:=pick_run xs i k
 rw[List.filterMap_map] at this
 have e2:((λx=>xs[x]?) ∘ λx=>i+x)=λm=>xs[i+m]?:=rfl
 rw[e2] at this
 rw[this]
def UZ{t sl:Addr}{items:Array Value}{vl vu:Value}{lo hi:Option Int}{Q:Value->ah->Prop}(ht:sr s.heap t items)(hs:s.heap.IsSliceOf sl vl vu .none)(pl:qP vl lo)(pu:qP vu hi)
 (hw:¬(bJ items.size 0 lo=0/\bJ items.size items.size hi=items.size))
 (h:Q (.ref s.heap.objs.size) { s with heap:=s.heap.push { cls:=.type "tuple",data:=.seq ((items.toList.drop (bJ items.size 0 lo)).take (bJ items.size items.size hi-bJ items.size 0 lo)).toArray } })
 (j6:items.size<=b5):au (aD prog w) A (wI (.ref t) (.ref sl)) Q E s:=by
 have Ar:sizeOk (.seq ((items.toList.drop (bJ items.size 0 lo)).take (bJ items.size items.size hi-bJ items.size 0 lo)).toArray):=by
  show((items.toList.drop (bJ items.size 0 lo)).take (bJ items.size items.size hi-bJ items.size 0 lo)).toArray.size<=b5
  rw[de,lE,pS,qM]
  lia
 have hj:bJ items.size items.size hi<=items.size:=UU _ _ (a9 _) hi
 obtain⟨os,sR,sS,xE⟩:=id hs
 have Dr:s.TypeIs (.ref sl) "slice":=⟨os,sR,sS⟩
 unfold wI
 try with_reducible refine jE ?_
 first | refine aI (bR ?_) | skip
 refine aI (a4p ht.typeIs (by decide) ?_)
 refine aI (J4 (name:=jn "__getitem__") ht.typeIs J_
  (zH J_ ht.typeIs a4q ?_ (a4r _ _)))
 show au _ _ (Sr (.ref t)>>=_) _ _ s
 refine aI (tupleItemsOf_ ht ?_)
 refine aI (Ka Dr ?_)
 rw[if_pos (by decide)]
 refine aI (Lv hs pl pu ?_)
 have n6:¬((((bJ items.size 0 lo:Nat):Int)==0&&(1:Int)==1&&(bJ items.size items.size hi-bJ items.size 0 lo)==items.size)=true):=by
  intro q
  rw[i0,i0] at q
  have q1:((bJ items.size 0 lo:Nat):Int)=0:=eq_of_beq q.1.1
  have q2:bJ items.size items.size hi-bJ items.size 0 lo=items.size:=eq_of_beq q.2
  exact hw ⟨by lia,by lia⟩
 show au _ _ (if (((bJ items.size 0 lo:Nat):Int)==0&&(1:Int)==1&&(bJ items.size items.size hi-bJ items.size 0 lo)==items.size)=true then _ else _) _ _ s
 rw[if_neg n6,UY]
 first
  | exact aI (m:=Kb _) (sA (bR ⟨_,rfl,bR h⟩) Ar)
  | exact aI (m:=Kb _) (sA (aI (bR (bR ⟨_,rfl,bR h⟩))) Ar)
  | exact aI (aI (m:=Kb _) (sA (bR (bR ⟨_,rfl,bR h⟩)) Ar))
  | exact aI (aI (m:=Kb _) (sA (bR ⟨_,rfl,bR h⟩) Ar))
end
end HT
namespace L2
open PySem PySem.Spec PyProof.Rows
abbrev TO:=St->Hp->(Option Int->Hp->Prop)->Prop
def Lw{ns:List Int}:∀{us:List Value},Vals (ns.map V.int) us->uC us ns:=by
 induction ns with
 | nil=>intro us r;rw[pT] at r;cases r;exact .nil
 | cons n ns ih =>
   intro us r
   rw[fN] at r
   cases r with
   | cons r1 r2 =>
     obtain⟨t,e⟩:=r1
     subst e
     exact .cons n t (ih r2)
section
variable {X:Cx}{e:Expr}{te:TE}{lo hi:Option Expr}{tl th:TO}{pos p2:Pos}
def oZ(X:Cx)(r:V->Option Int->Option Int->Hp->VK->Prop):Prop :=
 ∀(pins:List (Addr×Obj)) (s:ah) (σ:St) (H:Hp) (x:V) (v vl vu:Value) (lo hi:Option Int) (sl:Addr) (Q:VK),Inv X pins σ H s->RelV x v->s.heap.IsSliceOf sl vl vu .none->qP vl lo->qP vu hi->r x lo hi H Q ->
  ∃T id,CJ (.type T) "__getitem__"=pure (some (.builtin id))/\s.TypeIs v T/\au (aD X.prog X.w) X.A (wI v (.ref sl)) (EP X pins σ Q) X.xe s
def oZ.or{r r':V->Option Int->Option Int->Hp->VK->Prop}(h:oZ X r)(h':oZ X r'):oZ X (λx lo hi H Q=>r x lo hi H Q∨r' x lo hi H Q):=by
 intro pins s σ H x v vl vu lo hi sl Q I rx hs pl pu q
 rcases q with q | q
 ·exact h pins s σ H x v vl vu lo hi sl Q I rx hs pl pu q
 ·exact h' pins s σ H x v vl vu lo hi sl Q I rx hs pl pu q
def lP(xs:List V)(lo hi:Option Int):List V:=(xs.drop (HT.bJ xs.length 0 lo)).take (HT.bJ xs.length xs.length hi-HT.bJ xs.length 0 lo)
def Lx(xs:List V)(lo hi:Option Int):(lP xs lo hi).length<=xs.length:=by
 unfold lP
 rw[lE,pS]
 lia
def U0(K:aE):V->Option Int->Option Int->Hp->VK->Prop:=λx lo hi H Q=>∃a xs,x = .ref a/\cC K H a xs /\
 ¬(HT.bJ xs.length 0 lo=0/\HT.bJ xs.length xs.length hi=xs.length)/\∀p,H p=none->Q (.ref p) (upd H p (.tup (lP xs lo hi)))
def U1:oZ X (U0 X.K):=by
 intro pins s σ H x v vl vu lo hi sl Q I rx hs pl pu h
 obtain⟨a,xs,rfl,hx,hw,q⟩:=h
 cases rx
 obtain⟨its,r,ht,hz⟩:=I.tuple hx
 have hlen:its.toArray.size=xs.length:=by rw[de];exact r.length.symm
 refine⟨"tuple",_,PyProof.Rows.slot_tuple_getitem.lookup,ht.typeIs,?_⟩
 refine HT.UZ ht hs pl pu (by rw[hlen];exact hw) ?_ (by rw[hlen];exact hz)
 rw[hlen]
 refine⟨.ref s.heap.objs.size,_,I.laid (t':=s.toks) (o:=.tup (lP xs lo hi)) (λb ob q=>dE _ q) (a9 _) ?_,rfl,q _ (I.aN.fresh (a9 _))⟩
 exact⟨fG (Lx xs lo hi) hz,_,(r.drop (HT.bJ xs.length 0 lo)).take (HT.bJ xs.length xs.length hi-HT.bJ xs.length 0 lo),mL.new _ _⟩
def U2(K:aE):R2:=λx y H Q=>∃a b xs ys,x = .ref a/\y = .ref b/\cC K H a xs/\cC K H b ys/\xs≠[]/\xs.length+ys.length<=b5 /\
 (ys=[]->Q (.ref a) H)/\(ys≠[]->∀p,H p=none->Q (.ref p) (upd H p (.tup (xs++ys))))
def Vals.jq{xs:List V}{us:List Value}(r:Vals xs us):us=[]↔xs=[]:=by
 cases r with
 | nil=>simp
 | cons _ _=>simp
def U3:fH X (iI .Add) (U2 X.K):=by
 intro pins s σ H x y v u Q I rx ry h
 obtain⟨a,b,xs,ys,rfl,rfl,ha,hb,hx,hz,q1,q2⟩:=h
 cases rx
 cases ry
 obtain⟨its,r1,p1,_⟩:=I.tuple ha
 obtain⟨o4,r2,p2,_⟩:=I.tuple hb
 refine HT.US p1 p2 (λz=>hx (r1.jq.mp z)) (λz=>⟨.ref a,H,I,rfl,q1 (r2.jq.mp z)⟩) (λz=>?_) (by rw[<-r1.length,<-r2.length];exact hz)
 refine⟨.ref s.heap.objs.size,_,I.laid (t':=s.toks) (o:=.tup (xs++ys)) (λb ob q=>dE _ q) (a9 _) ?_,rfl,q2 (λw=>z (r2.jq.mpr w)) _ (I.aN.fresh (a9 _))⟩
 exact⟨by rw[dN];exact hz,_,r1.append r2,mL.new _ _⟩
end
end L2
namespace L2
open PySem PySem.Spec PyProof.Rows
def jr(n:Nat)(i:Int):Option Nat:=if 0<=i then (if i<n then some i.toNat else none) else if -(n:Int)<=i then some (i+n).toNat else none
def c5{α:Type}(xs:List α)(i:Int):Option α:=(jr xs.length i).bind λj=>xs[j]?
def Ly{n:Nat}{i:Int}{j:Nat}(h:jr n i=some j):Ss i n=some j/\j<n /\ -(n:Int)<=i/\i<n:=by
 unfold jr at h
 by_cases h0:0<=i
 ·rw[if_pos h0] at h
  by_cases h1:i<n
  ·rw[if_pos h1] at h
   have e:i.toNat=j:=mD h
   exact⟨by rw[Su h0 h1,e],by lia,by lia,h1⟩
  ·rw[if_neg h1] at h;cases h
 ·rw[if_neg h0] at h
  by_cases h1:-(n:Int)<=i
  ·rw[if_pos h1] at h
   have e:(i+n).toNat=j:=mD h
   exact⟨by rw[Sv (by lia) h1,e],by lia,h1,by lia⟩
  ·rw[if_neg h1] at h;cases h
def Ds{α:Type}{xs:List α}{i:Int}{v:α}(h:c5 xs i=some v):∃j,Ss i xs.length=some j/\xs[j]? = some v/\j<xs.length /\ -(xs.length:Int)<=i/\i<xs.length:=by
 unfold c5 at h
 cases e:jr xs.length i with
 | none=>rw[e] at h;cases h
 | some j =>
   rw[e] at h
   obtain⟨h1,h2,h3,h4⟩:=Ly e
   exact⟨j,h1,h,h2,h3,h4⟩
def Dt(b:Expr):Prop:=∀o i,subscripted b false o i=operate [o,i] (wI o i)
def Du(X:Cx)(r:R2):Prop :=
 ∀(value slice:Expr) (pins:List (Addr×Obj)) (s:ah) (σ:St) (H:Hp) (x y:V) (v u:Value) (Q:VK),Inv X pins σ H s->RelV x v->RelV y u->r x y H Q ->
  subscripted slice false v u=operate [v,u] (wI v u)->au (aD X.prog X.w) X.A (subscriptTail value slice v u) (EP X pins σ Q) X.xe s
section
variable {X:Cx}{a b:Expr}{ta tb:TE}{pos:Pos}
def U4(K:aE):R2:=λx y H Q=>∃p xs i v,x = .ref p/\y = .int i/\cA K H p xs/\c5 xs i=some v/\Q v H
def U5(K:aE):R2:=λx y H Q=>∃p xs i v,x = .ref p/\y = .int i/\cC K H p xs/\c5 xs i=some v/\Q v H
def U6:R2:=λx y H Q=>∃z i c,x = .str z/\y = .int i/\z.length<=b5/\c5 z.cps.toList i=some c/\Q (.str ⟨#[c]⟩) H
def Lz:Du X (U4 X.K):=by
 intro value slice pins s σ H x y v u Q I rx ry h hs
 obtain⟨p,xs,i,z,rfl,rfl,hq,he,q⟩:=h
 cases rx
 obtain⟨t,rfl⟩:=ry
 obtain⟨its,r,pl,hz⟩:=I.list hq
 obtain⟨j,h1,h2,h3,h4,h5⟩:=Ds he
 obtain⟨w,ew,Dv⟩:=r.get h2
 have hl:=r.length
 have hn:=uT
 have fin:EP X pins σ Q w s:=⟨z,H,I,Dv,q⟩
 by_cases h0:0<=i
 ·have hj:i.toNat=j:=by
   rw[Su h0 h5] at h1
   exact mD h1
  exact item_listR pl.isList h0 (by lia) (by rw[hj];simpa using ew) fin hs
 ·have hj:(i+(its.toArray.size:Int)).toNat=j:=by
   rw[Sv (by lia) h4] at h1
   rw[de,<-hl]
   exact mD h1
  exact a4s (x:=w) pl.isList.typeIs slot_list_getitem.lookup
   (wpAny_getItem_list_neg (Q:=λr s'=>r=w/\EP X pins σ Q r s') pl.isList (by lia) (by rw[de]<;>lia) (by lia) (by rw[hj];simpa using ew) ⟨rfl,fin⟩) hs
def LA:Du X (U5 X.K):=by
 intro value slice pins s σ H x y v u Q I rx ry h hs
 obtain⟨p,xs,i,z,rfl,rfl,hq,he,q⟩:=h
 cases rx
 obtain⟨t,rfl⟩:=ry
 obtain⟨its,r,pl,hz⟩:=I.tuple hq
 obtain⟨j,h1,h2,h3,h4,h5⟩:=Ds he
 obtain⟨w,ew,Dv⟩:=r.get h2
 have hl:=r.length
 have hn:=uT
 have fin:EP X pins σ Q w s:=⟨z,H,I,Dv,q⟩
 exact a4s (x:=w) pl.typeIs slot_tuple_getitem.lookup
  (getItem_tuple (j:=j) (Q:=λr s'=>r=w/\EP X pins σ Q r s') pl (by lia) (by lia) (by rw[de,<-hl];exact h1) (by simpa using ew) ⟨rfl,fin⟩) hs
def U7:Du X U6:=by
 intro value slice pins s σ H x y v u Q I rx ry h hs
 obtain⟨z,i,c,rfl,rfl,hz,he,q⟩:=h
 obtain⟨t,rfl⟩:=rx
 obtain⟨t',rfl⟩:=ry
 obtain⟨j,h1,h2,h3,h4,h5⟩:=Ds he
 have hl:z.cps.toList.length=z.length:=by simp[wJ]
 rw[hl] at h1 h4 h5
 have hn:=uT
 exact tail_any (typeIs_str s z t) slot_str_getitem.lookup (getItem_str (c:=c) (by
  have e1:decide (i < -(2^63:Int))=false:=decide_eq_false (by lia)
  have e2:decide (i≥2^63)=false:=decide_eq_false (by lia)
  rw[e1,e2,Kc]) (by rw[h1];simpa using h2) ⟨.str ⟨#[c]⟩,H,I.tok _,⟨_,rfl⟩,q⟩) hs
def U8(its:List Value)(n j:Nat)(u:Value):wK (·.setIfInBounds j u) { cls:=.type "list",data:=.seq its.toArray n }={ cls:=.type "list",data:=.seq (its.set j u).toArray n }:=by
 simp[wK]
def Inv.lst{pins:List (Addr×Obj)}{σ:St}{H:Hp}{s:ah}{p:Addr}{xs:List V}(I:Inv X pins σ H s)(h:H p=some (.lst xs)) :
 ∃(its:List Value) (n:Nat),Vals xs its/\s.heap.get? p=some { cls:=.type "list",data:=.seq its.toArray n }/\xs.length<=b5:=by
 obtain⟨z,its,n,r,e⟩:=I.aN p _ h
 exact⟨its,n,r,e,z⟩
def Inv.U9{pins:List (Addr×Obj)}{σ:St}{H:Hp}{s:ah}{p:Addr}{xs ys:List V}{its its':List Value}{n n':Nat}{f:Obj->Obj}(I:Inv X pins σ H s)(h:H p=some (.lst xs))
 (ho:s.heap.get? p=some { cls:=.type "list",data:=.seq its.toArray n }) (hf:f { cls:=.type "list",data:=.seq its.toArray n }={ cls:=.type "list",data:=.seq its'.toArray n' }) (r:Vals ys its') (hz:ys.length<=b5) (t:Nat) :
 Inv X pins σ (upd H p (.lst ys)) { s with heap:=s.heap.update p f,toks:=t }:=by
 have e:(s.heap.update p f).get? p=some { cls:=.type "list",data:=.seq its'.toArray n' }:=by
  rw[Sw f ho (by rw[hf]<;>rfl),hf]
 refine I.write (x:=p) (e:=p) (by rw[h];trivial) (.inl rfl) (λb u hb q=>(Kd _ _ (eA hb)).trans q) ⟨_,e⟩ ?_
 exact⟨hz,its',n',r,e⟩
def U_:V->V->V->Hp->(Hp->Prop)->Prop:=λo i v H Q=>∃p xs k j,o = .ref p/\i = .int k/\H p=some (.lst xs)/\jr xs.length k=some j/\Q (upd H p (.lst (xs.set j v)))
def Va:Ul X U_:=by
 intro pins s σ H o i v ov iv u Q I ro ri rv h
 obtain⟨p,xs,k,j,rfl,rfl,hp,hj,q⟩:=h
 cases ro
 obtain⟨t,rfl⟩:=ri
 obtain⟨its,n,r,ho,hz⟩:=I.lst hp
 obtain⟨h1,h2,h3,h4⟩:=Ly hj
 have hl:=r.length
 have hn:=uT
 have I':Inv X pins σ (upd H p (.lst (xs.set j v))) { s with heap:=s.heap.update p (wK (·.setIfInBounds j u)) } :=
  I.U9 hp ho (U8 its n j u) (r.set rv j) (by rw[gp];exact hz) s.toks
 by_cases h0:0<=k
 ·have hk:k.toNat=j:=by
   rw[Su h0 h4] at h1
   exact mD h1
  exact PySem.W.ki_setAt ho h0 (by lia) (by rw[de,<-hl];exact h4) (by rw[hk];exact⟨_,I',q⟩)
 ·have hk:(k+(its.toArray.size:Int)).toNat=j:=by
   rw[Sv (by lia) h3] at h1
   rw[de,<-hl]
   exact mD h1
  exact PySem.W.ki_setBack ho (by lia) (by rw[de,<-hl];exact h3) (by lia) (by rw[hk];exact⟨_,I',q⟩)
def Vb(lo hi:Option Int)(n:Nat):(wL lo hi none n).1=((HT.bJ n 0 lo:Nat):Int)/\(wL lo hi none n).2.1=((HT.bJ n n hi:Nat):Int)/\(wL lo hi none n).2.2=1:=by
 refine⟨?_,?_,rfl⟩
 ·cases lo with
  | none=>simp[wL,HT.bJ]
  | some i =>
    simp only[wL,HT.bJ,Ke,show(1:Int)>0 by decide,if_true]
    by_cases h:i<0
    ·simp only[h,if_true]<;>lia
    ·simp only[h,if_false]<;>lia
 ·cases hi with
  | none=>simp[wL,HT.bJ]
  | some i =>
    simp only[wL,HT.bJ,Ke,show(1:Int)>0 by decide,if_true]
    by_cases h:i<0
    ·simp only[h,if_true]<;>lia
    ·simp only[h,if_false]<;>lia
def Vc(its:List Value)(lo hi:Option Int):slicePick its.toArray lo hi none=((its.drop (HT.bJ its.length 0 lo)).take (HT.bJ its.length its.length hi-HT.bJ its.length 0 lo)).toArray:=by
 obtain⟨h1,h2,h3⟩:=Vb lo hi its.toArray.size
 unfold slicePick
 rw[h1,h2,h3]
 simp only[sliceRange_one,pick_run,de]<;>rfl
def Vd(K:aE):V->Option Int->Option Int->Hp->VK->Prop:=λx lo hi H Q=>∃a xs,x = .ref a/\cA K H a xs/\∀p,H p=none->Q (.ref p) (upd H p (.lst (lP xs lo hi)))
def LB:oZ X (Vd X.K):=by
 intro pins s σ H x v vl vu lo hi sl Q I rx hs pl pu h
 obtain⟨a,xs,rfl,hx,q⟩:=h
 cases rx
 obtain⟨its,r,ht,hz⟩:=I.list hx
 have hlen:=r.length
 refine⟨"list",_,slot_list_getitem.lookup,ht.isList.typeIs,?_⟩
 refine wpAny_getItem_list_slice ht.isList hs pl pu .none (by simp) ?_ (by rw[de]<;>lia)
 rw[Vc,<-hlen]
 refine⟨.ref s.heap.objs.size,_,I.laid (t':=s.toks) (o:=.lst (lP xs lo hi)) (λb ob q=>dE _ q) (a9 _) ?_,rfl,q _ (I.aN.fresh (a9 _))⟩
 exact⟨fG (Lx xs lo hi) hz,_,0,(r.drop (HT.bJ xs.length 0 lo)).take (HT.bJ xs.length xs.length hi-HT.bJ xs.length 0 lo),gf _ rfl⟩
def Ve:i6 X (.builtin "len") (λxs H Q=>∃p ys,xs=[.ref p]/\(cA X.K H p ys∨cC X.K H p ys)/\Q (.int ys.length) H):=by
 intro pins s σ H xs us Q I r h
 obtain⟨p,ys,rfl,hq,q⟩:=h
 obtain⟨u,rfl,rx⟩:=mM r
 cases rx
 have hn:=uT
 rcases hq with hq | hq
 ·obtain⟨its,r',pl,hz⟩:=I.list hq
  have hlen:=r'.length
  exact a4i pl.isList (by simp only[de]<;>lia) ⟨.int ys.length,H,I.tok _,⟨s.toks+1,by rw[de,hlen]⟩,q⟩
 ·obtain⟨its,r',pl,hz⟩:=I.tuple hq
  have hlen:=r'.length
  exact Sd pl (by simp only[de]<;>lia) ⟨.int ys.length,H,I.tok _,⟨s.toks+1,by rw[de,hlen]⟩,q⟩
def i6.or{f:Value}{r r':List V->Hp->VK->Prop}(h:i6 X f r)(h':i6 X f r'):i6 X f (λxs H Q=>r xs H Q∨r' xs H Q):=by
 intro pins s σ H xs us Q I rs q
 rcases q with q | q
 ·exact h pins s σ H xs us Q I rs q
 ·exact h' pins s σ H xs us Q I rs q
def Vf:i6 X (.type "list") (λxs H Q=>∃p ys,xs=[.ref p]/\(cA X.K H p ys∨cC X.K H p ys)/\∀l,H l=none->Q (.ref l) (upd H l (.lst ys))):=by
 intro pins s σ H xs us Q I r h
 obtain⟨p,ys,rfl,hq,q⟩:=h
 obtain⟨u,rfl,rx⟩:=mM r
 cases rx
 have fin:∀(its:List Value),Vals ys its->ys.length<=b5->∀(h':Heap) (c':Nat),(∀b o',s.heap.get? b=some o'->h'.get? b=some o') ->
  h'.get? s.heap.objs.size=some { cls:=.type "list",dict:=none,data:=.seq its.toArray c',slots:=#[] }->EP X pins σ Q (.ref s.heap.objs.size) { s with heap:=h' }:=λits r' hz h' c' kp e =>
  ⟨.ref s.heap.objs.size,_,I.laid (t':=s.toks) kp (a9 _) (show jo X.prog X.w _ h' _ (.lst ys) from⟨hz,its,c',r',e⟩),rfl,q _ (I.aN.fresh (a9 _))⟩
 rcases hq with hq | hq
 ·obtain⟨its,r',pl,hz⟩:=I.list hq
  have hlen:=r'.length
  obtain⟨o,ho,hc,n,hd⟩:=pl.isList
  exact call_list_seq p (.inl rfl) ho hc hd (λh' c' kp e=>fin its r' hz h' c' kp e) (by simp only[de]<;>lia)
 ·obtain⟨its,r',pl,hz⟩:=I.tuple hq
  have hlen:=r'.length
  obtain⟨o,ho,hc,n,hd⟩:=pl
  exact call_list_seq p (.inr rfl) ho hc hd (λh' c' kp e=>fin its r' hz h' c' kp e) (by simp only[de]<;>lia)
def LC:i6 X (.type "tuple") (λxs H Q=>∃p ys,xs=[.ref p]/\((cA X.K H p ys/\∀l,H l=none->Q (.ref l) (upd H l (.tup ys)))∨(cC X.K H p ys/\Q (.ref p) H))):=by
 intro pins s σ H xs us Q I r h
 obtain⟨p,ys,rfl,h⟩:=h
 obtain⟨u,rfl,rx⟩:=mM r
 cases rx
 rcases h with ⟨hq,q⟩ | ⟨hq,q⟩
 ·obtain⟨its,r',pl,hz⟩:=I.list hq
  have hlen:=r'.length
  refine call_tuple_list pl.isList (λh' kp=>?_) (by simp only[de]<;>lia)
  have I1:Inv X pins σ H { s with heap:=h' }:=I.kept (t':=s.toks) kp
  have I2:Inv X pins σ (upd H h'.objs.size (.tup ys)) { s with heap:=h'.push { cls:=.type "tuple",data:=.seq its.toArray } } :=
   I1.laid (t':=s.toks) (λb o e=>dE _ e) (a9 _) (show jo X.prog X.w _ _ _ (.tup ys) from⟨hz,its,r',mL.new _ _⟩)
  exact⟨.ref h'.objs.size,_,I2,rfl,q _ (I1.aN.fresh (a9 _))⟩
 ·obtain⟨its,r',pl,hz⟩:=I.tuple hq
  exact call_tuple_same pl ⟨.ref p,H,I,rfl,q⟩
def Vg(K:aE)(T:String)(x:V)(H:Hp):Prop:=match x with
 | .str _=>T="str"
 | .int _=>T="int"
 | .ref p=>(T="list"/\∃xs,cA K H p xs)∨(T="tuple"/\∃o,K.lookup p=some o/\o.cls = .type "tuple"/\o.dict=none) ∨
    (T="dict"/\((∃gW,H p=some (.dK gW))∨∃gW,H p=some (.dT gW)))∨(T="set"/\∃S n,H p=some (.set S n))
 | _=>False
def As{pins:List (Addr×Obj)}{σ:St}{H:Hp}{s:ah}{T:String}{x:V}{v:Value}(I:Inv X pins σ H s)(r:RelV x v)(ty:Vg X.K T x H) :
 s.TypeIs v T/\∀a,v = .ref a->∃ob,s.heap.get? a=some ob/\ob.dict=none:=by
 cases x with
 | str z =>
   obtain⟨t,rfl⟩:=r
   cases (show T="str" from ty)
   exact⟨typeIs_str s z t,λ_ e=>nomatch e⟩
 | int i =>
   obtain⟨t,rfl⟩:=r
   cases (show T="int" from ty)
   exact⟨typeIs_int s i t,λ_ e=>nomatch e⟩
 | ref p =>
   cases r
   rcases ty with ⟨rfl,xs,hq⟩ | ⟨rfl,o,hk,hc,hd⟩ | ⟨rfl,hk⟩ | ⟨rfl,S,n,hk⟩
   ·obtain⟨its,_,pl,_⟩:=I.list hq
    refine⟨pl.isList.typeIs,λa e=>?_⟩
    cases e
    obtain⟨o,n,e,c,hd,_⟩:=pl
    exact⟨o,e,hd⟩
   ·refine⟨⟨o,I.gH p o hk,hc⟩,λa e=>?_⟩
    cases e
    exact⟨o,I.gH _ o hk,hd⟩
   ·have z:∃o,s.heap.get? p=some o/\o.ExactDict:=by
     rcases hk with ⟨gW,hk⟩ | ⟨gW,hk⟩
     ·obtain⟨_,_,_,_,o,_,_,e,ex,_⟩:=I.aN p _ hk
      exact⟨o,e,ex⟩
     ·obtain⟨_,_,_,_,o,_,_,e,ex,_⟩:=I.aN p _ hk
      exact⟨o,e,ex⟩
    obtain⟨o,e,ex⟩:=z
    refine⟨⟨o,e,ex.1⟩,λa e2=>?_⟩
    cases e2
    exact⟨o,e,ex.2.1⟩
   ·obtain⟨o,_,_,_,e,ex,_⟩:=I.aN p _ hk
    refine⟨⟨o,e,ex.1⟩,λa e2=>?_⟩
    cases e2
    exact⟨o,e,ex.2.1⟩
 | _=>exact cx ty
variable {o e:Expr}{es:List Expr}{to:TE}{t:TA}{name:Str}{apos cL:Pos}{T id:String}{r:V->List V->Hp->VK->Prop}
end
end L2
namespace L2
open PySem PySem.Spec PyProof.Rows
def Dw(X:Cx)(id:String)(r:V->List V->Hp->VK->Prop):Prop :=
 ∀(pins:List (Addr×Obj)) (s:ah) (σ:St) (H:Hp) (x:V) (xs:List V) (v:Value) (us:List Value) (Q:VK),Inv X pins σ H s->RelV x v->Vals xs us->r x xs H Q ->
  au (aD X.prog X.w) X.A (call (.builtin id) (v::us)) (EP X pins σ Q) X.xe s
def Vals.one:∀{x:V} {us:List Value},Vals [x] us->∃u,us=[u]/\RelV x u
 | _,_,.cons r .nil=>⟨_,rfl,r⟩
def Vals.zero:∀{us:List Value},Vals [] us->us=[]
 | _,.nil=>rfl
def Vals.dropLast{xs:List V}{us:List Value}(h:Vals xs us):Vals xs.dropLast us.dropLast:=by
 induction h with
 | nil=>exact .nil
 | cons r t ih =>
   cases t with
   | nil=>exact .nil
   | cons q t'=>exact .cons r ih
def Vals.reverse{xs:List V}{us:List Value}(h:Vals xs us):Vals xs.reverse us.reverse:=by
 induction h with
 | nil=>exact .nil
 | cons r t ih=>rw[zI,zI];exact Vals.append ih (.cons r .nil)
def Vals.rep{xs:List V}{us:List Value}(h:Vals xs us):∀k:Nat,Vals (gG k xs).flatten (gG k us).flatten
 | 0=>.nil
 | k+1=>by
   rw[wM,wM,zJ,zJ]
   exact Vals.append h (Vals.rep h k)
def Vh{α:Type}(l:List α):l.eraseIdx (l.length-1)=l.dropLast:=by
 induction l with
 | nil=>rfl
 | cons a r ih =>
   cases r with
   | nil=>rfl
   | cons b r =>
     have e:(a::b::r).length-1=((b::r).length-1)+1:=by
      have h1:(a::b::r).length=r.length+2:=rfl
      have h2:(b::r).length=r.length+1:=rfl
      lia
     rw[e,List.eraseIdx_cons_succ,ih]
     all_goals rfl
def LD(its:List Value):∀(k:Nat) (acc:List Value),
 List.foldl (λx1 x2=>x1++x2) acc.toArray (gG k its.toArray)=(acc++(gG k its).flatten).toArray
 | 0,acc=>by simp
 | k+1,acc=>by
   have e:acc.toArray++its.toArray=(acc++its).toArray:=by simp
   have e2:(acc++its)++(gG k its).flatten=acc++(gG (k+1) its).flatten:=by
    rw[wM,zJ,oO]
   rw[<-e2,<-LD its k (acc++its),<-e,wM,a4t]
section
variable {X:Cx}{pins:List (Addr×Obj)}{σ:St}{H:Hp}{s:ah}{l b:Addr}{xs ys zs:List V}
def Inv.Dx{its its':List Value}{n:Nat}{f:Array Value->Array Value}{t':Nat}(I:Inv X pins σ H s)(hH:H l=some (.lst xs))
 (e:s.heap.get? l=some { cls:=.type "list",data:=.seq its.toArray n }) (hf:f its.toArray=its'.toArray) (hv:Vals ys its') (hz:ys.length<=b5) :
 Inv X pins σ (upd H l (.lst ys)) { s with heap:=s.heap.update l (wK f),toks:=t' }:=by
 have q:=PySem.IsL.update e f
 rw[hf] at q
 refine I.write (x:=l) (e:=l) (by rw[hH];exact trivial) (.inl rfl) (λb' u hb hu=>(Kd s.heap (wK f) (eA hb)).trans hu) ⟨_,q⟩ ?_
 exact⟨hz,its',_,hv,q⟩
def Inv.LF{its:List Value}{t':Nat}(I:Inv X pins σ H s)(hv:Vals ys its)(hz:ys.length<=b5) :
 Inv X pins σ (upd H s.heap.objs.size (.lst ys)) { s with heap:=s.heap.push { cls:=.type "list",data:=.seq its.toArray },toks:=t' } :=
 I.laid (λ_ _ q=>dE _ q) (a9 _) ⟨hz,its,0,hv,gf _ rfl⟩
def Inv.fresh(I:Inv X pins σ H s):H s.heap.objs.size=none:=I.aN.fresh (a9 _)
def Inv.uW(I:Inv X pins σ H s)(hH:H l=some (.lst xs)):xs.length<=b5/\∃(its:List Value) (n:Nat),Vals xs its/\xs.length=its.length/\s.heap.get? l=some { cls:=.type "list",data:=.seq its.toArray n }:=by
 obtain⟨z,its,n,r,e⟩:=I.aN l _ hH
 exact⟨z,its,n,r,r.length,e⟩
def Vi{n:Nat}(h:n<=b5):Sy n=false:=by
 unfold Sy
 exact decide_eq_false (by lia)
end
section
variable {X:Cx}
def Vj:V->List V->Hp->VK->Prop:=λx vs H Q=>∃l xs y,x = .ref l/\vs=[y]/\H l=some (.lst xs)/\xs.length<b5/\Q .cQ (upd H l (.lst (xs++[y])))
def LG:Dw X "list.append" Vj:=by
 intro pins s σ H x vs v us Q I rx rv h
 obtain⟨l,xs,y,rfl,rfl,hH,hz,q⟩:=h
 cases rx
 obtain⟨u,rfl,ru⟩:=rv.one
 obtain⟨z,its,n,r,hl,e⟩:=I.uW hH
 refine qQ F.slot_list_append ⟨_,e,rfl⟩ F.entry_list_append (F.args_list_append_2 _ _) (PySem.list_append l its.toArray n u (by rw[de];lia)) ⟨e,?_⟩
 refine⟨.cQ,_,I.Dx (its':=its++[u]) hH e (by simp) (r.append (.cons ru .nil)) ?_,rfl,q⟩
 rw[dN,Sz]
 lia
def Vk:V->List V->Hp->VK->Prop:=λx vs H Q=>∃l b xs zs,x = .ref l/\vs=[.ref b]/\H l=some (.lst xs)/\H b=some (.lst zs)/\xs.length+zs.length<=b5/\Q .cQ (upd H l (.lst (xs++zs)))
def Vl:Dw X "list.extend" Vk:=by
 intro pins s σ H x vs v us Q I rx rv h
 obtain⟨l,b,xs,zs,rfl,rfl,hH,hB,hz,q⟩:=h
 cases rx
 obtain⟨u,rfl,ru⟩:=rv.one
 cases ru
 obtain⟨z,its,n,r,hl,e⟩:=I.uW hH
 obtain⟨z2,o4,n2,r2,Au,e2⟩:=I.uW hB
 have j6:its.toArray.size+o4.toArray.size<=b5:=by rw[de,de];lia
 have Vm:¬(!its.toArray.isEmpty&&Sy (its.toArray.size+o4.toArray.size))=true:=by
  rw[Vi j6,Bool.and_false]
  exact sC
 refine qQ F.slot_list_extend ⟨_,e,rfl⟩ F.entry_list_extend (F.args_list_extend_2 _ _)
  (AutoSeq1.list_extend_list_list_0 l its.toArray n b o4.toArray n2 Vm (by rw[de];lia) (by lia)) ⟨e,e2,?_⟩
 refine⟨.cQ,_,I.Dx (its':=its++o4) hH e (by simp) (r.append r2) ?_,rfl,q⟩
 rw[dN]
 lia
def Vn:V->List V->Hp->VK->Prop:=λx vs H Q=>∃l xs y,x = .ref l/\vs=[]/\H l=some (.lst xs)/\xs[xs.length-1]? = some y/\Q y (upd H l (.lst xs.dropLast))
def Vo:Dw X "list.pop" Vn:=by
 intro pins s σ H x vs v us Q I rx rv h
 obtain⟨l,xs,y,rfl,rfl,hH,hy,q⟩:=h
 cases rx
 have Vp:=rv.zero
 subst Vp
 obtain⟨z,its,n,r,hl,e⟩:=I.uW hH
 obtain⟨u,hu,ru⟩:=r.get hy
 have Av:its.toArray[its.toArray.size-1]? = some u:=by
  show its.toArray[its.length-1]? = some u
  rw[<-SA,<-hl]
  exact hu
 refine qQ F.slot_list_pop ⟨_,e,rfl⟩ F.entry_list_pop (F.args_list_pop_1 _) (MeetsSeq.list_pop_last l its.toArray n u Av (by rw[de];lia)) ⟨e,?_⟩
 refine⟨y,_,I.Dx (its':=its.dropLast) hH e ?_ r.dropLast ?_,ru,q⟩
 ·show its.toArray.eraseIdxIfInBounds (its.toArray.size-1)=its.dropLast.toArray
  rw[de,List.eraseIdxIfInBounds_toArray,Vh]
 ·rw[a4u]
  lia
def Vq:R2:=λx y H Q=>∃l b xs zs,x = .ref l/\y = .ref b/\H l=some (.lst xs)/\H b=some (.lst zs)/\xs.length+zs.length<=b5/\∀p,H p=none->Q (.ref p) (upd H p (.lst (xs++zs)))
def Vr:fH X (iI .Add) Vq:=by
 intro pins s σ H x y v u Q I rx ry h
 obtain⟨l,b,xs,zs,rfl,rfl,hH,hB,hz,q⟩:=h
 cases rx
 cases ry
 obtain⟨z,its,n,r,hl,e⟩:=I.uW hH
 obtain⟨z2,o4,n2,r2,Au,e2⟩:=I.uW hB
 refine PySem.P.add_list e e2 ?_ (by rw[de,de];lia)
 have ea:its.toArray++o4.toArray=(its++o4).toArray:=by simp
 rw[ea]
 exact⟨.ref _,_,I.LF (t':=s.toks) (r.append r2) (by rw[dN];lia),rfl,q _ I.fresh⟩
def LH{α:Type}(xs:List α)(k:Nat):(gG k xs).flatten.length=k*xs.length:=by
 induction k with
 | zero=>simp
 | succ k ih=>rw[wM,zJ,dN,ih,Nat.succ_mul,Nat.add_comm]
end
section
variable {prog:aS}{w:aR}{A:Around}{E:Value->ah->Prop}{s:ah}
end
section
variable {X:Cx}
end
end L2
namespace LI
open PySem PySem.W PySem.Calls PyProof.Rows
def Vs{P:oP}{h:Heap}:∀(ns:List Int) (vs:List Value),WellAll P h vs (ns.map WData.int)->uC vs ns:=by
 intro ns
 induction ns with
 | nil =>
   intro vs w
   rw[pT] at w
   cases w
   exact .nil
 | cons n ns ih =>
   intro vs w
   rw[fN] at w
   cases w with
   | cons a b =>
     cases a
     exact .cons _ _ (ih _ b)
def Vt{l:OpenLaw}{n:Nat}(hn:l.most=some n){P:oP}{h:Heap}{args:List WData}{vals:List Value}
 (Aw:l.row.toRowW.claim.pre args=true) (Dy:WellAll P h vals args) :
 ∃a vs ns,vals=[fF a]/\args=[WData.list (ns.map WData.int)]/\h.get? a=some { cls:=.type "list",data:=.seq vs.toArray }/\uC vs ns/\ns.length<=n:=by
 have Vu:WShape.hasAll [] args [.list .int]=true:=(pre_splitW Aw).1
 have hc:l.pre.holds [] { args:=args }=true:=(pre_splitW Aw).2
 obtain⟨d,r,rfl,h1,h2⟩:=hasAllW_cons Vu
 obtain rfl:=hasAllW_nil h2
 obtain⟨xs,rfl,h3⟩:=hasW_list h1
 obtain⟨ns,rfl⟩:=items_int h3
 have hlen:ns.length<=n:=by
  unfold OpenLaw.pre at hc
  have h4:(WTm.not (.lt (.lit (.int (n:Int))) (.len (.arg 0)))).holds [] { args:=[.list (ns.map .int)] }=true:=by
   have h4:=(holds_andW hc).1
   rw[hn] at h4
   exact h4
  have h5:=condW_of h4 (w_not (w_lt w_lit (w_len_list (w_arg rfl))))
  rw[aX] at h5
  refine SD λq=>?_
  have q':(n:Int)<((ns.length:Nat):Int):=by lia
  first
   | (rw[decide_eq_true q'] at h5;exact absurd h5 (by decide))
   | (simp at h5;lia)
 cases Dy with
 | cons w1 w2 =>
   cases w2
   cases w1 with
   | list ho sT=>exact⟨_,_,ns,rfl,rfl,ho,Vs ns _ sT,hlen⟩
def Vv(l:OpenLaw)(args:List WData):l.row.toRowW.claim.post args (.bool true) args=true :=
 postW_of (r:=l.row.toRowW) (X:=(true==true))
  (show WShape.has [] (.bool true) .bool=true by first | rfl | decide | simp[WShape.has,WShape.arms,WShape.armsAll])
  (show(WTm.eq .res (.lit (.bool true))).value [] { args:=args,res:=some (.bool true),after:=args }=some (.bool (true==true)) from w_eq_bool (w_res rfl) w_lit) rfl
def Vw{l:OpenLaw}{n:Nat}{q:aS}{loose:List Str}{XP:(Str->Option Value)->Heap->Prop}{YP:aR->Heap->Prop}{d:DefRec}
 (hn:l.most=some n) (xF:d.params.defaults=[])
 (call:∀(w:aR) (s₀ cD:ah) (mg mb:Str->Option Value) (fa:Addr) (o:Obj) (pm cd doc:Value) (a:Addr) (vs:List Value) (ns:List Int),
   Ground q loose [] XP w s₀ mg mb cD.heap->YP w cD.heap ->
   cD.heap.get? fa=some o->o.data = .func (docDef d.name d.params d.body d.scope pm cd doc)->cD.heap.CodeRec cd d.name->mg d.name=some (.ref fa) ->
   cD.heap.get? a=some { cls:=.type "list",data:=.seq vs.toArray }->uC vs ns->ns.length<=n->cD.gens=#[] ->
   jl (aD l.prog w) uD (.call (.ref fa) ⟨[.ref a],[]⟩) (λr s'=>r = .ok (.ret (.bool true))/\OldK cD.heap s'.heap/\s'.os=cD.os/\nR s'.gens) cD) :
 WalkO q loose XP YP l.row.toRowW d [] (λf vs=>SE f vs):=by
 intro w s₀ cD mg mb G Y fa o pm cd doc dV kV ho hd dY hD p_ hg args vals as Aw a7u hrd Dy hlo
 obtain rfl:dV = .none:=Dflts.none hD xF
 obtain rfl:kV = .none:=Dflts.noKw hD
 obtain⟨a,vs,ns,rfl,rfl,Dz,hints,hlen⟩:=Vt hn Aw Dy
 refine enter_call (qR (call w s₀ cD mg mb fa o pm cd doc a vs ns G Y ho (fd_plain hd) dY p_ Dz hints hlen hg) λr s' hq=>?_)
 obtain⟨rfl,h2,h3,h4⟩:=hq
 exact⟨.inl ⟨.bool true,.bool true,[],rfl,λ_=>rfl,.bool true,Vv l _,λ_=>⟨List.Pairwise.nil,λ_ hm=>(nomatch hm)⟩⟩,h2,h3,h4⟩
section
variable {prog:aS}{w:aR}{A:Around}{E:Value->ah->Prop}{s:ah}{K:Frag}
end
end LI
namespace L2
open PySem PySem.Spec PyProof.Rows
def LJ:∀{vs:List Value} {ns:List Int},uC vs ns->Vals (ns.map V.int) vs
 | _,_,.nil=>.nil
 | _,_,.cons n t h=>.cons ⟨t,rfl⟩ (LJ h)
def DA(H:Hp):Prop:=∀b,H b=none∨∃o xs,H b=some (.gX o (.lst xs))
def Vx{P:aS}{w:aR}{K:aE}{mg mb:Str->Option Value}{CX:lO}{k:Nat}{fa a:Addr}{fd:cB}{x:Str}{sp:Sp}{cD:ah}{vs:List Value}{ns:List Int}
 (KX:K.In cD.heap) (mO:cD.heap.Ns dw mg) (hb:cD.heap.Ns R6 mb) (Vy:∀x:Str,x≠"__name__"->mb x=lA x) (Vz:cD.heap.NoLimit) (hg:cD.gens=#[])
 (ha:cD.heap.get? a=some { cls:=.type "list",data:=.seq vs.toArray }) (hi:uC vs ns) (hl:ns.length<=b5) (hr:dO k uD)
 (F:∀base:Heap,K.In base->base.Ns dw mg->jH P w K mg base CX k fa fd [x] sp) (VA:∀(s:ah) (u:Value),BindsTo s fd ⟨[u],[]⟩ [(x,u)])
 (eE:∀H:Hp,DA H->cA K H a (ns.map V.int)->sp [.ref a] H (λv _=>v = .bl true) λ_ _ _=>False)
 (xG:∀H e s',CX [] H cD (λ_ _ _=>False) e s'->False) :
 jl (aD P w) uD (.call (.ref fa) ⟨[.ref a],[]⟩) (λr s'=>r = .ok (.ret (.bool true))/\OldK cD.heap s'.heap/\s'.os=cD.os/\nR s'.gens) cD:=by
 have rv:=LJ hi
 have VB:=hi.length
 have core:∀H:Hp,DA H->cA K H a (ns.map V.int)->eB P w H cD.heap->(∀b,H b≠none->b=a)->(H a≠none->K.lookup a=none) ->
  jl (aD P w) uD (.call (.ref fa) ⟨[.ref a],[]⟩) (λr s'=>r = .ok (.ret (.bool true))/\OldK cD.heap s'.heap/\s'.os=cD.os/\nR s'.gens) cD:=by
  intro H hO hS aN hA hK
  have LK:∀{b:Addr} {o:Obj},cD.heap.get? b=some o->H b=none->(j0 cD.heap H).get? b=some o:=λe n=>De e n
  have xC:∀{b:Addr} {o:Obj} {es:Array SF} {ep:Nat},cD.heap.get? b=some o->o.data = .dict es ep->H b=none:=λ{b o es ep} e d=>by
   cases q:H b with
   | none=>rfl
   | some u =>
     have e':b=a:=hA b (by rw[q];simp)
     subst e'
     rw[ha] at e;cases e
     have d':Data.seq vs.toArray _=Data.dict es ep:=d
     cases d'
  have Ax:∀{b:Addr} {m:Str->Option Value},cD.heap.Ns b m->(j0 cD.heap H).Ns b m:=λ{b m} ⟨o,es,ep,e,d,r⟩=>⟨o,es,ep,LK e (xC e d),d,r⟩
  have LL:K.In (j0 cD.heap H):=λb o e=>LK (KX b o e) (by
   cases q:H b with
   | none=>rfl
   | some u =>
     have e':b=a:=hA b (by rw[q];simp)
     subst e'
     rw[hK (by rw[q];simp)] at e;cases e)
  have hM:Mod K mg (j0 cD.heap H):=⟨LL,Ax mO,⟨mb,Ax hb,Vy⟩,let ⟨mc,h1,h2⟩:=Vz;⟨mc,Ax h1,h2⟩⟩
  have e0:uU P w K mg (j0 cD.heap H) uD [] cD H:=⟨rfl,hM,λb o e=>Df e,Nat.le_of_eq (T9 _ _),trivial,λb hb=>absurd (show b∈([]:List Addr) from hb) (by simp),aN,.of_eq hg⟩
  refine qR ((F _ LL (Ax mO)).run uD [] cD H ⟨[.ref a],[]⟩ [.ref a] [.ref a] _ _ hr e0 (VA cD (.ref a)) (.cons rfl .nil) (eE H hO hS)) λr s' h=>?_
  cases r with
  | error e=>exact(xG H e s' h).elim
  | ok fl =>
    cases fl with
    | next=>exact cx h
    | brk=>exact cx h
    | cont=>exact cx h
    | ret u =>
      obtain⟨v,H',os,bare,un,VC,r',q⟩:=h
      have q':v = .bl true:=q
      subst q'
      obtain rfl:u=CF true:=r'
      refine⟨rfl,OldK.of_keep λb o e=>?_,os,bare⟩
      cases q:H b with
      | none=>exact un.keep b o e q (by intro z;exact absurd (show b∈([]:List Addr) from z) (by simp)) (by simp)
      | some u =>
        rcases hO b with z | ⟨ob,xs,z⟩
        ·rw[q] at z;cases z
        ·have z2:=un.kj b ob _ z
         obtain⟨e1,_⟩:=aN b _ z
         obtain⟨e2,_⟩:=VC b _ z2
         rw[e] at e1;cases e1
         exact e2
 cases hk:K.lookup a with
 | some o =>
   have e:=KX a o hk
   rw[ha] at e
   cases e
   refine core (λ_=>none) (λ_=>.inl rfl) (.inr ⟨_,vs.toArray,_,hk,rfl,rfl,rfl,by rw[de,VB];exact hl,by simpa using rv⟩) (λb u z=>by have z':(none:Option HO)=some u:=z;cases z') (λb z=>absurd rfl z) λz=>absurd rfl z
 | none =>
   refine core (λb=>if b=a then some (.gX { cls:=.type "list",data:=.seq vs.toArray } (.lst (ns.map V.int))) else none) (λb=>?_) (.inl (.inr ⟨{ cls:=.type "list",data:=.seq vs.toArray },if_pos rfl⟩)) (λb u z=>?_) (λb z=>?_) λ_=>hk
   ·by_cases hb:b=a
    ·exact .inr ⟨_,_,if_pos hb⟩
    ·exact .inl (if_neg hb)
   ·by_cases hb:b=a
    ·have z':=(if_pos hb).symm.trans z
     cases z'
     subst hb
     exact⟨ha,by rw[aX];exact hl,vs,_,rv,ha⟩
    ·have z':=(if_neg hb).symm.trans z
     cases z'
   ·by_cases hb:b=a
    ·exact hb
    ·exact absurd (if_neg hb) z
end L2
namespace L2
open PySem PySem.Spec PyProof.Rows
abbrev LM {K:aE} {h:Heap} (_:K.In h):aE:=K
def LN{l:a4v}{n k:Nat}{q:aS}{loose:List Str}{XP:(Str->Option Value)->Heap->Prop}{YP:aR->Heap->Prop}{d:DefRec}{K:oP->aE}{CX:aR->lO}{sp:aR->Sp}{x:Str}
 (hn:l.most=some n) (Ay:n<=b5) (xF:d.params.defaults=[]) (hr:dO k uD)
 (hY:∀(w:aR) (h:Heap),YP w h->(K w.params).In h)
 (F:∀(w:aR) (mg:Str->Option Value) (fa:Addr) (h:Heap),(K w.params).In h->h.Ns dw mg->mg d.name=some (.ref fa) ->
   ∃fd:cB,(∀(s:ah) (u:Value),BindsTo s fd ⟨[u],[]⟩ [(x,u)]) /\
    ∀base:Heap,(K w.params).In base->base.Ns dw mg->jH l.prog w (K w.params) mg base (CX w) k fa fd [x] (sp w))
 (eE:∀(w:aR) (H:Hp) (a:Addr) (ns:List Int),ns.length<=n->DA H->cA (K w.params) H a (ns.map V.int)->sp w [.ref a] H (λv _=>v = .bl true) λ_ _ _=>False)
 (xG:∀(w:aR) (H:Hp) (s:ah) (e:Value) (s':ah),CX w [] H s (λ_ _ _=>False) e s'->False) :
 PySem.W.WalkO q loose XP YP l.row.toRowW d [] (λf vs=>SE f vs):=by
 refine LI.Vw hn xF λw s₀ cD mg mb fa o pm cd doc a vs ns G Y ho hd dY p_ Dz hints hlen hg=>?_
 have KX:=hY w _ Y
 obtain⟨fd,hb,hF⟩:=F w mg fa _ KX G.T.g p_
 exact Vx KX G.T.g G.T.b G.T.builtins G.T.nolimit hg Dz hints (fG hlen Ay) hr hF hb (λH hO hS=>eE w H a ns hlen hO hS) λH e s'=>xG w H cD e s'
end L2
/- THE a7v a7w (shape;LID,My.* are a7x):
   My.Adr: a structure of the addresses a7y a7z a8a names (classes,a8b);My.Txt K t: a structure (Prop) of the equations over K;
   My.VD:{K} {implicit addresses ..} (e1:nsIn K dw "law"=some (some (.ref f))) (e2:K.lookup f=some ⟨oc,od,.func (fnOf "law" "law" params body scope dV kV doc pm an a_ ct),sl⟩) (e3:codeIn K a_ "law"=true) ..:∃t,My.Txt K t
set_option maxRecDepth 100000 in
set_option maxHeartbeats 0 in
theorem PySem.Challenge.cw_LID_holds : PySem.Challenge.rw_LID.Holds := by
 w_on;o_law;k_head;(case hw=>w_witness2)
 k_fill
 refine L2.LN (l:=PySem.Challenge.rw_LID) (n:=63) (k:=40) (x:="script") (CX:=λw=>..) (sp:=λ_=>My.a8c) rfl (by decide) rfl ⟨rfl,by decide,by decide⟩ (λw h Y=>PySem.W.kIn_of Y) ?F ?S ?C
 case F =>
  intro w mg fa h KX G p_
  have T:∃t,My.Txt (L2.LM KX) t:=by
   dsimp only[L2.LM]                          -- K a8d stand as «<heap const> w.params» for k_is
   refine' My.VD ?e1 ?e2 ?e3 ..
   (case e1=>PySem.W.k_is)                    -- in the order: a name->its address->its object->its parts
   (case e2=>PySem.W.k_is)
   ..
  obtain⟨t,T⟩:=T
  have e0:=p_.symm.trans (sD KX G T.law)
  cases e0                                       -- fa is the a8e own address
  exact⟨_,λs u=>.of_eq rfl,λbase kb nb=>My.VE T kb nb⟩     -- if «.of_eq rfl» comes too early: refine' ⟨_,?b,λbase kb nb=>My.VE T kb nb⟩;exact λs u=>.of_eq rfl
 case S=>exact λw H a ns hl hO hS=>..
 case C=>exact ..
(the tactic k_is has no namespace: write k_is) -/
namespace L2
open PySem PySem.Spec PyProof.Rows
def xH(s:Stmt):Arguments:=match s with
 | .FunctionDef _ a _ _ _ _ _ _ _ _=>a
 | _=>{ posonlyargs:=[],args:=[],vararg:=none,kwonlyargs:=[],kw_defaults:=[],kwarg:=none,defaults:=[] }
def kO(s:Stmt):List Stmt:=match s with
 | .FunctionDef _ _ b _ _ _ _ _ _ _=>b
 | _=>[]
def ig(s:Stmt):dz:=match s with
 | .FunctionDef _ _ _ _ _ _ sc _ _ _=>sc
 | _=>{ kind:=.function,names:=[],isGenerator:=false,isCoroutine:=false }
structure mP (K:aE) (x qual:Str) (st:Stmt) (f:Addr) (fd:cB):Prop where
 ex:∃(oc:Value) (od:Option Addr) (kV doc pm:Value) (an:Option Addr) (a_ ct:Value) (p9:Array (Option Value)),
  fd=CI x qual (xH st) (kO st) (ig st) .none kV doc pm an a_ ct/\K.lookup f=some ⟨oc,od,.func fd,p9⟩/\JZ K a_ qual=true
 kp:wG K (.ref f)=true
section
variable {P:aS}{w:aR}{K:aE}{mg:Str->Option Value}{base:Heap}
def mP.binds{x qual:Str}{st:Stmt}{f:Addr}{fd:cB}{ps:List Str}(F:mP K x qual st f fd)
 (h:∀(kV doc pm:Value) (an:Option Addr) (a_ ct:Value) (us:List Value),us.length=ps.length->Se (CI x qual (xH st) (kO st) (ig st) .none kV doc pm an a_ ct) ⟨us,[]⟩=pure (ps.zip us)):km K fd ps []:=by
 obtain⟨oc,od,kV,doc,pm,an,a_,ct,p9,rfl,lk,dY⟩:=F.ex
 exact .all (h kV doc pm an a_ ct)
end
def VF{n:Nat}(h:n<=1000):n<b5:=Kf h (by decide)
section
variable {X:Cx}
end
def aO(H H':Hp):Prop:=∀b o,H b=some o->H' b=some o
def aO.refl(H:Hp):aO H H:=λ_ _ h=>h
def aO.trans{H H1 H2:Hp}(a:aO H H1)(b:aO H1 H2):aO H H2:=λc o h=>b c o (a c o h)
def aO.free{H H':Hp}(e:aO H H'){l:Addr}(h:H' l=Option.none):H l=Option.none:=by
 cases q:H l with
 | none=>rfl
 | some o =>
   rw[e l o q] at h
   cases h
def aO.seq{K:aE}{H H':Hp}{a:Addr}{xs:List V}(e:aO H H')(h:cA K H a xs):cA K H' a xs:=by
 rcases h with (h | ⟨o,h⟩) | h
 ·exact .inl (.inl (e _ _ h))
 ·exact .inl (.inr ⟨o,e _ _ h⟩)
 ·exact .inr h
end L2
namespace L3
open PySem
noncomputable section
inductive Er where
 | qc | o5 | kP | tooLong | gO | dZ
 deriving DecidableEq
def Er.nm:Er->Str
 | .qc=>"NoPrime" | .o5=>"NoNumber" | .kP=>"NoProgram" | .tooLong=>"TooLong" | .gO=>"Lossy" | .dZ=>"NoText"
inductive D where
 | cQ | bl (b:Bool) | int (i:Int) | str (x:Str) | tup (ds:List D) | lst (ds:List D) | kn | exc (c:Er)
mutual
def D.cE:D->Bool
 | .lst _=>false
 | .kn=>false
 | .tup ds=>D.bC ds
 | _=>true
def D.bC:List D->Bool
 | []=>true
 | d::ds=>d.cE&&D.bC ds
end
def VG:D.bC []=true:=by unfold D.bC;rfl
def DB:∀ds:List D,D.bC ds=ds.all D.cE
 | []=>by unfold D.bC;rfl
 | d::ds=>by unfold D.bC;rw[DB ds];rfl
def Az(i:Int):D.cE (.int i)=true:=by simp[D.cE]
def LO(i:Bool):D.cE (.bl i)=true:=by simp[D.cE]
def VH(i:Str):D.cE (.str i)=true:=by simp[D.cE]
def VI:D.cE .cQ=true:=by simp[D.cE]
def LP(ds:List D):D.cE (.tup ds)=D.bC ds:=by simp[D.cE]
def VJ{ds:List D}(h:∀d∈ds,d.cE=true):D.bC ds=true:=by rw[DB,mF];exact h
def VL{ds:List D}(h:D.bC ds=true){d:D}(hd:d∈ds):d.cE=true:=by rw[DB,mF] at h;exact h d hd
def xI{α:Type}{f:α->D}{l:List α}(h:∀x∈l,(f x).cE=true):D.bC (l.map f)=true:=VJ λd hd=>by
 obtain⟨x,hx,rfl⟩:=List.mem_map.mp hd;exact h x hx
def jI(ns:List Int):D.bC (ns.map D.int)=true:=xI λ_ _=>Az _
def AA(ns:List Int):D.cE (.tup (ns.map D.int))=true:=by rw[LP];exact jI ns
inductive R (α:Type) where
 | no | ok (a:α) | er (c:Er)
def R.bind{α β:Type}(r:R α)(k:α->R β):R β:=match r with
 | .no=>.no
 | .ok a=>k a
 | .er c=>.er c
instance:Monad R where
 pure:=R.ok
 bind:=R.bind
@[simp] theorem R.VM {α β:Type} (k:α->R β):(R.no>>=k)=R.no:=rfl
@[simp] theorem R.cz {α β:Type} (a:α) (k:α->R β):(R.ok a>>=k)=k a:=rfl
@[simp] theorem R.VN {α β:Type} (c:Er) (k:α->R β):(R.er c>>=k)=R.er c:=rfl
@[simp] theorem R.a8f {α:Type} (a:α):(pure a:R α)=R.ok a:=rfl
def R.left{α β:Type}{r:R α}{k:α->R β}(h:(r>>=k) ≠ .no):r ≠ .no:=λe=>h (by rw[e];rfl)
def R.next{α β:Type}{r:R α}{k:α->R β}{a:α}(h:(r>>=k) ≠ .no)(e:r = .ok a):k a ≠ .no:=by
 rw[e] at h;exact h
def R.step{α β:Type}{r:R α}{a:α}(e:r = .ok a)(k:α->R β):(r>>=k)=k a:=by rw[e];rfl
def R.stop{α β:Type}{r:R α}{c:Er}(e:r = .er c)(k:α->R β):(r>>=k) = .er c:=by rw[e];rfl
def R.guard{α:Type}(p:Prop)(r:R α):R α:=@ite _ p (Classical.propDecidable p) r .no
def R.guard_pos{α:Type}{p:Prop}{r:R α}(h:p):R.guard p r=r:=if_pos h
def R.cU{α:Type}{p:Prop}{r:R α}(h:R.guard p r ≠ .no):p/\R.guard p r=r:=by
 unfold R.guard at h ⊢
 by_cases q:p
 ·exact⟨q,if_pos q⟩
 ·rw[if_neg q] at h;exact absurd rfl h
def VO{α:Type}{r:R α}:R.guard True r=r:=R.guard_pos trivial
def bH{α:Type}{p:Prop}{r:R α}(h:p):R.guard p r=r:=R.guard_pos h
inductive En where
 | no | ro (d:D) | own (ds:List D)
abbrev G:=List En
def lk(Γ:G)(i:Nat):R D:=match Γ[i]? with
 | some (.ro d)=>.ok d
 | some (.own ds)=>.ok (.lst ds)
 | _=>.no
def o6(Γ:G)(i:Nat):R D:=match Γ[i]? with
 | some (.ro d)=>.ok d
 | _=>.no
def VP{Γ:G}{i:Nat}(h:lk Γ i ≠ .no):∃d,lk Γ i = .ok d:=by
 cases e:lk Γ i with
 | no=>exact absurd e h
 | ok d=>exact⟨d,rfl⟩
 | er c =>
   unfold lk at e
   cases q:Γ[i]? with
   | none=>rw[q] at e;cases e
   | some en=>rw[q] at e;cases en<;>cases e
def VQ{Γ:G}{i:Nat}(h:o6 Γ i ≠ .no):∃d,o6 Γ i = .ok d:=by
 cases e:o6 Γ i with
 | no=>exact absurd e h
 | ok d=>exact⟨d,rfl⟩
 | er c =>
   unfold o6 at e
   cases q:Γ[i]? with
   | none=>rw[q] at e;cases e
   | some en=>rw[q] at e;cases en<;>cases e
def fP(d:D)(Γ:G):lk (En.ro d::Γ) 0 = .ok d:=rfl
def uX(ds:List D)(Γ:G):lk (En.own ds::Γ) 0 = .ok (.lst ds):=rfl
def gY(e:En)(Γ:G)(i:Nat):lk (e::Γ) (i+1)=lk Γ i:=rfl
def VR(d:D)(Γ:G):o6 (En.ro d::Γ) 0 = .ok d:=rfl
def VS(e:En)(Γ:G)(i:Nat):o6 (e::Γ) (i+1)=o6 Γ i:=rfl
def gV(i:Nat):G->R D:=λΓ=>lk Γ i
def df(i:Nat):G->R D:=λΓ=>o6 Γ i
def gC(d:D):G->R D:=λ_=>.ok d
def aG(g:G->R D):G->R D:=λΓ=>g Γ>>=λd=>R.guard (d.cE=true) (.ok d)
def gL(g:G->R (List D)):G->R D:=λΓ=>g Γ>>=λds=>.ok (.lst ds)
def aj(g:D->D->R D)(ga gb:G->R D):G->R D:=λΓ=>ga Γ>>=λx=>gb Γ>>=λy=>g x y
def rj(d:D):R Bool:=match d with
 | .bl b=>.ok b
 | _=>.no
def DC{d:D}(h:rj d ≠ .no):∃b,d = .bl b/\rj d = .ok b:=by
 cases d<;>first | exact⟨_,rfl,rfl⟩ | exact absurd rfl h
def AB(b:Bool):rj (.bl b) = .ok b:=rfl
def gT(g:G->R D):G->R Bool:=λΓ=>g Γ>>=rj
def jt(ga gb:G->R Bool):G->R Bool:=λΓ=>ga Γ>>=λk=>if k=true then gb Γ else .ok false
def jJ(ga gb:G->R Bool):G->R Bool:=λΓ=>ga Γ>>=λk=>if k=true then .ok true else gb Γ
def jK(ga:G->R Bool):G->R Bool:=λΓ=>ga Γ>>=λk=>.ok (!k)
def kQ(ga gb:G->R D):G->R D:=λΓ=>ga Γ>>=λd=>rj d>>=λk=>if k=true then gb Γ else .ok (.bl false)
def DD(ga:G->R D):G->R D:=λΓ=>ga Γ>>=λd=>rj d>>=λk=>.ok (.bl (!k))
def AD(d:D):R D:=match d with | .int i=>.ok (.int (-i)) | _=>.no
def kR(ga:G->R D):G->R D:=λΓ=>ga Γ>>=AD
def DE(gc:G->R Bool)(ga gb:G->R D):G->R D:=λΓ=>gc Γ>>=λk=>if k=true then ga Γ else gb Γ
def ao:G->R (List D):=λ_=>.ok []
def ae(g:G->R D)(gs:G->R (List D)):G->R (List D):=λΓ=>g Γ>>=λd=>gs Γ>>=λds=>.ok (d::ds)
def LQ(ns:List Int):G->R (List D):=λ_=>.ok (ns.map D.int)
def d_(gs:G->R (List D)):G->R D:=λΓ=>gs Γ>>=λds=>R.guard (ds.length<=1000) (.ok (.tup ds))
def b_(gs:G->R (List D)):G->R (List D):=λΓ=>gs Γ>>=λds=>R.guard (ds.length<=1000/\D.bC ds=true) (.ok ds)
def mQ(i:Int):Prop:=-18446744073709551616<i/\i<18446744073709551616
instance (i:Int):Decidable (mQ i):=by unfold mQ;exact inferInstance
def sU(i j:Int):Prop:=mQ i∨mQ j
instance (i j:Int):Decidable (sU i j):=by unfold sU;exact inferInstance
def uY(j:Int):Prop:=-4611686018427387904<=j/\j<4611686018427387904
instance (j:Int):Decidable (uY j):=by unfold uY;exact inferInstance
def DG{j:Int}(h:-4611686018427387904<=j/\j<4611686018427387904):uY j:=h
def DH{j:Int}(h:-18446744073709551616<j/\j<18446744073709551616):mQ j:=h
def VT{i j:Int}(h:mQ i):sU i j:=.inl h
def VU{i j:Int}(h:mQ j):sU i j:=.inr h
def dm(x y:D):R D:=match x,y with
 | .int i,.int j=>.ok (.int (i+j))
 | .tup xs,.tup ys=>R.guard (xs.length+ys.length<=1000) (.ok (.tup (xs++ys)))
 | _,_=>.no
def kS(x y:D):R D:=match x,y with
 | .int i,.int j=>.ok (.int (i-j))
 | _,_=>.no
def jL(x y:D):R D:=match x,y with
 | .int i,.int j=>R.guard (sU i j) (.ok (.int (i*j)))
 | .tup xs,.int j=>R.guard (0<=j/\j<1000000/\xs.length*j.toNat<=1000) (.ok (.tup (gG j.toNat xs).flatten))
 | _,_=>.no
def fV(x y:D):R D:=match x,y with
 | .int i,.int j=>R.guard (0<j/\j<1073741824) (.ok (.int (i/j)))
 | _,_=>.no
def cM(x y:D):R D:=match x,y with
 | .int i,.int j=>R.guard (0<j) (.ok (.int (i%j)))
 | _,_=>.no
def o7(x y:D):R D:=match x,y with
 | .int i,.int j=>R.guard (0<=j/\j<=1000000/\i.natAbs<18446744073709551616) (.ok (.int (i^j.toNat)))
 | _,_=>.no
def rk(x y:D):R D:=match x,y with
 | .int i,.int j=>.ok (.bl (decide (i<j)))
 | _,_=>.no
def qd(x y:D):R D:=match x,y with
 | .int i,.int j=>.ok (.bl (decide (i<=j)))
 | _,_=>.no
def o8(x y:D):R D:=match x,y with
 | .int i,.int j=>.ok (.bl (decide (j<i)))
 | _,_=>.no
def xJ(x y:D):R D:=match x,y with
 | .int i,.int j=>.ok (.bl (decide (j<=i)))
 | _,_=>.no
def dn(x:Str):Bool:=x.cps.all (·<0x110000)
mutual
def D.lay:Nat->D->Bool
 | n+1,.tup ds=>D.mR n ds
 | n+1,.lst ds=>D.mR n ds
 | 0,.tup _=>false
 | 0,.lst _=>false
 | _,.kn=>false
 | _,.exc _=>false
 | _,.str x=>dn x
 | _,_=>true
def D.mR:Nat->List D->Bool
 | _,[]=>true
 | n,d::ds=>D.lay n d&&D.mR n ds
end
def D.DI(n:Nat):∀ds:List D,D.mR n ds=ds.all (D.lay n)
 | []=>by unfold D.mR;rfl
 | d::ds=>by unfold D.mR;rw[D.DI n ds];rfl
def DJ(n:Nat)(i:Int):D.lay n (.int i)=true:=by cases n<;>simp[D.lay]
def VV(n:Nat)(i:Bool):D.lay n (.bl i)=true:=by cases n<;>simp[D.lay]
def lQ(n:Nat)(x:Str):D.lay n (.str x)=dn x:=by cases n<;>simp[D.lay]
def xK(n:Nat)(ds:List D):D.lay (n+1) (.tup ds)=ds.all (D.lay n):=by rw[D.lay,D.DI]
def DK(n:Nat)(ds:List D):D.lay (n+1) (.lst ds)=ds.all (D.lay n):=by rw[D.lay,D.DI]
def DL(n:Nat)(ns:List Int):D.lay (n+1) (.tup (ns.map D.int))=true:=by
 rw[xK,CK,mF];intro x _;exact DJ n x
mutual
def bO:D->D->Bool
 | .cQ,y=>(match y with | .cQ=>true | _=>false)
 | .bl a,y=>(match y with | .bl b=>a==b | .int j=>(if a then 1 else 0)==j | _=>false)
 | .int i,y=>(match y with | .bl b=>i==(if b then 1 else 0) | .int j=>i==j | _=>false)
 | .str x,y=>(match y with | .str z=>x==z | _=>false)
 | .tup xs,y=>(match y with | .tup ys=>lR xs ys | _=>false)
 | .lst xs,y=>(match y with | .lst ys=>lR xs ys | _=>false)
 | .kn,_=>false
 | .exc _,_=>false
def lR:List D->List D->Bool
 | [],[]=>true
 | x::xs,y::ys=>bO x y&&lR xs ys
 | [],_::_=>false
 | _::_,[]=>false
end
def VW(i j:Int):bO (.int i) (.int j)=(i==j):=by rw[bO]
def VX(i j:Bool):bO (.bl i) (.bl j)=(i==j):=by rw[bO]
def z7a(i j:Str):bO (.str i) (.str j)=(i==j):=by rw[bO]
mutual
def D.pl:D->Bool
 | .bl _=>false
 | .kn=>false
 | .exc _=>false
 | .tup ds=>D.lS ds
 | .lst ds=>D.lS ds
 | _=>true
def D.lS:List D->Bool
 | []=>true
 | d::ds=>d.pl&&D.lS ds
end
def DM:∀ds:List D,D.lS ds=ds.all D.pl
 | []=>by unfold D.lS;rfl
 | d::ds=>by unfold D.lS;rw[DM ds];rfl
def LR(i:Int):D.pl (.int i)=true:=by simp[D.pl]
def LS(ds:List D):D.pl (.tup ds)=ds.all D.pl:=by rw[D.pl,DM]
def LU(ds:List D):D.pl (.lst ds)=ds.all D.pl:=by rw[D.pl,DM]
def LV(ns:List Int):D.pl (.tup (ns.map D.int))=true:=by
 rw[LS,CK,mF];intro x _;exact LR x
mutual
def AE:∀(x y:D),x.pl=true->y.pl=true->(bO x y=true↔x=y)
 | .cQ,y,_,hy=>by cases y<;>simp_all [bO,D.pl]
 | .bl _,y,hx,hy=>by simp[D.pl] at hx
 | .int i,y,_,hy=>by cases y<;>simp_all [bO,D.pl]
 | .str i,y,_,hy=>by cases y<;>simp_all [bO,D.pl]
 | .kn,y,hx,hy=>by simp[D.pl] at hx
 | .exc _,y,hx,hy=>by simp[D.pl] at hx
 | .tup xs,y,hx,hy=>by
   cases y with
   | tup ys=>rw[bO,DN xs ys (by simpa [D.pl] using hx) (by simpa [D.pl] using hy)];simp
   | _=>simp_all [bO,D.pl]
 | .lst xs,y,hx,hy=>by
   cases y with
   | lst ys=>rw[bO,DN xs ys (by simpa [D.pl] using hx) (by simpa [D.pl] using hy)];simp
   | _=>simp_all [bO,D.pl]
def DN:∀(xs ys:List D),D.lS xs=true->D.lS ys=true->(lR xs ys=true↔xs=ys)
 | [],[],_,_=>by simp[lR]
 | [],y::ys,_,_=>by simp[lR]
 | x::xs,[],_,_=>by simp[lR]
 | x::xs,y::ys,hx,hy=>by
   have uZ:x.pl=true/\D.lS xs=true:=by simpa [D.lS] using hx
   have Av:y.pl=true/\D.lS ys=true:=by simpa [D.lS] using hy
   rw[lR,i0,AE x y uZ.1 Av.1,DN xs ys uZ.2 Av.2];simp
end
def sV{x:D}(h:x.pl=true):bO x x=true:=(AE x x h h).mpr rfl
def DO{x y:D}(hx:x.pl=true)(hy:y.pl=true){p:Prop}[Decidable p](h:x=y↔p):bO x y=decide p:=by
 by_cases q:p
 ·rw[decide_eq_true q];exact(AE x y hx hy).mpr (h.mpr q)
 ·rw[decide_eq_false q]
  cases e:bO x y with
  | false=>rfl
  | true=>exact absurd (h.mp ((AE x y hx hy).mp e)) q
def cS(x y:D):R D:=R.guard (D.lay 40 x=true/\D.lay 40 y=true) (.ok (.bl (bO x y)))
def eG(x y:D):R D:=R.guard (D.lay 40 x=true/\D.lay 40 y=true) (.ok (.bl (!bO x y)))
def jr(n:Nat)(i:Int):Option Nat:=if 0<=i then (if i<n then some i.toNat else none) else if -(n:Int)<=i then some (i+n).toNat else none
def c5{α:Type}(xs:List α)(i:Int):Option α:=(jr xs.length i).bind λj=>xs[j]?
def rm{α:Type}{ds:List α}(i:Nat):c5 ds (i:Int)=ds[i]?:=by
 unfold c5 jr
 rw[if_pos (by lia)]
 by_cases h:(i:Int)<ds.length
 ·rw[if_pos h];simp
 ·rw[if_neg h]
  have:ds.length<=i:=by lia
  rw[jY this];rfl
def AF{α:Type}{ds:List α}{i:Int}(h:0<=i):c5 ds i=ds[i.toNat]?:=by
 obtain⟨n,rfl⟩:∃n:Nat,i=(n:Int):=⟨i.toNat,by lia⟩
 rw[rm];rfl
def VY{α:Type}{ds:List α}{i:Int}(h:i<0)(h2:-(ds.length:Int)<=i):c5 ds i=ds[(i+ds.length).toNat]?:=by
 unfold c5 jr
 rw[if_neg (by lia),if_pos h2];rfl
def DP{α:Type}(a:α)(ds:List α):c5 (a::ds) 0=some a:=rm 0
def LW{α:Type}(a b:α)(ds:List α):c5 (a::b::ds) 1=some b:=rm 1
def LX{α:Type}(a b c:α)(ds:List α):c5 (a::b::c::ds) 2=some c:=rm 2
def VZ{α:Type}(a b c d:α)(ds:List α):c5 (a::b::c::d::ds) 3=some d:=rm 3
def aF(x y:D):R D:=match x,y with
 | .tup ds,.int i=>(match c5 ds i with | some d=>.ok d | none=>.no)
 | .lst ds,.int i=>(match c5 ds i with | some d=>.ok d | none=>.no)
 | _,_=>.no
def bJ(n d:Nat):Option Int->Nat
 | none=>d
 | some v=>if v<0 then (v+(n:Int)).toNat else min v.toNat n
def LY(n d:Nat):bJ n d none=d:=rfl
def LZ(n d k:Nat):bJ n d (some (k:Int))=min k n:=by
 show(if (k:Int)<0 then ((k:Int)+(n:Int)).toNat else min (k:Int).toNat n)=min k n
 rw[if_neg (by lia),mG]
def gP{α:Type}(xs:List α)(lo hi:Option Int):List α:=(xs.drop (bJ xs.length 0 lo)).take (bJ xs.length xs.length hi-bJ xs.length 0 lo)
def kT:G->R (Option Int):=λ_=>.ok none
def L5(d:D):R (Option Int):=match d with | .int i=>.ok (some i) | _=>.no
def j7(g:G->R D):G->R (Option Int):=λΓ=>g Γ>>=L5
def AG(d:D)(lo hi:Option Int):R D:=match d with
 | .tup xs=>.ok (.tup (gP xs lo hi))
 | .lst xs=>.ok (.lst (gP xs lo hi))
 | _=>.no
def kU(ga:G->R D)(lo hi:G->R (Option Int)):G->R D:=λΓ=>ga Γ>>=λd=>lo Γ>>=λl=>hi Γ>>=λh=>AG d l h
def AH(d:D)(lo hi:Option Int):R (List D):=match d with
 | .lst xs=>R.guard (D.bC (gP xs lo hi)=true) (.ok (gP xs lo hi))
 | _=>.no
def DQ(ga:G->R D)(lo hi:G->R (Option Int)):G->R (List D):=λΓ=>ga Γ>>=λd=>lo Γ>>=λl=>hi Γ>>=λh=>AH d l h
def V0{α β:Type}(f:α->β)(xs:List α)(lo hi:Option Int):gP (xs.map f) lo hi=(gP xs lo hi).map f:=by
 unfold gP;rw[aX,zK,wN]
def u0{α:Type}(xs:List α)(k:Nat):gP xs (some (k:Int)) none=xs.drop k:=by
 unfold gP
 rw[LY,LZ]
 by_cases h:k<=xs.length
 ·rw[SG h,zL (by rw[pS];lia)]
 ·rw[a4w (by lia),Kg,List.drop_of_length_le (by lia)];simp
def AI{α:Type}(xs:List α)(k:Nat):gP xs none (some (k:Int))=xs.take k:=by
 unfold gP
 rw[LY,LZ,SH,zM]
 by_cases h:k<=xs.length
 ·rw[SG h]
 ·rw[a4w (by lia),wO,zL (by lia)]
inductive Cl where
 | qc | o5 | kP | tooLong | gO | dZ | V1 | xM
def rn(c:Er)(k:Cl):Bool:=match c,k with
 | _,.V1=>true
 | _,.xM=>true
 | .qc,.qc=>true
 | .o5,.o5=>true
 | .kP,.kP=>true
 | .tooLong,.tooLong=>true
 | .gO,.gO=>true
 | .dZ,.dZ=>true
 | _,_=>false
def L6(ks:List Cl)(d:D):R D:=match d with
 | .exc c=>.ok (.bl (ks.any (rn c)))
 | _=>.no
def rp(i:Nat)(ks:List Cl):G->R D:=λΓ=>lk Γ i>>=L6 ks
def ay(g:List D->R D)(gs:G->R (List D)):G->R D:=λΓ=>gs Γ>>=g
def c9(ds:List D):R D:=match ds with
 | [.tup xs]=>.ok (.int xs.length)
 | [.lst xs]=>.ok (.int xs.length)
 | _=>.no
def eK(ds:List D):R D:=match ds with
 | [.tup xs]=>.ok (.tup xs)
 | [.lst xs]=>.ok (.tup xs)
 | _=>.no
def xN(ds:List D):R D:=match ds with
 | [.int i,.int j]=>.ok (.int (if j<i then j else i))
 | _=>.no
def mS:List D->Option (List Int)
 | []=>some []
 | .int i::ds=>(mS ds).map (i::·)
 | _::_=>none
def DR:∀{ds:List D} {ns:List Int},mS ds=some ns->ds=ns.map D.int
 | [],ns,h=>by unfold mS at h;cases h;rfl
 | d::ds,ns,h=>by
   cases d with
   | int i =>
     unfold mS at h
     cases q:mS ds with
     | none=>rw[q] at h;cases h
     | some ms=>rw[q] at h;cases h;rw[DR q];rfl
   | _=>unfold mS at h;cases h
def AJ:∀ns:List Int,mS (ns.map D.int)=some ns
 | []=>rfl
 | n::ns=>by show(mS (ns.map D.int)).map (n::·)=_;rw[AJ ns];rfl
def mT:List D->Option (List Bool)
 | []=>some []
 | .bl i::ds=>(mT ds).map (i::·)
 | _::_=>none
def DS:∀{ds:List D} {ns:List Bool},mT ds=some ns->ds=ns.map D.bl
 | [],ns,h=>by unfold mT at h;cases h;rfl
 | d::ds,ns,h=>by
   cases d with
   | bl i =>
     unfold mT at h
     cases q:mT ds with
     | none=>rw[q] at h;cases h
     | some ms=>rw[q] at h;cases h;rw[DS q];rfl
   | _=>unfold mT at h;cases h
def AK:∀ns:List Bool,mT (ns.map D.bl)=some ns
 | []=>rfl
 | n::ns=>by show(mT (ns.map D.bl)).map (n::·)=_;rw[AK ns];rfl
def rq(ds:List D):R D:=match ds with
 | [.lst xs]=>(match mS xs with | some ns=>.ok (.int ns.sum) | none=>.no)
 | _=>.no
def V2(ns:List Int):rq [.lst (ns.map D.int)] = .ok (.int ns.sum):=by simp only[rq,AJ]
def qe(ds:List D):R D:=match ds with
 | [.lst xs]=>(match mT xs with | some bs=>.ok (.bl (bs.any (λb=>b))) | none=>.no)
 | _=>.no
def V3(ns:List Bool):qe [.lst (ns.map D.bl)] = .ok (.bl (ns.any λb=>b)):=by simp only[qe,AK]
def n7(ds:List D):R D:=match ds with
 | [.lst xs]=>(match mT xs with | some bs=>.ok (.bl (bs.all (λb=>b))) | none=>.no)
 | _=>.no
def xO(ns:List Bool):n7 [.lst (ns.map D.bl)] = .ok (.bl (ns.all λb=>b)):=by simp only[n7,AK]
def gv(φ:List D->R D):List D->R D:=λds=>match φ ds with
 | .ok d=>.ok d
 | _=>.no
def L7{φ:List D->R D}{ds:List D}(h:gv φ ds ≠ .no):∃d,φ ds = .ok d/\gv φ ds = .ok d:=by
 unfold gv at h ⊢
 cases q:φ ds with
 | ok d=>exact⟨d,rfl,rfl⟩
 | no=>rw[q] at h;exact absurd rfl h
 | er c=>rw[q] at h;exact absurd rfl h
def gx(φ:List D->R (List D))(gs:G->R (List D)):G->R (List D):=λΓ=>gs Γ>>=λds=>φ ds>>=λes=>R.guard (D.bC es=true) (.ok es)
def AL(d:D):R (List D):=match d with
 | .tup ds=>R.guard (D.bC ds=true) (.ok ds)
 | .lst ds=>R.guard (D.bC ds=true) (.ok ds)
 | _=>.no
def ju(g:G->R D):G->R (List D):=λΓ=>g Γ>>=AL
def iM(ga gb:G->R (List D)):G->R (List D):=λΓ=>ga Γ>>=λx=>gb Γ>>=λy=>R.guard (x.length+y.length<=1000) (.ok (x++y))
def L8(x y:D):R (List D):=match x,y with
 | .lst xs,.lst ys=>R.guard (xs.length+ys.length<=1000/\D.bC (xs++ys)=true) (.ok (xs++ys))
 | _,_=>.no
def kW(ga gb:G->R D):G->R (List D):=λΓ=>ga Γ>>=λx=>gb Γ>>=λy=>L8 x y
def D.ty:D->String
 | .cQ=>"NoneType"
 | .bl _=>"bool"
 | .int _=>"int"
 | .str _=>"str"
 | .tup _=>"tuple"
 | .lst _=>"list"
 | .kn=>"dict"
 | .exc _=>""
def D.ko:D->Bool
 | .exc _=>false
 | _=>true
def AM(f:String->Bool)(d:D):R D:=match d with
 | .exc _=>.no
 | d=>.ok (.bl (f d.ty))
def u9(f:String->Bool)(g:G->R D):G->R D:=λΓ=>g Γ>>=AM f
def V4{f:String->Bool}{d:D}(h:AM f d ≠ .no):d.ko=true/\AM f d = .ok (.bl (f d.ty)):=by
 cases d<;>first | exact⟨rfl,rfl⟩ | exact absurd rfl h
def AN(t:String):Bool:=t=="int"||t=="bool"
def AO(t:String):Bool:=t=="bool"
def u_(t:String):Bool:=t=="str"
def o9(d:D):R (List D):=match d with
 | .tup ds=>.ok ds
 | .lst ds=>.ok ds
 | _=>.no
def lU(g:G->R D):G->R (List D):=λΓ=>g Γ>>=o9
def fQ(g:G->R D):G->R (List D):=λΓ=>g Γ>>=λd=>o9 d>>=λds=>R.guard (D.bC ds=true) (.ok ds)
def iN(lo:Int)(n:Nat):List D:=(eW n).map λ(i:Nat)=>D.int (lo+(i:Int))
def qf(lo:Int)(n:Nat):(iN lo n).length=n:=by unfold iN;simp
def AQ(lo:Int)(n i:Nat)(h:i<n):(iN lo n)[i]? = some (.int (lo+(i:Int))):=by unfold iN;simp[h]
def V5(lo:Int):iN lo 0=[]:=rfl
def lX(lo:Int)(step:Int)(n:Nat):List D:=(eW n).map λ(i:Nat)=>D.int (lo+step*(i:Int))
def kX(lo hi step:Int):Nat:=((hi-lo+step-1)/step).toNat
def mV(g:G->R D):G->R (List D):=λΓ=>g Γ>>=λd=>match d with
 | .int j=>R.guard (uY j) (.ok (iN 0 j.toNat))
 | _=>.no
def xP(ga gb:G->R D):G->R (List D):=λΓ=>ga Γ>>=λd=>gb Γ>>=λd'=>match d,d' with
 | .int i,.int j=>R.guard (uY i/\uY j) (.ok (iN i (j-i).toNat))
 | _,_=>.no
def DT(ga gb gc:G->R D):G->R (List D):=λΓ=>ga Γ>>=λd=>gb Γ>>=λd'=>gc Γ>>=λV6=>match d,d',V6 with
 | .int i,.int j,.int k=>R.guard ((-1073741824<=i/\i<1073741824)/\(-1073741824<=j/\j<1073741824)/\0<k/\k<1073741824) (.ok (lX i k (kX i j k)))
 | _,_,_=>.no
def dF(f:D->R (Option D)):List D->List D->R (List D)
 | [],acc=>.ok acc
 | d::r,acc=>match f d with
   | .ok (some e)=>dF f r (acc++[e])
   | .ok none=>dF f r acc
   | _=>.no
def V7(f:D->R (Option D))(acc:List D):dF f [] acc = .ok acc:=rfl
def DU(f:D->R (Option D))(d:D)(r acc:List D):dF f (d::r) acc=match f d with
 | .ok (some e)=>dF f r (acc++[e])
 | .ok none=>dF f r acc
 | _=>.no:=rfl
def xQ{f:D->R (Option D)}:∀{ds acc:List D},dF f ds acc ≠ .no->∃es,dF f ds acc = .ok es
 | [],acc,_=>⟨acc,rfl⟩
 | d::r,acc,h=>by
   unfold dF at h ⊢
   cases q:f d with
   | no=>rw[q] at h;exact absurd rfl h
   | er c=>rw[q] at h;exact absurd rfl h
   | ok o =>
     rw[q] at h
     cases o with
     | none=>exact xQ h
     | some e=>exact xQ h
def j8{α:Type}{f:D->R (Option D)}{k h:α->D}{l:List α}(q:∀x∈l,f (k x) = .ok (some (h x))):dF f (l.map k) [] = .ok (l.map h):=by
 suffices H:∀(l:List α) (acc:List D),(∀x∈l,f (k x) = .ok (some (h x)))->dF f (l.map k) acc = .ok (acc++l.map h) by
  have:=H l [] q;simpa using this
 intro l
 induction l with
 | nil=>intro acc _;simp[dF]
 | cons x l ih =>
   intro acc q
   rw[fN,DU,q x gj]
   simp only
   rw[ih _ λy hy=>q y (ft _ hy)]
   simp
def V8{α:Type}{f:D->R (Option D)}{k:α->D}{h:α->Option D}{l:List α}(q:∀x∈l,f (k x) = .ok (h x)):dF f (l.map k) [] = .ok (l.filterMap h):=by
 suffices H:∀(l:List α) (acc:List D),(∀x∈l,f (k x) = .ok (h x))->dF f (l.map k) acc = .ok (acc++l.filterMap h) by
  have:=H l [] q;simpa using this
 intro l
 induction l with
 | nil=>intro acc _;simp[dF]
 | cons x l ih =>
   intro acc q
   rw[fN,DU,q x gj]
   cases e:h x with
   | none=>simp only;rw[ih _ λy hy=>q y (ft _ hy)];simp[e]
   | some z=>simp only;rw[ih _ λy hy=>q y (ft _ hy)];simp[e]
def xR{f:D->R (Option D)}{lo:Int}{n:Nat}{h:Nat->D}(q:∀i,i<n->f (.int (lo+(i:Int))) = .ok (some (h i))):dF f (iN lo n) [] = .ok ((eW n).map h) :=
 j8 (k:=λ(i:Nat)=>D.int (lo+(i:Int))) λi hi=>q i (List.mem_range.mp hi)
def dr(ge:G->R D):D->G->R (Option D):=λd Γ=>ge (.ro d::Γ)>>=λe=>.ok (some e)
def rA(gc:G->R Bool)(ge:G->R D):D->G->R (Option D):=λd Γ=>gc (.ro d::Γ)>>=λk=>if k=true then ge (.ro d::Γ)>>=λe=>.ok (some e) else .ok none
def c8(gi:G->R (List D))(f:D->G->R (Option D)):G->R (List D):=λΓ=>gi Γ>>=λitems=>R.guard (items.length<=100000) (dF (λd=>f d Γ) items [])
inductive Fl where
 | nx (Γ:G) | rt (d:D) | fW (ds:List D) | bk (Γ:G) | ct (Γ:G) | ex (c:Er) (Γ:G)
def lift{α:Type}(r:R α)(Γ:G)(k:α->R Fl):R Fl:=match r with
 | .no=>.no
 | .er c=>.ok (.ex c Γ)
 | .ok a=>k a
def jM{α:Type}{r:R α}{Γ:G}{k:α->R Fl}(h:lift r Γ k ≠ .no):r ≠ .no:=λe=>h (by rw[e];rfl)
def jv{α:Type}{r:R α}{Γ:G}{k:α->R Fl}{a:α}(e:r = .ok a):lift r Γ k=k a:=by rw[e];rfl
def xS{α:Type}{r:R α}{Γ:G}{k:α->R Fl}{a:α}(h:lift r Γ k ≠ .no)(e:r = .ok a):k a ≠ .no:=by rw[e] at h;exact h
def sW{α:Type}(a:α)(Γ:G)(k:α->R Fl):lift (.ok a) Γ k=k a:=rfl
def V9{α:Type}(c:Er)(Γ:G)(k:α->R Fl):lift (.er c:R α) Γ k = .ok (.ex c Γ):=rfl
def gX(i:Nat)(Γ:G):G:=match Γ[i]? with
 | some (.own ds)=>Γ.set i (.ro (.lst ds))
 | _=>Γ
def cF:G->R Fl:=λΓ=>.ok (.nx Γ)
def aC(t u:G->R Fl):G->R Fl:=λΓ=>t Γ>>=λr=>match r with
 | .nx Γ'=>u Γ'
 | r=>.ok r
def qg(g:G->R (List D)):G->R Fl:=λΓ=>lift (g Γ) Γ λds=>.ok (.fW ds)
def rB(i:Nat):G->R Fl:=λΓ=>match Γ[i]? with
 | some (.own ds)=>.ok (.fW ds)
 | _=>.no
def vc(g:G->R D):G->R Fl:=λΓ=>lift (g Γ) Γ λ_=>.ok (.nx Γ)
def lZ:List Nat->List D->G->G
 | i::is,d::ds,Γ=>lZ is ds (Γ.set i (.ro d))
 | _,_,Γ=>Γ
def iw(c:Er):G->R Fl:=λΓ=>.ok (.ex c Γ)
def rC(i:Nat)(t u:G->R Fl):G->R Fl:=λΓ=>t Γ>>=λr=>match r with
 | .ex c Γ'=>u (Γ'.set i (.ro (.exc c)))>>=λf=>(match f with
   | .nx Γ2=>.ok (.nx (Γ2.set i .no))
   | _=>.no)
 | r=>.ok r
def aY(g:G->R D):G->R Fl:=λΓ=>lift (g Γ) Γ λd=>.ok (.rt d)
def bU(gc:G->R Bool)(t u:G->R Fl):G->R Fl:=λΓ=>lift (gc Γ) Γ λk=>if k=true then t Γ else u Γ
def a6(i:Nat)(g:G->R D):G->R Fl:=λΓ=>lift (g Γ) Γ λd=>.ok (.nx (Γ.set i (.ro d)))
def V_:En->En
 | .own ds=>.ro (.lst ds)
 | e=>e
def e_(i:Nat)(g:G->R (List D)):G->R Fl:=λΓ=>lift (g Γ) Γ λds=>.ok (.nx (Γ.set i (.own ds)))
def l0(i:Nat)(g:G->R D):G->R Fl:=λΓ=>match Γ[i]? with
 | some (.own ds)=>lift (g Γ) Γ λd=>R.guard (ds.length<=100000) (.ok (.nx (Γ.set i (.own (ds++[d])))))
 | _=>.no
def o_(i:Nat)(gi g:G->R D):G->R Fl:=λΓ=>match Γ[i]? with
 | some (.own ds)=>lift (g Γ) Γ λd=>lift (gi Γ) Γ λk=>(match k with
   | .int j=>(match jr ds.length j with | some j'=>.ok (.nx (Γ.set i (.own (ds.set j' d)))) | none=>.no)
   | _=>.no)
 | _=>.no
def fI(gb:G->R Fl)(i:Nat):List D->G->R Fl
 | [],Γ=>.ok (.nx Γ)
 | d::r,Γ=>match gb (Γ.set i (.ro d)) with
   | .ok (.nx Γ')=>fI gb i r Γ'
   | .ok (.ct Γ')=>fI gb i r Γ'
   | .ok (.bk Γ')=>.ok (.nx Γ')
   | .ok (.rt d)=>.ok (.rt d)
   | .ok (.fW d)=>.ok (.fW d)
   | .ok (.ex c Γ')=>.ok (.ex c Γ')
   | _=>.no
def iO(i:Nat)(gi:G->R (List D))(gb:G->R Fl):G->R Fl:=λΓ=>lift (gi Γ) Γ λds=>fI gb i ds Γ
def fc(gc:G->R Bool)(gb:G->R Fl):Nat->G->R Fl
 | 0,_=>.no
 | n+1,Γ=>lift (gc Γ) Γ λk=>if k=true then (match gb Γ with
    | .ok (.nx Γ')=>fc gc gb n Γ'
    | .ok (.ct Γ')=>fc gc gb n Γ'
    | .ok (.bk Γ')=>.ok (.nx Γ')
    | .ok (.rt d)=>.ok (.rt d)
    | .ok (.fW d)=>.ok (.fW d)
    | .ok (.ex c Γ')=>.ok (.ex c Γ')
    | _=>.no) else .ok (.nx Γ)
def Wa(gb:G->R Fl)(i:Nat)(Γ:G):fI gb i [] Γ = .ok (.nx Γ):=rfl
def AR(gb:G->R Fl)(i:Nat)(d:D)(ds:List D)(Γ:G):fI gb i (d::ds) Γ=match gb (Γ.set i (.ro d)) with
 | .ok (.nx Γ')=>fI gb i ds Γ'
 | .ok (.ct Γ')=>fI gb i ds Γ'
 | .ok (.bk Γ')=>.ok (.nx Γ')
 | .ok (.rt d)=>.ok (.rt d)
 | .ok (.fW d)=>.ok (.fW d)
 | .ok (.ex c Γ')=>.ok (.ex c Γ')
 | _=>.no:=rfl
def AS{gb:G->R Fl}{i:Nat}(I:Nat->G->Prop):∀(ds:List D) (k:Nat) (Γ:G),I k Γ ->
 (∀(j:Nat) (d:D) (Γ:G),ds[j]? = some d->I (k+j) Γ->∃Γ',(gb (Γ.set i (.ro d)) = .ok (.nx Γ')∨gb (Γ.set i (.ro d)) = .ok (.ct Γ'))/\I (k+j+1) Γ') ->
 ∃Γ',fI gb i ds Γ = .ok (.nx Γ')/\I (k+ds.length) Γ'
 | [],k,Γ,h,_=>⟨Γ,rfl,h⟩
 | d::ds,k,Γ,h,q=>by
   obtain⟨d8,e1,h1⟩:=q 0 d Γ rfl h
   obtain⟨Γ2,e2,h2⟩:=AS I ds (k+1) d8 h1 λj d' Γ' hd hI=>by
    have:=q (j+1) d' Γ' (by simpa using hd) (by rw[show k+(j+1)=k+1+j by lia];exact hI)
    rw[show k+(j+1)=k+1+j by lia] at this
    exact this
   refine⟨Γ2,?_,by rw[b6,show k+(ds.length+1)=k+1+ds.length by lia];exact h2⟩
   rw[AR]
   rcases e1 with e1 | e1<;>rw[e1]<;>exact e2
def Wb{gb:G->R Fl}{i:Nat}(S:Nat->G)(ds:List D)(q:∀(j:Nat) (d:D),ds[j]? = some d->gb ((S j).set i (.ro d)) = .ok (.nx (S (j+1)))):fI gb i ds (S 0) = .ok (.nx (S ds.length)):=by
 obtain⟨Γ',e,h⟩:=AS (gb:=gb) (i:=i) (λk Γ=>Γ=S k) ds 0 (S 0) rfl λj d Γ hd hI=>by
  rw[qS] at hI ⊢
  subst hI
  exact⟨_,.inl (q j d hd),rfl⟩
 rw[qS] at h
 rw[e,h]
def Wc{gb:G->R Fl}{i:Nat}{Γ:G}(S:Nat->G){ds:List D}(h0:Γ=S 0)(q:∀(j:Nat) (d:D),ds[j]? = some d->gb ((S j).set i (.ro d)) = .ok (.nx (S (j+1)))):fI gb i ds Γ = .ok (.nx (S ds.length)):=by
 rw[h0];exact Wb S ds q
def Wd{gb:G->R Fl}{i:Nat}{Γ:G}(S:Nat->G){lo:Int}{n:Nat}(h0:Γ=S 0)(q:∀(j:Nat),j<n->gb ((S j).set i (.ro (.int (lo+(j:Int))))) = .ok (.nx (S (j+1)))):fI gb i (iN lo n) Γ = .ok (.nx (S n)):=by
 rw[Wc S h0,qf]
 intro j d hd
 have hj:j<n:=by
  have:=(List.getElem?_eq_some_iff.mp hd).1
  rw[qf] at this;exact this
 rw[AQ lo _ _ hj] at hd
 cases hd
 exact q j hj
def DV(gc:G->R Bool)(gb:G->R Fl)(n:Nat)(Γ:G):fc gc gb (n+1) Γ=lift (gc Γ) Γ λk=>if k=true then (match gb Γ with
 | .ok (.nx Γ')=>fc gc gb n Γ'
 | .ok (.ct Γ')=>fc gc gb n Γ'
 | .ok (.bk Γ')=>.ok (.nx Γ')
 | .ok (.rt d)=>.ok (.rt d)
 | .ok (.fW d)=>.ok (.fW d)
 | .ok (.ex c Γ')=>.ok (.ex c Γ')
 | _=>.no) else .ok (.nx Γ):=rfl
def AU{gc:G->R Bool}{gb:G->R Fl}(I:Nat->G->Prop)(Q:R Fl->Prop)(q:∀m Γ,I m Γ->(gc Γ = .ok false/\Q (.ok (.nx Γ)))∨(gc Γ = .ok true /\
 ((∃Γ' m',m'<m/\(gb Γ = .ok (.nx Γ')∨gb Γ = .ok (.ct Γ'))/\I m' Γ')∨(∃Γ',gb Γ = .ok (.bk Γ')/\Q (.ok (.nx Γ')))∨(∃d,gb Γ = .ok (.rt d)/\Q (.ok (.rt d)))∨(∃d,gb Γ = .ok (.fW d)/\Q (.ok (.fW d)))∨(∃c Γ',gb Γ = .ok (.ex c Γ')/\Q (.ok (.ex c Γ')))))) :
 ∀(n m:Nat) (Γ:G),m<n->I m Γ->Q (fc gc gb n Γ)
 | 0,m,Γ,h,_=>absurd h (CL _)
 | n+1,m,Γ,h,hI=>by
   rw[DV]
   rcases q m Γ hI with ⟨e,hq⟩ | ⟨e,h2⟩
   ·rw[e,sW,if_neg sC];exact hq
   ·rw[e,sW,if_pos rfl]
    rcases h2 with ⟨Γ',m',hm,e',h'⟩ | ⟨Γ',e',h'⟩ | ⟨d,e',h'⟩ | ⟨d,e',h'⟩ | ⟨c,Γ',e',h'⟩
    ·rcases e' with e' | e'<;>rw[e']<;>exact AU I Q q n m' Γ' (by lia) h'
    ·rw[e'];exact h'
    ·rw[e'];exact h'
    ·rw[e'];exact h'
    ·rw[e'];exact h'
def fz(n:Nat)(ds:List D):G:=ds.map En.ro++gG (n-ds.length) En.no
def fin(r:R Fl):R D:=match r with
 | .ok (.rt d)=>.ok d
 | .ok (.nx _)=>.ok .cQ
 | .ok (.ex c _)=>.er c
 | _=>.no
def AV(r:R Fl):R (List D):=match r with
 | .ok (.fW d)=>.ok d
 | .ok (.ex c _)=>.er c
 | _=>.no
def bA(p n:Nat)(g:G->R Fl):List D->R D:=λds=>if ds.length=p then fin (g (fz n ds)) else .no
def AW{p n:Nat}{g:G->R Fl}{ds:List D}(h:bA p n g ds ≠ .no):ds.length=p:=by
 unfold bA at h
 by_cases q:ds.length=p
 ·exact q
 ·rw[if_neg q] at h;exact absurd rfl h
def AX{p n:Nat}{g:G->R Fl}{ds:List D}(h:ds.length=p):bA p n g ds=fin (g (fz n ds)):=if_pos h
def jN(p n:Nat)(g:G->R Fl):List D->R (List D):=λds=>if ds.length=p then AV (g (fz n ds)) else .no
def L9{p n:Nat}{g:G->R Fl}{ds:List D}(h:jN p n g ds ≠ .no):ds.length=p:=by
 unfold jN at h
 by_cases q:ds.length=p
 ·exact q
 ·rw[if_neg q] at h;exact absurd rfl h
def L_{p n:Nat}{g:G->R Fl}{ds:List D}(h:ds.length=p):jN p n g ds=AV (g (fz n ds)):=if_pos h
def We:((0:Nat):Int)=0:=rfl
def Wf:((1:Nat):Int)=1:=rfl
def Wg:((2:Nat):Int)=2:=rfl
def Wh:((3:Nat):Int)=3:=rfl
def Wi:((4:Nat):Int)=4:=rfl
end
def kY:List Int->Int
 | []=>0
 | [a]=>a
 | a::b::r=>if kY (b::r)>a then kY (b::r) else a
def Ma:∀{ns:List Int},ns≠[]->kY ns∈ns
 | [a],_=>by simp[kY]
 | a::b::r,_=>by
   have ih:=Ma (ns:=b::r) (by simp)
   unfold kY
   split
   ·exact ft _ ih
   ·exact gj
def Mb:∀{ns:List Int} {a:Int},a∈ns->a<=kY ns
 | [b],a,h=>by simp only[Kh] at h;subst h;exact Int.le_refl _
 | b::c::r,a,h=>by
   unfold kY
   rcases List.mem_cons.mp h with rfl | h
   ·split<;>lia
   ·have:=Mb h
    split<;>lia
def Mc{ns:List Int}{m:Int}(h:m∈ns)(g:∀a∈ns,a<=m):m=kY ns:=Int.le_antisymm (Mb h) (g _ (Ma λz=>by rw[z] at h;cases h))
def vd(ds:List D):R D:=match ds with
 | [.lst xs]=>(match mS xs with | some (n::ns)=>.ok (.int (kY (n::ns))) | _=>.no)
 | [.int i,.int j]=>.ok (.int (if j>i then j else i))
 | _=>.no
def z7h(n:Int)(ns:List Int):vd [.lst (D.int n::ns.map D.int)] = .ok (.int (kY (n::ns))):=by
 have h:=AJ (n::ns)
 rw[fN] at h
 simp only[vd,h]
def dInt(ds:List D):R D:=match ds with
 | [.int i]=>.ok (.int i)
 | [.bl b]=>.ok (.int (if b then 1 else 0))
 | _=>.no
def Md:Nat:=10^1200
def Me(i j:Int):Prop:=i.natAbs<Md/\j.natAbs<Md
instance (i j:Int):Decidable (Me i j):=by unfold Me;exact inferInstance
def D.isNon:D->Bool
 | .cQ=>true
 | _=>false
def xT(n:Int):Nat:=if n==0 then 0 else n.natAbs.log2+1
def x0w(d:D):R D:=match d with
 | .int n=>.ok (.int (xT n))
 | _=>.no
noncomputable def y8t(ga:G->R D):G->R D:=λΓ=>ga Γ>>=x0w
noncomputable def DW(x y:D):R D:=match x,y with
 | .int i,.int j=>R.guard (0<=i/\0<=j) (.ok (.int (i/2^j.toNat)))
 | _,_=>.no
noncomputable def y4b(gs:G->R (List D)):G->R (List D):=λΓ=>gs Γ>>=λds=>R.guard (ds.length<=1000) (.ok ds)
noncomputable def ve(gc:G->R Bool)(ge:G->R D):D->D->G->R (Option D):=λd d2 Γ=>gc (.ro d :: .ro d2::Γ)>>=λk=>if k=true then ge (.ro d :: .ro d2::Γ)>>=λe=>.ok (some e) else .ok none
def y1c(f:D->D->G->R (Option D))(Γ:G)(d:D):R (Option D):=match d with
 | .tup [a,b]=>f a b Γ
 | _=>.no
noncomputable def y5q(gi:G->R (List D))(f:D->D->G->R (Option D)):G->R (List D):=λΓ=>gi Γ>>=λitems=>R.guard (items.length<=100000) (dF (y1c f Γ) items [])
def jO:Nat->List D->List D
 | _,[]=>[]
 | k,x::xs=>.tup [.int k,x]::jO (k+1) xs
noncomputable def y8s(ga:G->R D):G->R (List D):=λΓ=>ga Γ>>=λa=>match a with
 | .lst xs=>R.guard (D.bC xs=true) (.ok (jO 0 xs))
 | _=>.no
def y0i(ga:G->R D):G->R Bool:=λΓ=>ga Γ>>=λd=>match d with
 | .lst ds=>.ok (!ds.isEmpty)
 | _=>.no
def j9(f:D->R (Option D)):List D->List D->R (List D)
 | [],acc=>.ok acc
 | d::ds,acc=>match f d with
   | .no=>.no
   | .er c=>.er c
   | .ok none=>j9 f ds acc
   | .ok (some e)=>j9 f ds (acc++[e])
noncomputable def z9w(gi:G->R (List D))(f:D->G->R (Option D)):G->R (List D):=λΓ=>gi Γ>>=λitems=>R.guard (items.length<=100000) (j9 (λd=>f d Γ) items [])
noncomputable def gRev(g:G->R D):G->R (List D):=λΓ=>g Γ>>=λd=>match d with
 | .tup ds=>R.guard (D.bC ds=true) (.ok ds.reverse)
 | _=>.no
noncomputable def z8i(φ:List D->R D)(gs:G->R (List D)):G->R D:=λΓ=>gs Γ>>=λds=>match φ ds with | .ok d=>.ok d | _=>.no
noncomputable def y2n(is:List Nat)(g:G->R D):G->R Fl:=λΓ=>lift (g Γ) Γ λd=>lift (o9 d) Γ λds=>R.guard (ds.length=is.length) (.ok (.nx (lZ is ds Γ)))
noncomputable def sX(i:Nat)(gs:G->R (List D)):G->R Fl:=λΓ=>match Γ[i]? with
 | some (.own ds)=>lift (gs Γ) Γ λes=>R.guard (ds.length+es.length<=100000) (.ok (.nx (Γ.set i (.own (ds++es)))))
 | _=>.no
def Wj{i:Nat}{gs:G->R (List D)}{Γ:G}{ds es:List D}(hi:Γ[i]? = some (.own ds))(h:gs Γ = .ok es)(hl:ds.length+es.length<=100000):sX i gs Γ = .ok (.nx (Γ.set i (.own (ds++es)))):=by
 unfold sX;rw[hi]
 show lift (gs Γ) Γ _=_
 rw[h,sW,bH hl]
noncomputable def dIn(x c:D):R D:=match c with
 | .lst ys=>R.guard (D.lay 40 x=true/\D.lay 40 (.lst ys)=true) (.ok (.bl (ys.any λy=>bO y x)))
 | .tup ys=>R.guard (D.lay 40 x=true/\D.lay 40 (.tup ys)=true) (.ok (.bl (ys.any λy=>bO y x)))
 | _=>.no
end L3
namespace L3
section
variable {Γ Γ':G}{i:Nat}{g gk:G->R D}{gs:G->R (List D)}{gc:G->R Bool}{t u e gb:G->R Fl}{r:R Fl}{d k:D}{ds:List D}{c:Er}
def gJ(h:t Γ = .ok (.nx Γ'))(h2:u Γ'=r):aC t u Γ=r:=by unfold aC;rw[h];exact h2
def l8(h:t Γ = .ok (.rt d)):aC t u Γ = .ok (.rt d):=by unfold aC;rw[h];rfl
def Wk(h:t Γ = .ok (.fW ds)):aC t u Γ = .ok (.fW ds):=by unfold aC;rw[h];rfl
def sY(h:t Γ = .ok (.ex c Γ')):aC t u Γ = .ok (.ex c Γ'):=by unfold aC;rw[h];rfl
def kZ(h:g Γ = .ok d):a6 i g Γ = .ok (.nx (Γ.set i (.ro d))):=by unfold a6;rw[h];rfl
def vf(h:gs Γ = .ok ds):e_ i gs Γ = .ok (.nx (Γ.set i (.own ds))):=by unfold e_;rw[h];rfl
def Mf(ho:Γ[i]? = some (.own ds))(h:g Γ = .ok d)(hl:ds.length<=100000):l0 i g Γ = .ok (.nx (Γ.set i (.own (ds++[d])))):=by
 unfold l0;rw[ho];simp only[h,sW,bH hl]
def DX{j:Int}{n:Nat}(ho:Γ[i]? = some (.own ds))(h:g Γ = .ok d)(hk:gk Γ = .ok (.int j))(hn:jr ds.length j=some n):o_ i gk g Γ = .ok (.nx (Γ.set i (.own (ds.set n d)))):=by
 unfold o_;rw[ho];simp only[h,hk,sW,hn]
def gK(hc:gc Γ = .ok true)(h:t Γ=r):bU gc t u Γ=r:=by unfold bU;rw[hc];exact h
def AY(hc:gc Γ = .ok false)(h:u Γ=r):bU gc t u Γ=r:=by unfold bU;rw[hc];exact h
def mW(hc:gc Γ = .ok false):bU gc t cF Γ = .ok (.nx Γ):=AY hc rfl
def Mg(hi:gs Γ = .ok ds)(h:fI gb i ds Γ=r):iO i gs gb Γ=r:=by unfold iO;rw[hi];exact h
def bT(h:g Γ = .ok d):aY g Γ = .ok (.rt d):=by unfold aY;rw[h];rfl
def xU(h:gs Γ = .ok ds):qg gs Γ = .ok (.fW ds):=by unfold qg;rw[h];rfl
def Mh(h:Γ[i]? = some (.own ds)):rB i Γ = .ok (.fW ds):=by unfold rB;rw[h]
def Mi(h:g Γ = .ok d):vc g Γ = .ok (.nx Γ):=by unfold vc;rw[h];rfl
def cu(hg:g Γ = .ok d)(h:u (Γ.set i (.ro d))=r):aC (a6 i g) u Γ=r:=gJ (kZ hg) h
def iP(hg:gs Γ = .ok ds)(h:u (Γ.set i (.own ds))=r):aC (e_ i gs) u Γ=r:=gJ (vf hg) h
def c_(hc:gc Γ = .ok false)(h:u Γ=r):aC (bU gc t cF) u Γ=r:=gJ (mW hc) h
def DY(hc:gc Γ = .ok true)(ht:t Γ = .ok (.nx Γ'))(h:u Γ'=r):aC (bU gc t e) u Γ=r:=gJ (gK hc ht) h
def DZ(hi:gs Γ = .ok ds)(hf:fI gb i ds Γ = .ok (.nx Γ'))(h:u Γ'=r):aC (iO i gs gb) u Γ=r:=gJ (Mg hi hf) h
def b7{p n:Nat}(hl:ds.length=p)(h:t (fz n ds) = .ok (.rt d)):bA p n t ds = .ok d:=by rw[AX hl,h];rfl
def mX{p n:Nat}(hl:ds.length=p)(h:t (fz n ds) = .ok (.ex c Γ)):bA p n t ds = .er c:=by rw[AX hl,h];rfl
def sZ{p n:Nat}{es:List D}(hl:ds.length=p)(h:t (fz n ds) = .ok (.fW es)):jN p n t ds = .ok es:=by rw[L_ hl,h];rfl
def Ends(r:R Fl)(I:G->Prop):Prop:=∃Γ',(r = .ok (.nx Γ')∨r = .ok (.ct Γ'))/\I Γ'
def Ends.nx{I:G->Prop}{r:R Fl}(h:r = .ok (.nx Γ))(hI:I Γ):Ends r I:=⟨Γ,.inl h,hI⟩
def s_(I:Nat->G->Prop)(hi:gs Γ = .ok ds)(h0:I 0 Γ)(hq:∀(j:Nat) (d:D) (Γ:G),ds[j]? = some d->I j Γ->Ends (gb (Γ.set i (.ro d))) (I (j+1)))(h:∀Γ',I ds.length Γ'->u Γ'=r):aC (iO i gs gb) u Γ=r:=by
 obtain⟨Γ',e,h'⟩:=AS I ds 0 Γ h0 λj d Γ hd hI=>by rw[qS] at hI ⊢;exact hq j d Γ hd hI
 rw[qS] at h'
 exact DZ hi e (h Γ' h')
end
def bK(f:Nat->Int):Nat->Int
 | 0=>0
 | n+1=>bK f n+f n
def Wl(f:Nat->Int):bK f 0=0:=rfl
def kq(f:Nat->Int)(n:Nat):bK f (n+1)=bK f n+f n:=rfl
def rD{f g:Nat->Int}:∀{n:Nat},(∀i,i<n->f i=g i)->bK f n=bK g n
 | 0,_=>rfl
 | n+1,h=>by rw[kq,kq,rD λi hi=>h i (by lia),h n (by lia)]
def D0(f g:Nat->Int):∀n:Nat,bK (λi=>f i+g i) n=bK f n+bK g n
 | 0=>rfl
 | n+1=>by rw[kq,kq,kq,D0 f g n];lia
def D2(c:Int)(f:Nat->Int):∀n:Nat,bK (λi=>c*f i) n=c*bK f n
 | 0=>by simp[bK]
 | n+1=>by rw[kq,kq,D2 c f n,Int.mul_add]
def Wm(c:Int)(f:Nat->Int)(n:Nat):bK (λi=>f i*c) n=bK f n*c:=by
 rw[rD (g:=λi=>c*f i) λi _=>Ki _ _,D2,Ki]
def AZ:∀n:Nat,bK (λ_=>0) n=0
 | 0=>rfl
 | n+1=>by rw[kq,AZ n];rfl
def Mj(f:Nat->Nat->Int)(m:Nat):∀n:Nat,bK (λi=>bK (λj=>f i j) m) n=bK (λj=>bK (λi=>f i j) n) m
 | 0=>by simp only[Wl,AZ]
 | n+1=>by
   rw[kq,Mj f m n,<-D0]
   rfl
def D3{f:Nat->Int}{k:Nat}:∀{n:Nat},k<n->(∀i,i<n->i≠k->f i=0)->bK f n=f k
 | 0,h,_=>absurd h (CL _)
 | n+1,h,q=>by
   rw[kq]
   by_cases e:k=n
   ·subst e
    rw[rD (g:=λ_=>0) λi hi=>q i (by lia) (by lia),AZ];lia
   ·rw[D3 (by lia) λi hi hk=>q i (by lia) hk,q n (by lia) (eA e)];lia
def Wn{f:Nat->Int}{n:Nat}(q:∀i,i<n->f i=0):bK f n=0:=by
 rw[rD (g:=λ_=>0) q,AZ]
def D4(f:Nat->Int):∀n:Nat,((eW n).map f).sum=bK f n
 | 0=>rfl
 | n+1=>by rw[sE,jF,List.sum_append,D4 f n,kq];simp
def cg(P a b:Int):Prop:=a%P=b%P
def cg.refl{P a:Int}:cg P a a:=rfl
def cg.symm{P a b:Int}(h:cg P a b):cg P b a:=Eq.symm h
def cg.trans{P a b c:Int}(h:cg P a b)(g:cg P b c):cg P a c:=Eq.trans h g
def cg.of_eq{P a b:Int}(h:a=b):cg P a b:=by rw[h];exact cg.refl
def qh{P a:Int}:cg P (a%P) a:=by unfold cg;exact Int.emod_emod_of_dvd a (Int.dvd_refl P)
def cg.add{P a b c d:Int}(h:cg P a b)(g:cg P c d):cg P (a+c) (b+d):=by unfold cg at *;rw[Int.add_emod,h,g,<-Int.add_emod]
def cg.sub{P a b c d:Int}(h:cg P a b)(g:cg P c d):cg P (a-c) (b-d):=by unfold cg at *;rw[SI,h,g,<-SI]
def cg.mul{P a b c d:Int}(h:cg P a b)(g:cg P c d):cg P (a*c) (b*d):=by unfold cg at *;rw[Int.mul_emod,h,g,<-Int.mul_emod]
def cg.bK{P:Int}{f g:Nat->Int}:∀{n:Nat},(∀i,i<n->cg P (f i) (g i))->cg P (L3.bK f n) (L3.bK g n)
 | 0,_=>cg.refl
 | n+1,h=>(cg.bK λi hi=>h i (by lia)).add (h n (by lia))
def cg.Ml{P a b:Int}(h:cg P a b)(ha:0<=a)(Mm:a<P)(hb:0<=b)(xV:b<P):a=b:=by
 unfold cg at h;rw[sF ha Mm,sF hb xV] at h;exact h
def Wo{P a b:Int}:cg P a b↔(a-b)%P=0:=by
 unfold cg
 constructor
 ·intro h;rw[SI,h,Int.sub_self,Int.zero_emod]
 ·intro h
  have:cg P (a-b+b) (0+b):=cg.add (by unfold cg;rw[h,Int.zero_emod]) cg.refl
  unfold cg at this
  rw[show a-b+b=a by lia,uE] at this
  exact this
def mY{w P:Int}(h:0<P):0<=w%P:=CM _ (by lia)
def mZ{w P:Int}(h:0<P):w%P<P:=Kj _ h
end L3
namespace L3
open PySem
noncomputable def k_(ds:List D):R D:=match ds with
 | [.int i]=>R.guard (i.natAbs.log2<1920) (.ok (.str (toString i)))
 | _=>.no
noncomputable def x4r(ds:List D):R D:=match ds with
 | [.str x]=>R.guard (x.length<=100000) (.ok (.int x.length))
 | _=>.no
noncomputable def dIxS(x y:D):R D:=match x,y with
 | .str z,.int i=>R.guard (z.length<=100000) (match c5 z.cps.toList i with | some c=>.ok (.str ⟨#[c]⟩) | none=>.no)
 | _,_=>.no
noncomputable def y7i(x y:D):R D:=match x,y with
 | .str i,.str j=>R.guard (i.length+j.length<=100000) (.ok (.str (i++j)))
 | _,_=>.no
def vg(i j:Str):Bool:=!(zG j i 0 j.length 1).isEmpty
noncomputable def dInS(x y:D):R D:=match x,y with
 | .str i,.str j=>.ok (.bl (vg i j))
 | _,_=>.no
noncomputable def y0j(x c:D):R D:=match c with
 | .tup ys=>R.guard (D.lay 40 x=true/\D.lay 40 (.tup ys)=true) (.ok (.bl (!(ys.any λy=>bO y x))))
 | _=>.no
def strs?:List D->Option (List Str)
 | []=>some []
 | .str x::r=>(strs? r).map (x::·)
 | _::_=>none
def strs?_map:∀xs:List Str,strs? (xs.map D.str)=some xs
 | []=>rfl
 | x::r=>by rw[fN,strs?,strs?_map r];rfl
def A0:∀{ds:List D} {xs:List Str},strs? ds=some xs->ds=xs.map D.str
 | [],xs,h=>by cases h;rfl
 | .str x::r,xs,h=>by
   rw[strs?] at h
   obtain⟨ys,e,rfl⟩:=Option.map_eq_some_iff.mp h
   rw[A0 e];rfl
 | .cQ::_,_,h=>by cases h
 | .bl _::_,_,h=>by cases h
 | .int _::_,_,h=>by cases h
 | .tup _::_,_,h=>by cases h
 | .lst _::_,_,h=>by cases h
 | .kn::_,_,h=>by cases h
 | .exc _::_,_,h=>by cases h
noncomputable def la(sep:Str)(g:G->R D):G->R D:=λΓ=>g Γ>>=λd=>match d with
 | .lst ds=>(match strs? ds with | some xs=>R.guard (sG sep xs=true) (.ok (.str (mH sep xs))) | none=>.no)
 | _=>.no
noncomputable def xW(sep:Str)(g:G->R D):G->R (List D):=λΓ=>g Γ>>=λd=>match d with
 | .str x=>R.guard (x.length<=100000/\(sep.length==0)=false) (.ok ((oQ x sep).map D.str))
 | _=>.no
def n8(x:Str):List D:=x.cps.toList.map λc=>.str ⟨#[c]⟩
noncomputable def y3y(g:G->R D):G->R (List D):=λΓ=>g Γ>>=λd=>match d with
 | .str x=>R.guard (x.length<=100000) (.ok (n8 x))
 | _=>.no
def R.good{α:Type}(r:R α):R α:=match r with
 | .ok a=>.ok a
 | _=>.no
def R.A1{α:Type}{r:R α}(h:R.good r ≠ .no):∃a,r = .ok a:=by
 cases r with
 | ok a=>exact⟨a,rfl⟩
 | no=>exact absurd rfl h
 | er c=>exact absurd rfl h
def iA(φ:List D->R (D×List D))(gs:G->R (List D)):G->R (D×List D):=λΓ=>R.good (gs Γ)>>=λds=>R.good (φ ds)
def Wq{φ:List D->R (D×List D)}{gs:G->R (List D)}{Γ:G}(h:iA φ gs Γ ≠ .no):∃ds r,gs Γ = .ok ds/\φ ds = .ok r/\iA φ gs Γ = .ok r:=by
 obtain⟨ds,e1⟩:=R.A1 (R.left h)
 have e2:iA φ gs Γ=R.good (φ ds):=by unfold iA;rw[e1];rfl
 rw[e2] at h ⊢
 obtain⟨r,e3⟩:=R.A1 h
 exact⟨ds,r,e1,e3,by rw[e3];rfl⟩
def vh(i:Nat)(gc:G->R D):G->R (D×List D):=λΓ=>R.good (gc Γ)>>=λd=>match d with
 | .int n=>(match Γ[i]? with
   | some (.own ws)=>if (0<=n/\n.toNat<=ws.length/\ws.length<=100000) then .ok (.lst (ws.reverse.take n.toNat),ws.take (ws.length-n.toNat)) else .no
   | _=>.no)
 | _=>.no
def Wr{i:Nat}{gc:G->R D}{Γ:G}(h:vh i gc Γ ≠ .no):∃(n:Int) (ws:List D),gc Γ = .ok (.int n)/\Γ[i]? = some (.own ws)/\0<=n/\n.toNat<=ws.length/\ws.length<=100000/\vh i gc Γ = .ok (.lst (ws.reverse.take n.toNat),ws.take (ws.length-n.toNat)):=by
 unfold vh at h ⊢
 cases e1:gc Γ with
 | no=>rw[e1] at h;exact absurd rfl h
 | er c=>rw[e1] at h;exact absurd rfl h
 | ok d =>
   rw[e1] at h
   cases d with
   | int n =>
     cases hw:Γ[i]? with
     | none=>rw[hw] at h;exact absurd rfl h
     | some en =>
       cases en with
       | no=>rw[hw] at h;exact absurd rfl h
       | ro d'=>rw[hw] at h;exact absurd rfl h
       | own ws =>
         rw[hw] at h
         by_cases hq:(0<=n/\n.toNat<=ws.length/\ws.length<=100000)
         ·refine⟨n,ws,rfl,rfl,hq.1,hq.2.1,hq.2.2,?_⟩
          show(if (0<=n/\n.toNat<=ws.length/\ws.length<=100000) then R.ok (D.lst (ws.reverse.take n.toNat),ws.take (ws.length-n.toNat)) else .no)=_
          rw[if_pos hq]
         ·exact absurd (show(if (0<=n/\n.toNat<=ws.length/\ws.length<=100000) then R.ok (D.lst (ws.reverse.take n.toNat),ws.take (ws.length-n.toNat)) else .no) = .no by rw[if_neg hq]) h
   | _=>exact absurd rfl h
def pa(j w:Nat)(u:G->R (D×List D)):G->R Fl:=λΓ=>match u Γ with
 | .ok (d,ws)=>.ok (.nx ((Γ.set w (.own ws)).set j (.ro d)))
 | _=>.no
def td(w:Nat)(u:G->R (D×List D)):G->R Fl:=λΓ=>match u Γ with
 | .ok (_,ws)=>.ok (.nx (Γ.set w (.own ws)))
 | _=>.no
def qi(m w:Nat)(u:G->R (D×List D)):G->R Fl:=λΓ=>match u Γ with
 | .ok (d,ws)=>(match (Γ.set w (.own ws))[m]? with
   | some (.own ds)=>if ds.length<=100000 then .ok (.nx ((Γ.set w (.own ws)).set m (.own (ds++[d])))) else .no
   | _=>.no)
 | _=>.no
def tf(w:Nat)(u:G->R (D×List D)):G->R Fl:=λΓ=>match u Γ with
 | .ok (.bl false,ws)=>.ok (.nx (Γ.set w (.own ws)))
 | _=>.no
def rE(w:Nat)(u:G->R (D×List D))(gb:G->R D):G->R (D×List D):=λΓ=>match u Γ with
 | .ok (d,ws)=>(match gb (Γ.set w (.own ws)) with
   | .ok b=>(match aF d b with | .ok r=>.ok (r,ws) | _=>.no)
   | _=>.no)
 | _=>.no
def pb(φ:D->D->R D)(w:Nat)(u:G->R (D×List D))(gb:G->R D):G->R (D×List D):=λΓ=>match u Γ with
 | .ok (d,ws)=>(match gb (Γ.set w (.own ws)) with
   | .ok b=>(match φ d b with | .ok r=>.ok (r,ws) | _=>.no)
   | _=>.no)
 | _=>.no
def vi(φ:List D->R D)(u:G->R (D×List D)):G->R (D×List D):=λΓ=>match u Γ with
 | .ok (d,ws)=>(match φ [d] with | .ok r=>.ok (r,ws) | _=>.no)
 | _=>.no
def ti(j w:Nat)(u:G->R (D×List D))(f:D->G->R (Option D)):G->R Fl:=λΓ=>match u Γ with
 | .ok (.lst items,ws)=>if items.length<=100000 then (match dF (λd=>f d (Γ.set w (.own ws))) items [] with | .ok total=>.ok (.nx ((Γ.set w (.own ws)).set j (.own total))) | _=>.no) else .no
 | _=>.no
def Ws{j w:Nat}{u:G->R (D×List D)}{f:D->G->R (Option D)}{Γ:G}(h:ti j w u f Γ ≠ .no):∃items ws total,u Γ = .ok (.lst items,ws)/\items.length<=100000/\dF (λd=>f d (Γ.set w (.own ws))) items [] = .ok total/\ti j w u f Γ = .ok (.nx ((Γ.set w (.own ws)).set j (.own total))):=by
 unfold ti at h ⊢
 cases e1:u Γ with
 | no=>rw[e1] at h;exact absurd rfl h
 | er c=>rw[e1] at h;exact absurd rfl h
 | ok r =>
   obtain⟨d,ws⟩:=r
   cases d with
   | lst items =>
     rw[e1] at h
     dsimp only at h ⊢
     by_cases q:items.length<=100000
     ·rw[if_pos q] at h ⊢
      cases e2:dF (λd=>f d (Γ.set w (.own ws))) items [] with
      | no=>rw[e2] at h;exact absurd rfl h
      | er c=>rw[e2] at h;exact absurd rfl h
      | ok total=>exact⟨items,ws,total,rfl,q,e2,rfl⟩
     ·rw[if_neg q] at h;exact absurd rfl h
   | _=>rw[e1] at h;exact absurd rfl h
def fX(xs:List Str):List Str:=xs.foldl (λl k=>if k∈l then l else k::l) []
def D5(xs:List Str)(k:Str):fX (xs++[k])=if k∈fX xs then fX xs else k::fX xs:=by
 unfold fX
 rw[List.foldl_append];rfl
noncomputable def A2(ga:G->R D):G->R D:=λΓ=>ga Γ>>=λd=>match d with
 | .lst ds=>(match strs? ds with | some xs=>R.guard (xs.length<=1000) (.ok (.int (fX xs).length)) | none=>.no)
 | _=>.no
noncomputable def z9o(g:G->R D):G->R (List D):=λΓ=>g Γ>>=λd=>match d with
 | .lst ds=>R.guard (ds.length<=100000/\D.bC ds=true) (.ok ds.reverse)
 | _=>.no
noncomputable def n9(xs:List Str)(x:Str):R D:=match xs.findIdx? (·==x) with
 | some j=>R.guard (xs.length<=1000) (.ok (.int (j:Int)))
 | none=>.no
noncomputable def xX(ga gb:G->R D):G->R D:=λΓ=>ga Γ>>=λa=>match a with
 | .tup ds=>gb Γ>>=λb=>(match b with
   | .str x=>(match strs? ds with | some xs=>n9 xs x | none=>.no)
   | _=>.no)
 | _=>.no
noncomputable def xY(ds:List D):R D:=match ds with
 | [.str x]=>R.guard (x.length<=640) (match intText? x with | some n=>.ok (.int n) | none=>.no)
 | _=>.no
def qj(i:Nat)(g:G->R D):G->R (D×List D):=λΓ=>R.good (g Γ)>>=λd=>match Γ[i]? with
 | some (.own ws)=>.ok (d,ws)
 | _=>.no
def d9(t:G->R Fl)(u:G->R (D×List D)):G->R (D×List D):=λΓ=>match t Γ with
 | .ok (.nx Γ')=>u Γ'
 | _=>.no
def n_(c:G->R Bool)(t u:G->R (D×List D)):G->R (D×List D):=λΓ=>R.good (c Γ)>>=λb=>if b=true then t Γ else u Γ
def A3:G->R Fl:=λ_=>.no
def D6:G->R (D×List D):=λ_=>.no
def iQ(i:Nat)(t:G->R Fl):G->R (D×List D):=λΓ=>match t Γ with
 | .ok (.nx Γ')=>(match Γ'[i]? with | some (.own ws)=>.ok (.cQ,ws) | _=>.no)
 | _=>.no
def gNoX(t:G->R Fl):G->R Fl:=λΓ=>match t Γ with
 | .ok (.ex _ _)=>.no
 | r=>r
def m_(p n i:Nat)(g:G->R (D×List D)):List D->R (D×List D):=λds=>if ds.length=p then (match ds[i]? with | some (.lst ws)=>g ((fz n ds).set i (.own ws)) | _=>.no) else .no
def Mn{p n i:Nat}{g:G->R (D×List D)}{ds:List D}(h:m_ p n i g ds ≠ .no):ds.length=p:=by
 unfold m_ at h
 by_cases q:ds.length=p
 ·exact q
 ·rw[if_neg q] at h;exact absurd rfl h
def tj{p n i:Nat}{g:G->R (D×List D)}{as bs ws:List D}(hi:as.length=i)(h:(as++D.lst ws::bs).length=p):m_ p n i g (as++D.lst ws::bs)=g ((fz n (as++D.lst ws::bs)).set i (.own ws)):=by
 unfold m_
 rw[if_pos h,uB (by lia),hi,Kk]
 rfl
def z9c(w:Nat)(gs:G->R (List D)):G->R (List D):=λΓ=>match Γ[w]? with
 | some (.own ws)=>gs Γ>>=λbs=>.ok (.lst ws::bs)
 | _=>.no
def Mo{c:Nat}:∀{a b r q:List Nat},c ∉ a->c ∉ b->a++c::r=b++c::q->a=b/\r=q
 | [],[],r,q,_,_,h=>by simpa using h
 | [],y::b,r,q,_,hb,h=>by
   simp only[pU,mI,Kl] at h
   exact absurd (h.1 ▸ gj ..) hb
 | x::a,[],r,q,ha,_,h=>by
   simp only[pU,mI,Kl] at h
   exact absurd (h.1 ▸ gj ..) ha
 | x::a,y::b,r,q,ha,hb,h=>by
   simp only[mI,Kl] at h
   obtain⟨h1,h2⟩:=Mo (λz=>ha (ft _ z)) (λz=>hb (ft _ z)) h.2
   exact⟨by rw[h.1,h1],h2⟩
def one(c:Nat):Str:=⟨#[c]⟩
def qk(c:Nat)(x y:Str)(r:List Str):(jZ (one c) (x::y::r)).cps.toList=x.cps.toList++c::(jZ (one c) (y::r)).cps.toList:=by
 show((x++one c++jZ (one c) (y::r)).cps).toList=_
 rw[CN,CN]
 simp[one]
def Mp{c:Nat}{x:Str}(hx:c ∉ x.cps.toList){y z:Str}{r:List Str}:x≠jZ (one c) (y::z::r):=λh=>by
 have e:=congrArg (λs:Str=>s.cps.toList) h
 rw[qk] at e
 exact hx (e ▸ dW _ (gj ..))
def Mq(c:Nat):∀{xs ys:List Str},xs≠[]->ys≠[]->(∀x∈xs,c ∉ x.cps.toList)->(∀y∈ys,c ∉ y.cps.toList)->jZ (one c) xs=jZ (one c) ys->xs=ys
 | [],_,h,_,_,_,_=>absurd rfl h
 | _,[],_,h,_,_,_=>absurd rfl h
 | [x],[y],_,_,_,_,h=>by rw[show x=y from h]
 | [x],y::z::r,_,_,hx,_,h=>absurd h (Mp (hx x (gj ..)))
 | x::w::q,[y],_,_,_,hy,h=>absurd h.symm (Mp (hy y (gj ..)))
 | x::w::q,y::z::r,_,_,hx,hy,h=>by
   have e:=congrArg (λs:Str=>s.cps.toList) h
   rw[qk,qk] at e
   obtain⟨h1,h2⟩:=Mo (hx x (gj ..)) (hy y (gj ..)) e
   have h3:jZ (one c) (w::q)=jZ (one c) (z::r):=zN (Array.toList_inj.mp h2)
   rw[show x=y from zN (Array.toList_inj.mp h1),Mq c (by simp) (by simp) (λa ha=>hx a (ft _ ha)) (λa ha=>hy a (ft _ ha)) h3]
def Wt(x y:Str):oQ x y≠[]:=by
 unfold oQ
 split
 ·simp
 ·split
  ·simp
  ·rw[StrLaws.partsBetween_eq]
   obtain⟨p,q,e⟩:=StrLaws.partsFrom_ne x y.length 0 (zG x y 0 x.length (x.length+1))
   rw[e];simp
def D7(c:Nat){xs:List Str}(h0:xs≠[])(h:∀x∈xs,c ∉ x.cps.toList):oQ (mH (one c) xs) (one c)=xs:=by
 have e:mH (one c) xs=jZ (one c) xs:=zO _ _
 rw[e]
 exact Mq c (Wt _ _) h0 (StrLaws.split_free _ c) h (StrLaws.join_split _ _)
end L3
namespace L3
open PySem PySem.NumText
def aW(n:Int):Str:=toString n
def Wu(s:String):(jn s).cps.toList=s.toList.map SJ:=by
 simp only[Str.ofString_eq_toList,List.toList_toArray]
def rF(m:Nat):(aW (m:Int)).cps.toList=(lF 10 m).map SJ:=by
 show(jn (Nat.repr m)).cps.toList=_
 rw[Wu,Nat.toList_repr]
def Wv(m:Nat):1<=(lF 10 m).length:=by
 by_cases h:m<10
 ·rw[wQ h];simp
 ·have hm:m%10<10:=SK m (by decide)
  have t:lF 10 (m/10)++lF 10 (m%10)=lF 10 (10*(m/10)+m%10):=SM (by decide) (by lia) hm
  rw[SN] at t
  rw[<-t,dN,wQ hm]
  simp
def Mr:∀d:Nat,d<10->(Nat.digitChar d).toNat-48=d:=by decide
def Ms(m:Nat):digitsVal ((lF 10 m).map SJ)=m:=by
 induction m using Nat.strongRecOn with
 | _ m ih =>
   by_cases h:m<10
   ·rw[wQ h]
    have e:=Mr m h
    show 0*10+((Nat.digitChar m).toNat-48)=m
    lia
   ·have hm:m%10<10:=SK m (by decide)
    have t:lF 10 (m/10)++lF 10 (m%10)=lF 10 (10*(m/10)+m%10):=SM (by decide) (by lia) hm
    rw[SN] at t
    rw[<-t,jF,wQ hm,fN,pT,digitsVal_snoc,ih (m/10) (by lia),Mr (m%10) hm]
    lia
def Ww{ch:Char}(h:ch.isDigit=true):48<=ch.toNat/\ch.toNat<=57:=by
 unfold Char.isDigit at h
 simp only[i0,decide_eq_true_eq] at h
 exact⟨h.1,h.2⟩
def tm{n:Int}(h0:0<=n):PySem.NumText.AllDigits (aW n).cps.toList:=by
 obtain⟨m,rfl⟩:=oR h0
 intro c hc
 rw[rF] at hc
 obtain⟨ch,i5,e⟩:=List.mem_map.mp hc
 have r:=Ww (Nat.isDigit_of_mem_toDigits (by decide) (by decide) i5)
 rw[<-e]
 exact r
def D8{n:Int}(h0:0<=n):(aW n).cps.toList≠[]:=by
 obtain⟨m,rfl⟩:=oR h0
 rw[rF]
 intro e
 have h:=Wv m
 rw[List.map_eq_nil_iff.mp e] at h
 exact absurd h (by decide)
def Wx:∀(k m:Nat),m<10^(k+1)->(lF 10 m).length<=k+1:=by
 intro k
 induction k with
 | zero=>intro m h;rw[wQ (by simpa using h)];simp
 | succ k ih =>
   intro m h
   by_cases q:m<10
   ·rw[wQ q];simp
   ·have hm:m%10<10:=SK m (by decide)
    have t:lF 10 (m/10)++lF 10 (m%10)=lF 10 (10*(m/10)+m%10):=SM (by decide) (by lia) hm
    rw[SN] at t
    rw[<-t,dN,wQ hm]
    have:=ih (m/10) (by rw[SO] at h;lia)
    simp only[b6,gS]
    lia
def vj{n:Int}(h0:0<=n)(h1:n<=10^30):(aW n).length<=31:=by
 obtain⟨m,rfl⟩:=oR h0
 have e:(aW (m:Int)).length=(lF 10 m).length:=by
  have:=congrArg Si (rF m)
  rw[aX] at this
  simpa [wJ] using this
 rw[e]
 refine Wx 30 m ?_
 have:(m:Int)<=((10^30:Nat):Int):=by simpa using h1
 have:=Int.ofNat_le.mp this
 exact Kf this (by decide)
def Wy{n:Int}(h0:0<=n):1<=(aW n).length:=by
 have:=D8 h0
 have e:(aW n).length=(aW n).cps.toList.length:=by simp[wJ]
 rw[e]
 exact List.length_pos_iff.mpr this
def Wz{n:Int}(h0:0<=n)(h1:n<=10^30):intText? (aW n)=some n:=by
 have e:=intText_digits (tm h0) (D8 h0) (fG (vj h0 h1) (by decide))
 obtain⟨m,rfl⟩:=oR h0
 rw[rF,Ms] at e
 exact e
def WA{n:Int}(h0:0<=n){r:List Nat}(h:(aW n).cps.toList=48::r):aW n=aW 0:=by
 obtain⟨m,rfl⟩:=oR h0
 have hd:=tm h0
 have hv:PySem.NumText.digitsVal (aW (m:Int)).cps.toList=m:=by rw[rF,Ms]
 have t:=toDigits_all (aW (m:Int)).cps.toList hd
 rw[hv] at t
 have hl:(aW (m:Int)).cps.toList.length=(lF 10 m).length:=by rw[rF,aX]
 rw[h] at t hl
 rw[List.dropWhile_cons] at t
 simp only[beq_self_eq_true,if_true] at t
 cases q:r.dropWhile (·==48) with
 | nil =>
   rw[q] at t
   refine zN (Array.toList_inj.mp ?_)
   rw[rF,t]
   exact(rF 0).symm
 | cons c s =>
   rw[q] at t
   have l1:=congrArg Si t
   rw[aX] at l1
   have l2:(c::s).length<=r.length:=by
    rw[<-q]
    exact(List.dropWhile_sublist _).length_le
   simp only[b6] at l1 l2 hl
   lia
end L3
namespace L3
open PySem
noncomputable section
def Mt:G->R Fl :=
 (aC (bU (gT (aj rk (gV 1) (ay c9 (ae (gV 0) ao)))) (aY (aj aF (gV 0) (gV 1))) cF)
 (aY (gC (.int 0))))
def nc:List D->R D:=bA 2 2 Mt
def Mu:G->R Fl :=
 (aC (e_ 3 (b_ ao))
 (aC (iO 4 (mV (gV 2))
 (aC (l0 3 (aG (aj cM (gV 0) (gV 1))))
 (a6 0 (aG (aj fV (gV 0) (gV 1))))))
 (aY (ay eK (ae (gV 3) ao)))))
def tq:List D->R D:=bA 3 5 Mu
def Mv:G->R Fl :=
 (aC (bU (gT (aj cS (aj cM (gV 0) (gC (.int 2))) (gC (.int 0)))) (aY (aj aF (d_ (LQ [3,5,7,11,13,17,19,23])) (aj cM (aj fV (gV 0) (gC (.int 2))) (gC (.int 8))))) cF)
 (aC (a6 1 (aG (aj dm (gC (.int 3)) (aj cM (aj fV (gV 0) (gC (.int 2))) (gC (.int 9971))))))
 (aC (fc (gT (ay qe (ae (gL (c8 (xP (gC (.int 2)) (gC (.int 100))) (rA (gT (aj rk (gV 0) (gV 2))) (aG (aj cS (aj cM (gV 2) (gV 0)) (gC (.int 0))))))) ao))) (a6 1 (aG (aj dm (gV 1) (gC (.int 1))))) 10000)
 (aY (gV 1)))))
def A4:List D->R D:=bA 1 2 Mv
def Mw:G->R Fl :=
 (aY (aj cM (gV 1) (gV 0)))
def pe:List D->R D:=bA 2 2 Mw
def Mx:G->R Fl :=
 (aC (a6 3 (aG (ay c9 (ae (gV 2) ao))))
 (aY (ay pe (ae (gV 0) (ae (aj dm (ay rq (ae (gL (c8 (mV (gV 3)) (dr (aG (aj jL (aj aF (gV 2) (gV 0)) (aj aF (gV 3) (gV 0))))))) ao)) (aj aF (gV 1) (gV 3))) ao)))))
def xZ:List D->R D:=bA 3 4 Mx
def Mz:G->R Fl :=
 (aY (ay eK (ae (gL (c8 (fQ (gV 1)) (dr (aG (ay (gv xZ) (ae (gV 1) (ae (gV 0) (ae (gV 3) ao)))))))) ao)))
def A5:List D->R D:=bA 3 3 Mz
def MA:G->R Fl :=
 (aY (ay rq (ae (gL (c8 (mV (ay c9 (ae (gV 1) ao))) (dr (aG (aj jL (aj aF (gV 1) (gV 0)) (aj aF (aj aF (gV 2) (gV 0)) (gV 3))))))) ao)))
def D9:List D->R D:=bA 3 3 MA
def MB:G->R Fl :=
 (aC (a6 3 (aG (ay c9 (ae (gV 1) ao))))
 (aC (e_ 4 (c8 (mV (aj dm (gV 3) (gC (.int 1)))) (dr (aG (ay (gv D9) (ae (gV 3) (ae (gV 2) (ae (gV 0) ao))))))))
 (aC (o_ 4 (gV 3) (aG (aj dm (aj aF (gV 4) (gV 3)) (aj aF (gV 2) (gV 3)))))
 (aY (ay eK (ae (gL (c8 (fQ (gV 4)) (dr (aG (ay (gv pe) (ae (gV 1) (ae (gV 0) ao))))))) ao))))))
def D_:List D->R D:=bA 3 5 MB
def MC:G->R Fl :=
 (aY (ay eK (ae (gL (c8 (fQ (gV 2)) (dr (aG (ay (gv D_) (ae (gV 1) (ae (gV 2) (ae (gV 0) ao)))))))) ao)))
def x_:List D->R D:=bA 3 3 MC
def MD:G->R Fl :=
 (aY (ay eK (ae (gL (c8 (mV (gV 0)) (dr (aG (DE (gT (aj cS (gV 0) (gV 2))) (gC (.int 1)) (gC (.int 0))))))) ao)))
def Ea:List D->R D:=bA 2 2 MD
def ME:G->R Fl :=
 (aY (ay eK (ae (gL (c8 (mV (gV 0)) (dr (aG (ay (gv Ea) (ae (aj dm (gV 1) (gC (.int 1))) (ae (gV 0) ao))))))) ao)))
def ya:List D->R D:=bA 1 1 ME
def MF:G->R Fl :=
 (aC (e_ 3 (ju (ay ya (ae (gV 0) ao))))
 (aC (o_ 3 (gV 1) (aG (ay eK (ae (gV 2) ao))))
 (aY (ay eK (ae (gV 3) ao)))))
def Eb:List D->R D:=bA 3 4 MF
def Ec:G->R Fl :=
 (aC (a6 2 (aG (ay pe (ae (gV 0) (ae (gV 1) ao)))))
 (aC (bU (gT (aj cS (gV 2) (gC (.int 0)))) (iw .o5) cF)
 (aC (a6 3 (aG (gC (.int 1))))
 (aC (fc (gT (aj eG (gV 2) (gC (.int 1)))) (aC (a6 3 (aG (ay pe (ae (gV 0) (ae (aj jL (kR (gV 3)) (aj fV (gV 0) (gV 2))) ao)))))
 (a6 2 (aG (aj cM (gV 0) (gV 2))))) 100000)
 (aY (gV 3))))))
def vn:List D->R D:=bA 2 4 Ec
end
def wkL (e : String) : Lean.MacroM (Lean.TSyntax `tactic) := do let l <- (("L3.fin L3.AV L3.bA L3.jN L3.gV L3.df L3.gC L3.ao L3.LQ L3.cF L3.aC L3.a6 L3.e_ L3.aG L3.ay L3.gx L3.ae L3.aY L3.qg L3.rB L3.vc L3.lZ L3.aj L3.gL L3.c8 L3.mV L3.xP L3.DT L3.dr L3.rA L3.gT L3.jt L3.jJ L3.jK L3.kQ L3.DD L3.kR L3.AD L3.DE L3.bU L3.d_ L3.b_ L3.V_ L3.lU L3.fQ L3.o9 L3.iO L3.l0 L3.o_ L3.u9 L3.AM L3.rp L3.L6 L3.rC L3.iw L3.kU L3.DQ L3.kT L3.j7 L3.L5 L3.AG L3.AH L3.iM L3.kW L3.L8 L3.ju L3.AL L3.D.ty L3.AN L3.AO L3.u_ L3.sW L3.V9 L3.fP L3.uX L3.gY L3.VR L3.VS L3.fz L3.c9 L3.eK L3.dm L3.kS L3.jL L3.fV L3.cM L3.o7 L3.rk L3.qd L3.o8 L3.xJ L3.cS L3.eG L3.aF L3.xN L3.gv L3.AB R.cz R.VN R.VM L3.bH L3.VO L3.Wa Bool.not_true Bool.not_false if_true if_false Bool.false_eq_true beq_self_eq_true ite_true ite_false Int.reduceToNat L3.qf L3.We L3.Wf L3.Wg L3.Wh L3.Wi L3.Az L3.LO L3.VH L3.VI L3.VG L3.DJ L3.VV and_true true_and and_self List.map_cons List.map_nil List.length_cons List.length_nil List.length_map List.length_range List.length_set List.length_append List.length_replicate List.cons_append List.nil_append List.append_assoc List.replicate List.set_cons_zero List.set_cons_succ List.getElem?_cons_zero List.getElem?_cons_succ L3.AJ L3.AK L3.V2 L3.V3 L3.xO L3.VW L3.VX Nat.reduceAdd Nat.reduceSub Nat.reduceMul Int.reduceAdd Int.reduceSub Int.reduceMul Int.reduceNeg Int.toNat_natCast L3.V5 L3.V7 L3.DP L3.LW L3.LX L3.VZ Option.map_some Int.add_zero Nat.reduceEqDiff Nat.reduceLeDiff Nat.zero_add Nat.add_zero Nat.sub_zero Nat.sub_self" ++ e).splitOn " ").toArray.mapM λn => `(Lean.Parser.Tactic.simpLemma| $(Lean.mkIdent n.toName):term); `(tactic| try simp (disch := first | decide | omega | exact Az _ | exact LO _ | exact AA _ | exact jI _ | exact DL _ _ | exact DG (by omega) | exact ⟨DG (by omega), DG (by omega)⟩ | exact VT (by first | assumption | exact DH (by omega)) | exact VU (by first | assumption | exact DH (by omega)) | assumption) only [$l,*])
local macro_rules | `(tactic| walk_at "ev") => wkL ""
def gy(ns:List Int)(k:Int):Int:=(ns[k.toNat]?).getD 0
def Ed{ns:List Int}{k:Int}(h0:0<=k)(h:k<(ns.length:Int)):c5 (ns.map D.int) k=some (.int (gy ns k)):=by
 rw[AF h0,e8]
 unfold gy
 rw[fu (by lia)];rfl
def WB{ns:List Int}{k:Int}(h0:0<=k)(h:¬k<(ns.length:Int)):gy ns k=0:=by
 unfold gy
 rw[jY (by lia)];rfl
def y2f{ns:List Int}{k:Int}(h0:0<=k):nc [.lst (ns.map D.int),.int k] = .ok (.int (gy ns k)):=by
 unfold nc Mt
 by_cases h:k<(ns.length:Int)
 ·have e1:=Ed h0 h
  have e2:decide (k<(ns.length:Int))=true:=decide_eq_true h
  walk_at "ev"
  simp only[e1,e2]
  walk_at "ev"
 ·have e2:decide (k<(ns.length:Int))=false:=decide_eq_false h
  have e3:=WB h0 h
  walk_at "ev"
  simp only[e2,e3]
  walk_at "ev"
def z4b:D->Bool
 | .int _=>true
 | _=>false
def ng(P:Int):Nat->Int->List Int
 | 0,_=>[]
 | n+1,c=>c%P::ng P n (c/P)
def Ee(P:Int):∀(n:Nat) (c:Int),(ng P n c).length=n
 | 0,_=>rfl
 | n+1,c=>by rw[ng,b6,Ee P n]
def dt(P:Int)(ns:List Int):Prop:=∀n∈ns,0<=n/\n<P
def Ef{P:Int}(hp:0<P):∀(n:Nat) (c:Int),dt P (ng P n c)
 | 0,_=>λx hx=>by simp[ng] at hx
 | n+1,c=>λx hx=>by
   rw[ng] at hx
   rcases List.mem_cons.mp hx with e | e
   ·subst e;exact⟨mY hp,mZ hp⟩
   ·exact Ef hp n _ x e
def ql(P:Int):Nat->Int->Int
 | 0,c=>c
 | n+1,c=>ql P n c/P
def rG(P:Int)(n:Nat)(c:Int):List Int:=(eW n).map λi=>ql P i c%P
def WC(P:Int)(n:Nat)(c:Int):rG P (n+1) c=rG P n c++[ql P n c%P]:=by
 unfold rG;rw[sE,jF];rfl
def MG(P:Int):∀(n:Nat) (c:Int),ql P (n+1) c=ql P n (c/P)
 | 0,c=>rfl
 | n+1,c=>by rw[ql,MG P n c];rfl
def MH(P:Int):∀(n:Nat) (c:Int),rG P n c=ng P n c
 | 0,c=>rfl
 | n+1,c=>by
   rw[ng,<-MH P n (c/P)]
   unfold rG
   rw[Km,fN,i4]
   congr 1
   apply Kn
   intro i _
   show ql P (i+1) c%P=_
   rw[MG]
def z6u{c P n:Int}(h1:0<P)(h2:P<1000000)(h3:0<=n)(h4:n<=20):tq [.int c,.int P,.int n] = .ok (.tup ((ng P n.toNat c).map D.int)):=by
 unfold tq Mu
 walk_at "ev"
 rw[Wd (λj=>[.ro (.int (ql P j c)),.ro (.int P),.ro (.int n),.own ((rG P j c).map D.int),(match j with | 0=>.no | k+1=>.ro (.int (0+(k:Int))))])]
 ·walk_at "ev"
  rw[MH]
 ·rfl
 ·intro j hj
  have hl:(rG P j c).length<=100000:=by unfold rG;simp;lia
  walk_at "ev"
  rw[WC]
  simp[ql]
def eM(n:Int):Bool:=((eW 98).filterMap λ(i:Nat)=>if 2+(i:Int)<n then some (n%(2+(i:Int))==0) else none).any λb=>b
def A6(n:Int):eM n=true↔∃b:Int,2<=b/\b<100/\b<n/\n%b=0:=by
 unfold eM
 simp only[List.any_eq_true,List.mem_filterMap,List.mem_range]
 constructor
 ·rintro⟨x,⟨i,hi,e⟩,hx⟩
  by_cases q:2+(i:Int)<n
  ·rw[if_pos q] at e;cases e
   exact⟨2+i,by lia,by lia,q,by simpa using hx⟩
  ·rw[if_neg q] at e;cases e
 ·rintro⟨b,h1,h2,h3,h4⟩
  refine⟨true,⟨(b-2).toNat,by lia,?_⟩,rfl⟩
  have e:(2+(((b-2).toNat:Nat):Int))=b:=by lia
  rw[e,if_pos h3,h4];rfl
def WD{f:D->R (Option D)}{lo:Int}{n:Nat}{h:Nat->Option Bool}(q:∀i,i<n->f (.int (lo+(i:Int))) = .ok ((h i).map D.bl)):dF f (iN lo n) [] = .ok (((eW n).filterMap h).map D.bl):=by
 unfold iN
 rw[V8 (h:=λi=>(h i).map D.bl) λi hi=>q i (List.mem_range.mp hi),List.map_filterMap]
def WE{n c:Int}(Γ:G):gT (ay qe (ae (gL (c8 (xP (gC (.int 2)) (gC (.int 100))) (rA (gT (aj rk (gV 0) (gV 2))) (aG (aj cS (aj cM (gV 2) (gV 0)) (gC (.int 0))))))) ao)) (.ro (.int c) :: .ro (.int n)::Γ) = .ok (eM n):=by
 walk_at "ev"
 rw[WD (h:=λ(i:Nat)=>if 2+(i:Int)<n then some (n%(2+(i:Int))==0) else none)]
 ·walk_at "ev";rfl
 ·intro i hi
  walk_at "ev"
  by_cases q:2+(i:Int)<n
  ·simp only[decide_eq_true q,if_pos q]
   walk_at "ev"
  ·simp only[decide_eq_false q,if_neg q]
   rfl
def WG{k:Int}(h0:0<=k)(h1:k<8):∃p:Int,c5 (([3,5,7,11,13,17,19,23]:List Int).map D.int) k=some (.int p)/\3<=p/\p<=23/\eM p=false:=by
 have:k=0∨k=1∨k=2∨k=3∨k=4∨k=5∨k=6∨k=7:=by lia
 rcases this with rfl | rfl | rfl | rfl | rfl | rfl | rfl | rfl
 ·exact⟨3,rfl,by decide,by decide,by decide +kernel⟩
 ·exact⟨5,rfl,by decide,by decide,by decide +kernel⟩
 ·exact⟨7,rfl,by decide,by decide,by decide +kernel⟩
 ·exact⟨11,rfl,by decide,by decide,by decide +kernel⟩
 ·exact⟨13,rfl,by decide,by decide,by decide +kernel⟩
 ·exact⟨17,rfl,by decide,by decide,by decide +kernel⟩
 ·exact⟨19,rfl,by decide,by decide,by decide +kernel⟩
 ·exact⟨23,rfl,by decide,by decide,by decide +kernel⟩
def WH(c:Int):∃p:Int,A4 [.int c] = .ok (.int p)/\3<=p/\p<=9973/\eM p=false:=by
 unfold A4 Mv
 by_cases h:c%2=0
 ·have h0:0<=c/2%8:=by lia
  obtain⟨p,e,h1,h2,h3⟩:=WG (k:=c/2%8) (by lia) (by lia)
  refine⟨p,?_,h1,by lia,h3⟩
  have hb:(c%2==0)=true:=by simpa using h
  have hm:0<=c/2%8/\c/2%8<8:=by lia
  walk_at "ev"
  simp only[hb]
  simp only[fN,pT] at e
  walk_at "ev"
  simp only[e]
  rfl
 ·have hb:(c%2==0)=false:=by simpa using h
  have key:∀(n m:Nat) (Γ:G),m<n->(∃z:Int,Γ=[.ro (.int c),.ro (.int z)]/\3<=z/\z<=9973/\(9973-z).toNat=m) ->
   ∃z:Int,fc (gT (ay qe (ae (gL (c8 (xP (gC (.int 2)) (gC (.int 100))) (rA (gT (aj rk (gV 0) (gV 2))) (aG (aj cS (aj cM (gV 2) (gV 0)) (gC (.int 0))))))) ao))) (a6 1 (aG (aj dm (gV 1) (gC (.int 1))))) n Γ = .ok (.nx [.ro (.int c),.ro (.int z)])/\3<=z/\z<=9973/\eM z=false:=by
   refine AU _ (λr=>∃z:Int,r = .ok (.nx [.ro (.int c),.ro (.int z)])/\3<=z/\z<=9973/\eM z=false) ?_
   rintro m Γ ⟨z,rfl,h1,h2,h3⟩
   rw[WE]
   cases q:eM z with
   | false=>exact .inl ⟨rfl,z,rfl,h1,h2,q⟩
   | true =>
     have hz:z≠9973:=λe=>by rw[e] at q;exact absurd q (by decide +kernel)
     refine .inr ⟨rfl,.inl ⟨[.ro (.int c),.ro (.int (z+1))],(9973-(z+1)).toNat,by lia,.inl ?_,z+1,rfl,by lia,by lia,rfl⟩⟩
     walk_at "ev"
  have hz:3<=3+c/2%9971/\3+c/2%9971<=9973:=by lia
  obtain⟨z,e,h1,h2,h3⟩:=key 10000 (9973-(3+c/2%9971)).toNat [.ro (.int c),.ro (.int (3+c/2%9971))] (by lia) ⟨_,rfl,hz.1,hz.2,rfl⟩
  refine⟨z,?_,h1,h2,h3⟩
  walk_at "ev"
  simp only[hb]
  walk_at "ev"
  rw[e]
  walk_at "ev"
def aV(f s:List Int):Int:=bK (λi=>(f[i]?).getD 0*(s[i]?).getD 0) s.length+(f[s.length]?).getD 0
def s_on{P n:Int}(h:0<P):pe [.int P,.int n] = .ok (.int (n%P)):=by
 unfold pe Mw
 walk_at "ev"
def rH{l:List Int}{i:Nat}(h:i<l.length):c5 (l.map D.int) (i:Int)=some (.int ((l[i]?).getD 0)):=by
 rw[rm,e8,fu h];rfl
def fits(l:List Int):Prop:=∀n∈l,mQ n
def MI{l:List Int}(h:fits l)(i:Nat):mQ ((l[i]?).getD 0):=by
 by_cases q:i<l.length
 ·rw[fu q];exact h _ (oS q)
 ·rw[jY (by lia)];exact⟨by decide,by decide⟩
def dt.fits{P:Int}{l:List Int}(h:dt P l)(hp:P<18446744073709551616):fits l:=λn hn=>by
 have:=h n hn
 exact⟨by lia,by lia⟩
def WI{P:Int}{fs ss:List Int}(hp:0<P)(hf:fits fs)(hl:fs.length=ss.length+1)(hn:ss.length<=1000):xZ [.int P,.tup (fs.map D.int),.tup (ss.map D.int)] = .ok (.int (aV fs ss%P)):=by
 unfold xZ Mx
 walk_at "ev"
 rw[xR (h:=λi=>D.int ((fs[i]?).getD 0*(ss[i]?).getD 0))]
 ·have e1:((eW ss.length).map λi=>D.int ((fs[i]?).getD 0*(ss[i]?).getD 0))=((eW ss.length).map λi=>(fs[i]?).getD 0*(ss[i]?).getD 0).map D.int:=by rw[i4];rfl
  rw[e1]
  have e2:=rH (l:=fs) (i:=ss.length) (by lia)
  walk_at "ev"
  simp only[e2]
  walk_at "ev"
  rw[s_on hp,D4]
  rfl
 ·intro i hi
  have e1:=rH (l:=fs) (i:=i) (by lia)
  have e2:=rH (l:=ss) (i:=i) (by lia)
  have e3:=MI hf i
  walk_at "ev"
  simp only[uE,e1,e2]
  walk_at "ev"
def aZ(r:List Int):D:=.tup (r.map D.int)
def ku(r:List Int):aZ r = .tup (r.map D.int):=rfl
def z4t(r:List Int):(aZ r).cE=true:=AA r
def A7(t:List (List Int)):D.bC (t.map aZ)=true:=xI λr _=>AA r
def rJ(t:List (List Int)):D.cE (.tup (t.map aZ))=true:=by rw[LP];exact A7 t
def z5w(n:Nat)(r:List Int):D.lay (n+1) (aZ r)=true:=DL n r
def WJ(n:Nat)(t:List (List Int)):D.lay (n+2) (.tup (t.map aZ))=true:=by
 rw[xK,CK,mF];intro x _;exact DL n x
def MJ(r:List Int):D.pl (aZ r)=true:=LV r
def MK(t:List (List Int)):D.pl (.tup (t.map aZ))=true:=by
 rw[LS,CK,mF];intro x _;exact LV x
def ML:∀{a b:List Int},a.map D.int=b.map D.int->a=b
 | [],[],_=>rfl
 | [],_::_,h=>by simp at h
 | _::_,[],h=>by simp at h
 | x::a,y::b,h=>by simp at h;rw[h.1,ML h.2]
def Eg{a b:List Int}(h:aZ a=aZ b):a=b:=ML (by unfold aZ at h;simpa using h)
def MM:∀{a b:List (List Int)},a.map aZ=b.map aZ->a=b
 | [],[],_=>rfl
 | [],_::_,h=>by simp at h
 | _::_,[],h=>by simp at h
 | x::a,y::b,h=>by simp only[fN,Kl] at h;rw[Eg h.1,MM h.2]
def z6o(a b:List Int):bO (aZ a) (aZ b)=decide (a=b):=DO (MJ a) (MJ b) ⟨Eg,λh=>by rw[h]⟩
def z7x(a b:List Int):bO (.tup (a.map D.int)) (.tup (b.map D.int))=decide (a=b):=z6o a b
def WK(a b:List (List Int)):bO (.tup (a.map aZ)) (.tup (b.map aZ))=decide (a=b):=DO (MK a) (MK b) ⟨λh=>MM (by simpa using h),λh=>by rw[h]⟩
def atT{t:List (List Int)}{i:Nat}(h:i<t.length):c5 (t.map aZ) (i:Int)=some (aZ ((t[i]?).getD [])):=by
 rw[rm,e8,fu h];rfl
def vo(P:Int)(n:Nat)(r:List Int):Prop:=dt P r/\r.length=n+1
def dG(P:Int)(n:Nat)(t:List (List Int)):Prop:=t.length=n/\∀r∈t,vo P n r
def dH(P:Int)(t:List (List Int))(s:List Int):List Int:=t.map λr=>aV r s%P
def tu(P:Int)(t:List (List Int))(s:List Int):(dH P t s).length=t.length:=by unfold dH;simp
def Eh{P:Int}(hp:0<P)(t:List (List Int))(s:List Int):dt P (dH P t s):=λn hn=>by
 unfold dH at hn
 obtain⟨r,_,rfl⟩:=List.mem_map.mp hn
 exact⟨mY hp,mZ hp⟩
def WL{P:Int}{ts:List (List Int)}{ss:List Int}(hp:0<P)(rK:P<18446744073709551616)(ht:dG P ss.length ts)(hn:ss.length<=1000):A5 [.int P,.tup (ts.map aZ),.tup (ss.map D.int)] = .ok (.tup ((dH P ts ss).map D.int)):=by
 unfold A5 Mz
 have cW:ts.length<=100000:=by rw[ht.1];lia
 have Ei:=A7 ts
 walk_at "ev"
 rw[j8 (h:=λr=>D.int (aV r ss%P))]
 ·walk_at "ev"
  unfold dH
  rw[i4];rfl
 ·intro r hr
  have q:=ht.2 r hr
  have e1:xZ [D.int P,aZ r,D.tup (ss.map D.int)]=R.ok (D.int (aV r ss%P)):=WI hp (q.1.fits rK) q.2 hn
  rw[e1]
  walk_at "ev"
def WM(c:List D->R D):Prop:=∀ns:List Int,ns.length<=63->c [.lst (ns.map D.int)] = .ok (.bl true)
def yb{α:Type}{l:List α}{i:Nat}{d:α}(h:i<l.length):(l[i]?).getD d=l[i]:=by rw[fu h];rfl
def kv(P:Int)(t:List (List Int))(f:List Int):List Int:=(eW (t.length+1)).map λplace =>
 (bK (λx=>(f[x]?).getD 0*(((t[x]?).getD [])[place]?).getD 0) t.length+(if place=t.length then (f[t.length]?).getD 0 else 0))%P
def dP(P:Int)(a b:List (List Int)):List (List Int):=b.map (kv P a)
def WN(P:Int)(t:List (List Int))(f:List Int):(kv P t f).length=t.length+1:=by unfold kv;simp
def WO{P:Int}(hp:0<P)(t:List (List Int))(f:List Int):dt P (kv P t f):=λn hn=>by
 unfold kv at hn
 obtain⟨r,_,rfl⟩:=List.mem_map.mp hn
 exact⟨mY hp,mZ hp⟩
def oa{P:Int}(hp:0<P){n:Nat}{a b:List (List Int)}(ha:a.length=n)(hb:b.length=n):dG P n (dP P a b):=by
 unfold dP
 refine⟨by rw[aX,hb],λr hr=>?_⟩
 obtain⟨f,_,rfl⟩:=List.mem_map.mp hr
 exact⟨WO hp _ _,by rw[WN,ha]⟩
def MN{P:Int}{t:List (List Int)}{f:List Int}{k:Nat}(h:k<=t.length):((kv P t f)[k]?).getD 0=(bK (λx=>(f[x]?).getD 0*(((t[x]?).getD [])[k]?).getD 0) t.length+(if k=t.length then (f[t.length]?).getD 0 else 0))%P:=by
 unfold kv
 rw[e8,zP (by lia)];rfl
def WQ{P:Int}{t:List (List Int)}{f s:List Int}(hs:s.length=t.length):cg P (aV (kv P t f) s) (aV f (dH P t s)):=by
 unfold aV
 rw[tu,hs]
 have h1:cg P (bK (λi=>((kv P t f)[i]?).getD 0*(s[i]?).getD 0) t.length+((kv P t f)[t.length]?).getD 0)
  (bK (λi=>bK (λx=>(f[x]?).getD 0*(((t[x]?).getD [])[i]?).getD 0) t.length*(s[i]?).getD 0) t.length+(bK (λx=>(f[x]?).getD 0*(((t[x]?).getD [])[t.length]?).getD 0) t.length+(f[t.length]?).getD 0)):=by
  refine cg.add (cg.bK λi hi=>cg.mul ?_ cg.refl) ?_
  ·rw[MN (by lia),if_neg (by lia),Int.add_zero];exact qh
  ·rw[MN (a9 _),if_pos rfl];exact qh
 have h2:cg P (bK (λi=>(f[i]?).getD 0*((dH P t s)[i]?).getD 0) t.length+(f[t.length]?).getD 0)
  (bK (λx=>(f[x]?).getD 0*(bK (λi=>(((t[x]?).getD [])[i]?).getD 0*(s[i]?).getD 0) t.length+(((t[x]?).getD [])[t.length]?).getD 0)) t.length+(f[t.length]?).getD 0):=by
  refine cg.add (cg.bK λx hx=>cg.mul cg.refl ?_) cg.refl
  unfold dH
  rw[e8,fu hx]
  show cg P (aV t[x] s%P) _
  refine qh.trans (cg.of_eq ?_)
  unfold aV
  rw[hs];rfl
 refine h1.trans (cg.trans (cg.of_eq ?_) h2.symm)
 have e1:bK (λi=>bK (λx=>(f[x]?).getD 0*(((t[x]?).getD [])[i]?).getD 0) t.length*(s[i]?).getD 0) t.length=bK (λx=>(f[x]?).getD 0*bK (λi=>(((t[x]?).getD [])[i]?).getD 0*(s[i]?).getD 0) t.length) t.length:=by
  rw[rD (g:=λi=>bK (λx=>(f[x]?).getD 0*((((t[x]?).getD [])[i]?).getD 0*(s[i]?).getD 0)) t.length) λi _=>by
   rw[<-Wm];exact rD λx _=>Int.mul_assoc _ _ _]
  rw[Mj]
  exact rD λx _=>D2 _ _ _
 rw[e1,rD (f:=λx=>(f[x]?).getD 0*(bK (λi=>(((t[x]?).getD [])[i]?).getD 0*(s[i]?).getD 0) t.length+(((t[x]?).getD [])[t.length]?).getD 0)) (g:=λx=>(f[x]?).getD 0*bK (λi=>(((t[x]?).getD [])[i]?).getD 0*(s[i]?).getD 0) t.length+(f[x]?).getD 0*(((t[x]?).getD [])[t.length]?).getD 0) λx _=>Int.mul_add _ _ _,D0]
 lia
def qm(n:Nat):List Int:=gG n 0
def j_(n k:Nat):List Int:=(eW n).map λi=>if i=k then 1 else 0
def Ej(n:Nat):(qm n).length=n:=by unfold qm;simp
def A8(n k:Nat):(j_ n k).length=n:=by unfold j_;simp
def WR(n i:Nat):((qm n)[i]?).getD 0=0:=by
 unfold qm
 rw[JY];split<;>rfl
def yc{n k i:Nat}(h:i<n):((j_ n k)[i]?).getD 0=if i=k then 1 else 0:=by
 unfold j_
 rw[e8,zP h];rfl
def MO(f:List Int)(n:Nat):aV f (qm n)=(f[n]?).getD 0:=by
 unfold aV
 rw[Ej,Wn λi _=>by rw[WR,Int.mul_zero]];lia
def MP(f:List Int){n k:Nat}(h:k<n):aV f (j_ n k)=(f[k]?).getD 0+(f[n]?).getD 0:=by
 unfold aV
 rw[A8,D3 h λi hi hk=>by rw[yc hi,if_neg hk,Int.mul_zero]]
 rw[yc h,if_pos rfl,Int.mul_one]
def ni{P:Int}{f:List Int}(hp:0<P)(h:dt P f)(k:Nat):0<=(f[k]?).getD 0/\(f[k]?).getD 0<P:=by
 by_cases q:k<f.length
 ·rw[yb q];exact h _ (oS q)
 ·rw[jY (by lia)];exact⟨by simp,by simpa using hp⟩
def MQ{a b:List Int}(hl:a.length=b.length)(h:∀k,k<a.length->(a[k]?).getD 0=(b[k]?).getD 0):a=b:=by
 apply CO hl
 intro k h1 h2
 have:=h k h1
 rw[yb h1,yb h2] at this
 exact this
def MR{P:Int}{n:Nat}{f g:List Int}(hp:0<P)(hf:vo P n f)(hg:vo P n g)(h0:cg P (aV f (qm n)) (aV g (qm n)))(h1:∀k,k<n->cg P (aV f (j_ n k)) (aV g (j_ n k))):f=g:=by
 have e0:(f[n]?).getD 0=(g[n]?).getD 0:=by
  rw[MO,MO] at h0
  exact h0.Ml (ni hp hf.1 n).1 (ni hp hf.1 n).2 (ni hp hg.1 n).1 (ni hp hg.1 n).2
 refine MQ (by rw[hf.2,hg.2]) λk hk=>?_
 rw[hf.2] at hk
 by_cases q:k=n
 ·rw[q];exact e0
 ·have jP:k<n:=by lia
  have h2:=h1 k jP
  rw[MP f jP,MP g jP,e0] at h2
  have h3:=h2.sub (cg.refl (P:=P) (a:=(g[n]?).getD 0))
  rw[show(f[k]?).getD 0+(g[n]?).getD 0-(g[n]?).getD 0=(f[k]?).getD 0 by lia,show(g[k]?).getD 0+(g[n]?).getD 0-(g[n]?).getD 0=(g[k]?).getD 0 by lia] at h3
  exact h3.Ml (ni hp hf.1 k).1 (ni hp hf.1 k).2 (ni hp hg.1 k).1 (ni hp hg.1 k).2
def rL{P:Int}{n:Nat}{a b:List (List Int)}{s:List Int}(ha:a.length=n)(hs:s.length=n):dH P (dP P a b) s=dH P b (dH P a s):=by
 unfold dP
 show(b.map (kv P a)).map (λr=>aV r s%P)=b.map λr=>aV r (dH P a s)%P
 rw[i4]
 apply Kn
 intro f _
 exact WQ (by rw[hs,ha])
def Ek{P:Int}{n:Nat}{a b:List (List Int)}(hp:0<P)(ha:dG P n a)(hb:dG P n b)(h:∀s,s.length=n->dH P a s=dH P b s):a=b:=by
 apply CO (by rw[ha.1,hb.1])
 intro k h1 h2
 have hw:∀s,s.length=n->cg P (aV a[k] s) (aV b[k] s):=λs hs=>by
  have e:=congrArg (λl=>(l[k]?).getD 0) (h s hs)
  unfold dH at e
  simp only[e8,fu h1,fu h2,CP,CQ] at e
  exact e
 exact MR hp (ha.2 _ (oS h1)) (hb.2 _ (oS h2)) (hw _ (Ej n)) λj _=>hw _ (A8 n j)
def A9{P:Int}{n:Nat}{a b c:List (List Int)}(hp:0<P)(ha:a.length=n)(hb:b.length=n)(hc:c.length=n):dP P (dP P a b) c=dP P a (dP P b c):=by
 have h1:=(oa hp ha hb).1
 have h2:=(oa hp hb hc).1
 refine Ek hp (oa hp h1 hc) (oa hp ha h2) λs hs=>?_
 rw[rL h1 hs,rL ha hs,rL ha hs,rL hb (by rw[tu,ha])]
def fe(n:Nat):List (List Int):=(eW n).map λx=>j_ (n+1) x
def tw(n:Nat):(fe n).length=n:=by unfold fe;simp
def tx{P:Int}(hp:1<P)(n:Nat):dG P n (fe n):=by
 refine⟨tw n,λr hr=>?_⟩
 unfold fe at hr
 obtain⟨x,_,rfl⟩:=List.mem_map.mp hr
 refine⟨λz hz=>?_,by rw[A8]⟩
 unfold j_ at hz
 obtain⟨i,_,rfl⟩:=List.mem_map.mp hz
 split<;>lia
def WS{n x:Nat}{s:List Int}(h:x<n)(hs:s.length=n):aV (j_ (n+1) x) s=(s[x]?).getD 0:=by
 unfold aV
 rw[hs,D3 h λi hi hk=>by rw[yc (by lia),if_neg hk,Int.zero_mul],yc (by lia),if_pos rfl,yc (by lia),if_neg (by lia)]
 lia
def yd{P:Int}{n:Nat}{s:List Int}(hs:s.length=n)(ho:dt P s):dH P (fe n) s=s:=by
 refine MQ (by rw[tu,tw,hs]) λk hk=>?_
 rw[tu,tw] at hk
 have e:((dH P (fe n) s)[k]?).getD 0=aV (j_ (n+1) k) s%P:=by
  unfold dH fe
  rw[i4,e8,zP hk];rfl
 rw[e,WS hk hs]
 have h2:k<s.length:=by lia
 rw[yb h2]
 have:=ho _ (oS h2)
 exact sF this.1 this.2
def WT{P:Int}{f s:List Int}:cg P (aV f (s.map (·%P))) (aV f s):=by
 unfold aV
 rw[aX]
 refine cg.add (cg.bK λi hi=>cg.mul cg.refl ?_) cg.refl
 rw[e8,fu hi]
 exact qh
def MS{P:Int}{t:List (List Int)}{s:List Int}:dH P t (s.map (·%P))=dH P t s:=by
 unfold dH
 exact Kn λr _=>WT
def WU{P:Int}{n:Nat}{s:List Int}(hp:0<P)(hs:s.length=n):dH P (fe n) s=s.map (·%P):=by
 rw[<-MS,yd (by rw[aX,hs])]
 intro z hz
 obtain⟨y,_,rfl⟩:=List.mem_map.mp hz
 exact⟨mY hp,mZ hp⟩
def ye{P:Int}{n:Nat}{t:List (List Int)}(hp:1<P)(ht:dG P n t):dP P (fe n) t=t:=by
 refine Ek (by lia) (oa (by lia) (tw n) ht.1) ht λs hs=>?_
 rw[rL (tw n) hs,WU (by lia) hs,MS]
def MT{P:Int}{n:Nat}{t:List (List Int)}(hp:1<P)(ht:dG P n t):dP P t (fe n)=t:=by
 refine Ek (by lia) (oa (by lia) ht.1 (tw n)) ht λs hs=>?_
 rw[rL ht.1 hs,yd (by rw[tu,ht.1]) (Eh (by lia) _ _)]
local macro_rules | `(tactic| walk_at "evs") => wkL " L3.y2f L3.z6u L3.s_on L3.z4b"
def yf{α:Type}(l:List α)(f:α->Int):l.map (λx=>D.int (f x))=(l.map f).map D.int:=by rw[i4];rfl
def WV{α:Type}(l:List α)(f:α->List Int):l.map (λx=>aZ (f x))=(l.map f).map aZ:=by rw[i4];rfl
def WW{P:Int}{n k:Nat}{t:List (List Int)}(ht:dG P n t)(hk:k<n):vo P n ((t[k]?).getD []):=by
 rw[yb (by rw[ht.1];exact hk)]
 exact ht.2 _ (oS _)
def WX{P:Int}{n k:Nat}{f:List Int}{t:List (List Int)}(hf:fits f)(hl:n<=f.length)(ht:dG P n t)(hn:n<=1000)(hk:k<=n):D9 [.tup (f.map D.int),.tup (t.map aZ),.int k] = .ok (.int (bK (λx=>(f[x]?).getD 0*(((t[x]?).getD [])[k]?).getD 0) n)):=by
 refine b7 rfl ?_
 delta MA
 refine bT ?_
 have A_:=ht.1
 walk_at "evs"
 rw[xR (h:=λx=>D.int ((f[x]?).getD 0*(((t[x]?).getD [])[k]?).getD 0)),yf]
 ·walk_at "evs"
  rw[D4,A_]
 ·intro x hx
  have hr:=WW ht (k:=x) (by lia)
  have e1:=rH (l:=f) (i:=x) (by lia)
  have e2:=atT (t:=t) (i:=x) (by lia)
  have e3:=rH (l:=(t[x]?).getD []) (i:=k) (by rw[hr.2];lia)
  have e4:=MI hf x
  walk_at "evs"
  simp only[uE,e1,e2]
  walk_at "evs"
  simp only[ku,e3]
  walk_at "evs"
def WY{P:Int}{n:Nat}{f:List Int}{t:List (List Int)}(hp:0<P)(rK:P<1000000)(hf:vo P n f)(ht:dG P n t)(hn:n<=100):D_ [.int P,.tup (t.map aZ),.tup (f.map D.int)] = .ok (aZ (kv P t f)):=by
 have A_:=ht.1
 refine b7 rfl ?_
 delta MB
 refine cu (d:=.int n) (by walk_at "evs";rw[A_]) ?_
 refine iP (ds:=((eW (n+1)).map λk=>bK (λx=>(f[x]?).getD 0*(((t[x]?).getD [])[k]?).getD 0) n).map D.int) ?_ ?_
 ·walk_at "evs"
  rw[show((n:Int)+1).toNat=n+1 by lia,xR (h:=λk=>D.int (bK (λx=>(f[x]?).getD 0*(((t[x]?).getD [])[k]?).getD 0) n)),yf]
  intro k hk
  have e:=WX (f:=f) (k:=k) (hf.1.fits (by lia)) (by rw[hf.2];lia) ht (by lia) (by lia)
  walk_at "evs"
  simp only[uE,e]
  walk_at "evs"
 have e1:=rH (l:=f) (i:=n) (by rw[hf.2];lia)
 have e2:=rH (l:=(eW (n+1)).map λk=>bK (λx=>(f[x]?).getD 0*(((t[x]?).getD [])[k]?).getD 0) n) (i:=n) (by simp)
 have e3:((((eW (n+1)).map λk=>bK (λx=>(f[x]?).getD 0*(((t[x]?).getD [])[k]?).getD 0) n)[n]?).getD 0)=bK (λx=>(f[x]?).getD 0*(((t[x]?).getD [])[n]?).getD 0) n:=by
  rw[e8,zP (by lia)];rfl
 rw[e3] at e2
 generalize hL:((eW (n+1)).map λk=>bK (λx=>(f[x]?).getD 0*(((t[x]?).getD [])[k]?).getD 0) n)=L at *
 have WZ:L.length=n+1:=by rw[<-hL];simp
 refine gJ (DX (ds:=L.map D.int) (j:=n) (n:=n) (d:=.int (bK (λx=>(f[x]?).getD 0*(((t[x]?).getD [])[n]?).getD 0) n+(f[n]?).getD 0)) ?_ ?_ ?_ ?_) ?_
 ·rfl
 ·walk_at "evs"
  simp only[e1,e2]
  walk_at "evs"
 ·walk_at "evs"
 ·rw[aX,WZ]
  unfold jr
  rw[if_pos (by lia),if_pos (by lia)];simp
 refine bT ?_
 have e4:(L.map D.int).set n (.int (bK (λx=>(f[x]?).getD 0*(((t[x]?).getD [])[n]?).getD 0) n+(f[n]?).getD 0))=((eW (n+1)).map λk=>D.int (bK (λx=>(f[x]?).getD 0*(((t[x]?).getD [])[k]?).getD 0) n+(if k=n then (f[n]?).getD 0 else 0))):=by
  rw[<-hL]
  apply CO (by simp)
  intro k h1 h2
  rw[a4x]
  by_cases q:n=k
  ·subst q;simp
  ·rw[if_neg q];simp[eA q]
 walk_at "evs"
 rw[e4]
 have e5:D.bC ((eW (n+1)).map λk=>D.int (bK (λx=>(f[x]?).getD 0*(((t[x]?).getD [])[k]?).getD 0) n+(if k=n then (f[n]?).getD 0 else 0)))=true:=xI λ_ _=>Az _
 rw[bH e5]
 walk_at "evs"
 rw[j8 (h:=λk=>D.int ((bK (λx=>(f[x]?).getD 0*(((t[x]?).getD [])[k]?).getD 0) n+(if k=n then (f[n]?).getD 0 else 0))%P))]
 ·walk_at "evs"
  unfold kv
  rw[A_]
  unfold aZ
  rw[i4];rfl
 ·intro k hk
  walk_at "evs"
def El{P:Int}{n:Nat}{a b:List (List Int)}(hp:0<P)(rK:P<1000000)(ha:dG P n a)(hb:dG P n b)(hn:n<=100):x_ [.int P,.tup (a.map aZ),.tup (b.map aZ)] = .ok (.tup ((dP P a b).map aZ)):=by
 refine b7 rfl ?_
 delta MC
 refine bT ?_
 have h1:=A7 b
 have h2:b.length<=100000:=by rw[hb.1];lia
 walk_at "evs"
 rw[j8 (h:=λf=>aZ (kv P a f))]
 ·walk_at "evs"
  unfold dP
  rw[i4];rfl
 ·intro f hf
  have e:=WY hp rK (hb.2 f hf) ha hn
  have e2:=z4t (kv P a f)
  walk_at "evs"
  simp only[ku f,e]
  walk_at "evs"
def W0{n x:Nat}(hn:n<=1000):Ea [.int n,.int x] = .ok (aZ (j_ n x)):=by
 refine b7 rfl ?_
 delta MD
 refine bT ?_
 walk_at "evs"
 rw[xR (h:=λi=>D.int (if i=x then 1 else 0)),yf]
 ·walk_at "evs";rfl
 ·intro i hi
  walk_at "evs"
  by_cases q:i=x
  ·subst q
   have e:((0:Int)+(i:Int)==(i:Int))=true:=by simp
   simp only[e]
   walk_at "evs"
  ·have e:((0:Int)+(i:Int)==(x:Int))=false:=by simp;lia
   simp only[e,if_neg q]
   walk_at "evs"
def Em{n:Nat}(hn:n<=100):ya [.int n] = .ok (.tup ((fe n).map aZ)):=by
 refine b7 rfl ?_
 delta ME
 refine bT ?_
 walk_at "evs"
 rw[xR (h:=λx=>aZ (j_ (n+1) x)),WV]
 ·walk_at "evs";rfl
 ·intro x hx
  have e:=W0 (n:=n+1) (x:=x) (by lia)
  rw[show(((n+1:Nat):Int))=(n:Int)+1 by lia] at e
  have e2:=z4t (j_ (n+1) x)
  walk_at "evs"
  simp only[uE,e]
  walk_at "evs"
def dg(t:List (List Int)):D:=.tup (t.map aZ)
def z7q(t:List (List Int)):(dg t).cE=true:=rJ t
def MU(l:List (List (List Int))):D.bC (l.map dg)=true:=xI λt _=>rJ t
def z7t(n:Nat)(t:List (List Int)):D.lay (n+2) (dg t)=true:=WJ n t
def z7v(a b:List (List Int)):bO (dg a) (dg b)=decide (a=b):=WK a b
def W2(lo st:Int)(n:Nat):(lX lo st n).length=n:=by unfold lX;simp
def W3{lo st:Int}{n j:Nat}{d:D}(h:(lX lo st n)[j]? = some d):j<n/\d = .int (lo+st*(j:Int)):=by
 have hj:j<n:=by
  have:=(List.getElem?_eq_some_iff.mp h).1
  rw[W2] at this;exact this
 refine⟨hj,?_⟩
 unfold lX at h
 rw[e8,zP hj] at h
 cases h;rfl
def W4{lo:Int}{n j:Nat}{d:D}(h:(iN lo n)[j]? = some d):j<n/\d = .int (lo+(j:Int)):=by
 have hj:j<n:=by
  have:=(List.getElem?_eq_some_iff.mp h).1
  rw[qf] at this;exact this
 rw[AQ lo _ _ hj] at h
 cases h;exact⟨hj,rfl⟩
end L3
namespace L3
open PySem
local macro_rules | `(tactic| walk_at "evs") => wkL " L3.y2f L3.z6u L3.s_on L3.z4b L3.z7q L3.z7t L3.z7v L3.z5w L3.z6o L3.z7x L3.z4t"
def vp(n:Nat):List (List Int):=qm n::(eW n).map (j_ n)
def W5{n x:Nat}{f:List Int}(hn:n<=100)(hx:x<n):Eb [.int n,.int x,aZ f] = .ok (dg ((fe n).set x f)):=by
 refine b7 rfl ?_
 delta MF
 have e:=Em hn
 have Ei:=A7 (fe n)
 refine iP (ds:=(fe n).map aZ) (by walk_at "evs";simp only[e];walk_at "evs") ?_
 refine gJ (DX (ds:=(fe n).map aZ) (j:=x) (n:=x) (d:=aZ f) rfl (by simp only[ku];walk_at "evs") (by walk_at "evs") ?_) ?_
 ·rw[aX,tw]
  unfold jr
  rw[if_pos (by lia),if_pos (by lia)];simp
 refine bT ?_
 walk_at "evs"
 unfold dg
 rw[SQ]
def W6{P d:Int}(hp:eM P=false)(h3:3<=P)(h:P<=9973)(h1:2<=d)(h2:d<P):P%d≠0:=by
 intro e
 have hn:¬∃b:Int,2<=b/\b<100/\b<P/\P%b=0:=λq=>by rw[(A6 P).mpr q] at hp;cases hp
 by_cases hd:d<100
 ·exact hn ⟨d,h1,hd,h2,e⟩
 ·have e1:P=d*(P/d):=by have:=SR P d;lia
  generalize hq:P/d=q at *
  have q0:0<q:=by
   rcases a4y 0 q with z | z | z
   ·exact z
   ·rw[<-z] at e1;simp at e1;lia
   ·have:d*q<0:=a4z (by lia) z
    lia
  have q1:q≠1:=λz=>by rw[z] at e1;lia
  have q2:q<100:=by
   rcases CS q 100 with z | z
   ·exact z
   ·have:100*100<=d*q:=Ko (by lia) z (by lia) (by lia)
    lia
  refine hn ⟨q,by lia,q2,?_,?_⟩
  ·have:2*q<=d*q:=SS h1 (by lia)
   lia
  ·rw[e1];exact a5a d q
def W7{P n0:Int}(hp:eM P=false)(h3:3<=P)(h:P<=9973)(x1:En):∀(k m:Nat) (Γ:G),m<k ->
 (∃a b:Int,Γ=[.ro (.int P),x1,.ro (.int b),.ro (.int a)]/\1<=b/\b<P/\0<=a/\a<P/\cg P (a*n0) b/\b.toNat=m) ->
 ∃a:Int,fc (gT (aj eG (gV 2) (gC (.int 1)))) (aC (a6 3 (aG (ay pe (ae (gV 0) (ae (aj jL (kR (gV 3)) (aj fV (gV 0) (gV 2))) ao))))) (a6 2 (aG (aj cM (gV 0) (gV 2))))) k Γ = .ok (.nx [.ro (.int P),x1,.ro (.int 1),.ro (.int a)])/\0<=a/\a<P/\cg P (a*n0) 1:=by
 refine AU _ (λr=>∃a:Int,r = .ok (.nx [.ro (.int P),x1,.ro (.int 1),.ro (.int a)])/\0<=a/\a<P/\cg P (a*n0) 1) ?_
 rintro m Γ ⟨a,b,rfl,b1,b2,a1,a2,hc,hm⟩
 by_cases hb:b=1
 ·subst hb
  refine .inl ⟨by walk_at "evs",a,rfl,a1,a2,hc⟩
 ·have Eo:(b==1)=false:=by simpa using hb
  have hnd:=W6 hp h3 h (d:=b) (by lia) b2
  have r1:0<=P%b:=mY (by lia)
  have r2:P%b<b:=mZ (by lia)
  have hq0:0<=P/b:=a5b (by lia) (by lia)
  have hq1:P/b<=P:=a5c b (by lia)
  have he:P%b=P-b*(P/b):=by have:=SR P b;lia
  refine .inr ⟨by walk_at "evs";simp only[Eo];walk_at "evs",.inl ⟨[.ro (.int P),x1,.ro (.int (P%b)),.ro (.int ((-a*(P/b))%P))],(P%b).toNat,by lia,.inl ?_,_,_,rfl,by lia,by lia,mY (by lia),mZ (by lia),?_,rfl⟩⟩
  ·refine cu (d:=.int ((-a*(P/b))%P)) (by walk_at "evs") ?_
   refine kZ ?_
   walk_at "evs"
  ·have c1:cg P ((-a*(P/b))%P*n0) (-(P/b)*(a*n0)):=by
    refine(qh.mul cg.refl).trans (cg.of_eq ?_)
    rw[Kp,Kp,Kp,Int.mul_assoc,Int.mul_left_comm]
   have c2:cg P (-(P/b)*(a*n0)) (-(P/b)*b):=cg.mul cg.refl hc
   refine(c1.trans c2).trans ?_
   rw[he]
   have:cg P (-(P/b)*b) (P-b*(P/b)):=by
    rw[Wo]
    rw[show -(P/b)*b-(P-b*(P/b)) = -P by rw[Kp,Ki];lia]
    simp
   exact this
def W8{P n:Int}(hp:eM P=false)(h3:3<=P)(h:P<=9973):(n%P=0->vn [.int P,.int n] = .er .o5)/\(n%P≠0->∃a:Int,vn [.int P,.int n] = .ok (.int a)/\0<a/\a<P/\(a*n)%P=1):=by
 have r1:0<=n%P:=mY (by lia)
 have r2:n%P<P:=mZ (by lia)
 refine⟨λe=>?_,λe=>?_⟩
 ·refine mX (Γ:=[.ro (.int P),.ro (.int n),.ro (.int 0),.no]) rfl ?_
  delta Ec
  refine cu (d:=.int 0) (by walk_at "evs";rw[e];walk_at "evs") ?_
  refine sY (gK (by walk_at "evs") ?_)
  rfl
 ·have Eo:(n%P==0)=false:=by simpa using e
  obtain⟨a,ea,a1,a2,ac⟩:=W7 (n0:=n%P) hp h3 h (.ro (.int n)) 100000 (n%P).toNat [.ro (.int P),.ro (.int n),.ro (.int (n%P)),.ro (.int 1)] (by lia) ⟨1,n%P,rfl,by lia,r2,by lia,by lia,cg.of_eq (by lia),rfl⟩
  have hc:cg P (a*n) 1:=(cg.mul cg.refl qh.symm).trans ac
  have h1:(a*n)%P=1:=by
   unfold cg at hc
   rw[hc,sF (by lia) (by lia)]
  have a0:a≠0:=λz=>by rw[z] at h1;simp at h1
  refine⟨a,?_,by lia,a2,h1⟩
  refine b7 rfl ?_
  delta Ec
  refine cu (d:=.int (n%P)) (by walk_at "evs") ?_
  refine c_ (by walk_at "evs";simp only[Eo];walk_at "evs") ?_
  refine cu (d:=.int 1) (by walk_at "evs") ?_
  refine gJ ea ?_
  exact bT (by walk_at "evs")
noncomputable section
def MV:G->R Fl :=
 (aY (kQ (u9 AN (gV 0)) (DD (u9 AO (gV 0)))))
def Ba:List D->R D:=bA 1 1 MV
def MW:G->R Fl :=
 (aY (kQ (ay Ba (ae (gV 0) ao)) (kQ (aj qd (gV 1) (gV 0)) (aj qd (gV 0) (gV 2)))))
def pf:List D->R D:=bA 3 3 MW
def Ep:G->R Fl :=
 (aC (a6 1 (aG (gC (.int 2))))
 (aC (fc (gT (aj qd (aj jL (gV 1) (gV 1)) (gV 0))) (aC (bU (gT (aj cS (aj cM (gV 0) (gV 1)) (gC (.int 0)))) (aY (gV 1)) cF)
 (a6 1 (aG (aj dm (gV 1) (gC (.int 1)))))) 10000)
 (aY (gV 0))))
def Es:List D->R D:=bA 1 2 Ep
def MX:G->R Fl :=
 (aY (kQ (ay pf (ae (gV 0) (ae (gC (.int 3)) (ae (gC (.int 9999)) ao)))) (aj cS (ay Es (ae (gV 0) ao)) (gV 0))))
def Bb:List D->R D:=bA 1 1 MX
def MY:G->R Fl :=
 (aC (bU (jK (gT (ay Bb (ae (gV 0) ao)))) (iw .qc) cF)
 (aY (gV 0)))
def Et:List D->R D:=bA 1 1 MY
end
def W9{d:D}(h:d.ko=true):Ba [d] = .ok (.bl (z4b d)):=by
 unfold Ba MV
 cases d<;>first | rfl | (simp[D.ko] at h)
def tB(n q:Int):Prop:=(n=1/\q=1)∨(2<=q/\q<=n/\n%q=0/\∀e:Int,2<=e->e<q->n%e≠0)
def MZ{n b:Int}(hn:1<=n)(b1:2<=b)(b2:b<n)(hb:n%b=0):n=b*(n/b)/\2<=n/b/\n/b<n/\n%(n/b)=0:=by
 have e1:n=b*(n/b):=by have:=SR n b;lia
 generalize hq:n/b=q at *
 have q0:0<q:=by
  rcases a4y 0 q with z | z | z
  ·exact z
  ·rw[<-z] at e1;simp at e1;lia
  ·have:b*q<0:=a4z (by lia) z
   lia
 have q1:q≠1:=λz=>by rw[z] at e1;lia
 have q2:2*q<=b*q:=SS b1 (by lia)
 exact⟨e1,by lia,by lia,by rw[e1];exact a5a b q⟩
def W_{n d:Int}(h1:1<=n)(d1:2<=d)(hq:¬d*d<=n)(hd:∀e:Int,2<=e->e<d->n%e≠0):tB n n:=by
 by_cases hn:n=1
 ·exact .inl ⟨hn,hn⟩
 refine .inr ⟨by lia,by lia,Int.emod_self,λe e1 e2 z=>?_⟩
 obtain⟨c1,c2,c3,c4⟩:=MZ h1 e1 e2 z
 have e3:d<=e:=by
  rcases CS e d with w | w
  ·exact absurd z (hd e e1 w)
  ·exact w
 have e4:d<=n/e:=by
  rcases CS (n/e) d with w | w
  ·exact absurd c4 (hd _ c2 w)
  ·exact w
 have:d*d<=e*(n/e):=Ko e3 e4 (by lia) (by lia)
 lia
def Xa{n:Int}(h1:1<=n)(h2:n<=100000000):∀(k m:Nat) (Γ:G),m<k ->
 (∃d:Int,Γ=[.ro (.int n),.ro (.int d)]/\2<=d/\d<=10001/\(∀e:Int,2<=e->e<d->n%e≠0)/\(10001-d).toNat=m) ->
 (∃q,tB n q/\fc (gT (aj qd (aj jL (gV 1) (gV 1)) (gV 0))) (aC (bU (gT (aj cS (aj cM (gV 0) (gV 1)) (gC (.int 0)))) (aY (gV 1)) cF) (a6 1 (aG (aj dm (gV 1) (gC (.int 1)))))) k Γ = .ok (.rt (.int q))) ∨
 (tB n n/\∃x,fc (gT (aj qd (aj jL (gV 1) (gV 1)) (gV 0))) (aC (bU (gT (aj cS (aj cM (gV 0) (gV 1)) (gC (.int 0)))) (aY (gV 1)) cF) (a6 1 (aG (aj dm (gV 1) (gC (.int 1)))))) k Γ = .ok (.nx [.ro (.int n),x])):=by
 refine AU _ (λr=>(∃q,tB n q/\r = .ok (.rt (.int q)))∨(tB n n/\∃x,r = .ok (.nx [.ro (.int n),x]))) ?_
 rintro m Γ ⟨d,rfl,d1,d2,hd,hm⟩
 by_cases hq:d*d<=n
 ·have e1:decide (d*d<=n)=true:=decide_eq_true hq
  have d3:d<10001:=by
   rcases CS d 10001 with z | z
   ·exact z
   ·have:10001*10001<=d*d:=Ko z z (by lia) (by lia)
    lia
  refine .inr ⟨by walk_at "evs";simp only[e1],?_⟩
  by_cases hz:n%d=0
  ·have e2:(n%d==0)=true:=by simpa using hz
   have d5:2*d<=d*d:=SS d1 (by lia)
   refine .inr (.inr (.inl ⟨.int d,?_,.inl ⟨d,.inr ⟨d1,by lia,hz,hd⟩,rfl⟩⟩))
   refine l8 (gK (by walk_at "evs";simp only[e2]) ?_)
   exact bT (by walk_at "evs")
  ·have e2:(n%d==0)=false:=by simpa using hz
   refine .inl ⟨[.ro (.int n),.ro (.int (d+1))],(10001-(d+1)).toNat,by lia,.inl ?_,d+1,rfl,by lia,by lia,λe z1 z2=>?_,rfl⟩
   ·refine c_ (by walk_at "evs";simp only[e2]) ?_
    refine kZ ?_
    walk_at "evs"
   ·by_cases ee:e=d
    ·rw[ee];exact hz
    ·exact hd e z1 (by lia)
 ·have e1:decide (d*d<=n)=false:=decide_eq_false hq
  exact .inl ⟨by walk_at "evs";simp only[e1],.inr ⟨W_ h1 d1 hq hd,_,rfl⟩⟩
def Xb{n:Int}(h1:1<=n)(h2:n<=100000000):∃q,tB n q/\Es [.int n] = .ok (.int q):=by
 rcases Xa h1 h2 10000 (10001-2:Int).toNat [.ro (.int n),.ro (.int 2)] (by decide) ⟨2,rfl,by lia,by lia,λe z1 z2=>by lia,rfl⟩ with ⟨q,hl,e⟩ | ⟨hl,x,e⟩
 ·refine⟨q,hl,b7 rfl ?_⟩
  delta Ep
  refine cu (d:=.int 2) (by walk_at "evs") ?_
  exact l8 e
 ·refine⟨n,hl,b7 rfl ?_⟩
  delta Ep
  refine cu (d:=.int 2) (by walk_at "evs") ?_
  exact gJ e (bT (by walk_at "evs"))
def Xc{n q:Int}(h1:3<=n)(h2:n<=9999)(h:tB n q):(q==n)=!eM n:=by
 rcases h with ⟨z,_⟩ | ⟨q1,q2,q3,q4⟩
 ·lia
 by_cases e:q=n
 ·subst e
  have:eM q=false:=by
   cases w:eM q with
   | false=>rfl
   | true =>
     obtain⟨b,b1,b2,b3,b4⟩:=(A6 _).mp w
     exact absurd b4 (q4 b b1 b3)
  rw[this];simp
 ·have:eM n=true:=by
   obtain⟨c1,c2,c3,c4⟩:=MZ (by lia) q1 (by lia) q3
   by_cases w:q<100
   ·exact(A6 _).mpr ⟨q,q1,w,by lia,q3⟩
   ·refine(A6 _).mpr ⟨n/q,c2,?_,c3,c4⟩
    rcases CS (n/q) 100 with z | z
    ·exact z
    ·have:100*100<=q*(n/q):=Ko (by lia) z (by lia) (by lia)
     lia
  rw[this]
  simp[e]
def Xd(n:Int):Bool:=decide (3<=n)&&(decide (n<=9999)&&!eM n)
def Bc:D->Bool
 | .int n=>Xd n
 | _=>false
def lb(d:D)(a b:Int):Bool :=
 match d with
 | .int n=>decide (a<=n)&&decide (n<=b)
 | _=>false
def vq{d:D}{a b:Int}(h:d.ko=true):pf [d,.int a,.int b] = .ok (.bl (lb d a b)):=by
 refine b7 rfl ?_
 delta MW
 refine bT ?_
 have hw:=W9 h
 cases hd:z4b d with
 | false =>
   rw[hd] at hw
   have:lb d a b=false:=by cases d<;>first | rfl | (simp[z4b] at hd)
   rw[this]
   walk_at "evs"
   simp only[hw]
   walk_at "evs"
 | true =>
   rw[hd] at hw
   cases d with
   | int n =>
     walk_at "evs"
     simp only[hw]
     walk_at "evs"
     by_cases h3:a<=n
     ·have e1:decide (a<=n)=true:=decide_eq_true h3
      simp only[e1]
      walk_at "evs"
      show _=R.ok (D.bl (decide (a<=n)&&decide (n<=b)))
      rw[e1];rfl
     ·have e1:decide (a<=n)=false:=decide_eq_false h3
      simp only[e1]
      walk_at "evs"
      show _=R.ok (D.bl (decide (a<=n)&&decide (n<=b)))
      rw[e1];rfl
   | _=>simp[z4b] at hd
def M0{d:D}(h:d.ko=true):Bb [d] = .ok (.bl (Bc d)):=by
 refine b7 rfl ?_
 delta MX
 refine bT ?_
 have hw:=vq (a:=3) (b:=9999) h
 cases hd:lb d 3 9999 with
 | false =>
   rw[hd] at hw
   have:Bc d=false:=by
    cases d<;>first | rfl | skip
    rename_i n
    have hd:(decide (3<=n)&&decide (n<=9999))=false:=hd
    show(decide (3<=n)&&(decide (n<=9999)&&!eM n))=false
    simp only[Bool.and_eq_false_imp,decide_eq_true_eq,decide_eq_false_iff_not] at hd
    by_cases h3:3<=n
    ·rw[decide_eq_false (hd h3)];simp
    ·rw[decide_eq_false h3];rfl
   rw[this]
   walk_at "evs"
   simp only[hw]
   walk_at "evs"
 | true =>
   rw[hd] at hw
   cases d with
   | int n =>
     have hd:(decide (3<=n)&&decide (n<=9999))=true:=hd
     simp only[i0,decide_eq_true_eq] at hd
     obtain⟨q,hq,e3⟩:=Xb (n:=n) (by lia) (by lia)
     have e4:=Xc (by lia) (by lia) hq
     walk_at "evs"
     simp only[hw]
     walk_at "evs"
     simp only[e3]
     walk_at "evs"
     rw[e4]
     show _=R.ok (D.bl (decide (3<=n)&&(decide (n<=9999)&&!eM n)))
     rw[decide_eq_true (show 3<=n by lia),decide_eq_true (show n<=9999 by lia)];rfl
   | _=>simp[lb] at hd
def Xe{d:D}(h:d.ko=true)(hp:Bc d=true):Et [d] = .ok d:=by
 refine b7 rfl ?_
 delta MY
 have e:=M0 h
 rw[hp] at e
 refine c_ (by walk_at "evs";simp only[e];walk_at "evs") (bT ?_)
 walk_at "evs"
noncomputable section
def Xf:G->R Fl :=
 (aY (aj aF (gL (b_ (ae (aj cM (aj fV (gV 0) (gC (.int 3))) (gC (.int 5))) (ae (aj cM (aj fV (gV 0) (gC (.int 3))) (gC (.int 1000))) (ae (aj cM (aj fV (gV 0) (gC (.int 3))) (aj dm (aj o7 (gC (.int 10)) (gC (.int 30))) (gC (.int 1)))) ao))))) (aj cM (gV 0) (gC (.int 3)))))
def Bd:List D->R D:=bA 1 1 Xf
def Eu:G->R Fl :=
 (aC (a6 4 (aG (aj cM (gV 0) (gV 3))))
 (aC (a6 5 (aG (ay tq (ae (gV 1) (ae (gV 2) (ae (aj dm (gV 3) (gC (.int 1))) ao))))))
 (aC (bU (jt (gT (aj cS (aj aF (gV 5) (gV 4)) (gC (.int 0)))) (gT (aj o8 (aj cM (aj fV (gV 0) (gC (.int 3))) (gC (.int 6))) (gC (.int 0))))) (a6 5 (aG (aj dm (aj dm (kU (gV 5) kT (j7 (gV 4))) (d_ (ae (aj dm (gC (.int 1)) (aj cM (aj fV (gV 0) (gC (.int 18))) (aj kS (gV 2) (gC (.int 1))))) ao))) (kU (gV 5) (j7 (aj dm (gV 4) (gC (.int 1)))) kT)))) cF)
 (aY (d_ (ae (gC (.str "set")) (ae (gV 4) (ae (gV 5) ao))))))))
def Ew:List D->R D:=bA 4 6 Eu
def Ey:G->R Fl :=
 (aC (e_ 4 (b_ ao))
 (aC (e_ 5 (b_ ao))
 (aC (iO 6 (DT (gC (.int 0)) (aj kS (ay xN (ae (ay c9 (ae (gV 0) ao)) (ae (gC (.int 60)) ao))) (gC (.int 1))) (gC (.int 2)))
 (aC (a6 7 (aG (aj kS (ay c9 (ae (gV 4) ao)) (ay xN (ae (aj cM (aj fV (aj aF (gV 0) (gV 6)) (gC (.int 4))) (gC (.int 4))) (ae (ay c9 (ae (gV 4) ao)) ao))))))
 (aC (a6 8 (aG (aj dm (gC (.int 1)) (ay vd (ae (gL (kW (gL (b_ (ae (gC (.int 0)) ao))) (kU (gV 5) (j7 (gV 7)) kT))) ao)))))
 (bU (jt (gT (aj cS (aj cM (aj aF (gV 0) (gV 6)) (gC (.int 4))) (gC (.int 3)))) (jt (gT (aj rk (gV 8) (gC (.int 4)))) (gT (aj o8 (gV 3) (gC (.int 0)))))) (aC (e_ 4 (kW (kU (gV 4) kT (j7 (gV 7))) (gL (b_ (ae (d_ (ae (gC (.str "again")) (ae (ay Bd (ae (aj aF (gV 0) (aj dm (gV 6) (gC (.int 1)))) ao)) (ae (ay eK (ae (kU (gV 4) (j7 (gV 7)) kT) ao)) ao)))) ao)))))
 (aC (e_ 5 (kW (kU (gV 5) kT (j7 (gV 7))) (gL (b_ (ae (gV 8) ao)))))
 (a6 3 (aG (aj kS (gV 3) (gC (.int 1))))))) (aC (l0 4 (aG (ay Ew (ae (aj fV (aj aF (gV 0) (gV 6)) (gC (.int 4))) (ae (aj aF (gV 0) (aj dm (gV 6) (gC (.int 1)))) (ae (gV 1) (ae (gV 2) ao)))))))
 (l0 5 (aG (gC (.int 0)))))))))
 (aY (ay eK (ae (gV 4) ao))))))
def Be:List D->R D:=bA 4 9 Ey
end
noncomputable section
def M1:G->R Fl :=
 (aC (e_ 3 (b_ ao))
 (aC (a6 4 (aG (gV 1)))
 (aC (iO 5 (mV (y8t (gV 2)))
 (aC (l0 3 (aG (gV 4)))
 (a6 4 (aG (ay x_ (ae (gV 0) (ae (gV 4) (ae (gV 4) ao))))))))
 (rB 3))))
def Ez:List D->R (List D):=jN 3 6 M1
def Xg:G->R Fl :=
 (qg (y5q (y8s (gV 0)) (ve (gT (aj cS (aj cM (aj DW (gV 3) (gV 0)) (gC (.int 2))) (gC (.int 1)))) (aG (gV 1)))))
def EA:List D->R (List D):=jN 2 2 Xg
def M3:G->R Fl :=
 (aC (a6 3 (aG (ay ya (ae (ay c9 (ae (gV 1) ao)) ao))))
 (aC (iO 4 (lU (gL (gx EA (ae (gL (gx Ez (ae (gV 0) (ae (gV 1) (ae (gV 2) ao))))) (ae (gV 2) ao)))))
 (a6 3 (aG (ay x_ (ae (gV 0) (ae (gV 3) (ae (gV 4) ao)))))))
 (aY (gV 3))))
def Bf:List D->R D:=bA 3 5 M3
def EB(M4:List D->R D)(M5:List D->R D):G->R Fl :=
 (aC (a6 3 (aG (ay ya (ae (gV 1) ao))))
 (aC (iO 4 (lU (df 2))
 (a6 3 (aG (ay x_ (ae (gV 0) (ae (gV 3) (ae (ay M5 (ae (gV 0) (ae (gV 1) (ae (gV 4) ao)))) ao)))))))
 (aY (gV 3))))
def EC(M4:List D->R D)(M5:List D->R D):G->R Fl :=
 (aC (bU (gT (aj cS (aj aF (gV 2) (gC (.int 0))) (gC (.str "set")))) (aY (ay Eb (ae (gV 1) (ae (aj aF (gV 2) (gC (.int 1))) (ae (aj aF (gV 2) (gC (.int 2))) ao))))) cF)
 (aY (ay Bf (ae (gV 0) (ae (ay M4 (ae (gV 0) (ae (gV 1) (ae (aj aF (gV 2) (gC (.int 2))) ao)))) (ae (aj aF (gV 2) (gC (.int 1))) ao))))))
mutual
def rM:Nat->List D->R D
 | 0=>λ_=>.no
 | n+1=>bA 3 5 (EB (rM n) (vt n))
def vt:Nat->List D->R D
 | 0=>λ_=>.no
 | n+1=>bA 3 3 (EC (rM n) (vt n))
end
def M6:G->R Fl :=
 (aY (ay A5 (ae (gV 0) (ae (ay Bf (ae (gV 0) (ae (ay (rM 12) (ae (gV 0) (ae (gV 1) (ae (gV 2) ao)))) (ae (gV 3) ao)))) (ae (gV 4) ao)))))
def Bg:List D->R D:=bA 5 5 M6
end
end L3
namespace L3
open PySem
local macro_rules | `(tactic| walk_at "evs") => wkL " L3.y2f L3.z6u L3.s_on L3.z4b L3.z7q L3.z7t L3.z7v L3.z5w L3.z6o L3.z7x L3.z4t L3.z7h L3.dInt L3.y8t L3.x0w L3.y4b"
inductive Item where
 | set (x:Int) (f:List Int)
 | again (n:Int) (its:List Item)
mutual
def Item.d:Item->D
 | .set x f=>.tup [.str "set",.int x,aZ f]
 | .again n its=>.tup [.str "again",.int n,.tup (Item.ds its)]
def Item.ds:List Item->List D
 | []=>[]
 | a::r=>a.d::Item.ds r
end
def Item.ds_map:∀its:List Item,Item.ds its=its.map Item.d
 | []=>rfl
 | a::r=>by rw[Item.ds,Item.ds_map r];rfl
mutual
def Item.deep:Item->Nat
 | .set _ _=>0
 | .again _ its=>1+Item.bD its
def Item.bD:List Item->Nat
 | []=>0
 | a::r=>max a.deep (Item.bD r)
end
mutual
def Item.many:Item->Nat
 | .set _ _=>1
 | .again _ its=>1+Item.aQ its
def Item.aQ:List Item->Nat
 | []=>0
 | a::r=>a.many+Item.aQ r
end
mutual
def Item.ok(P many:Int):Item->Prop
 | .set x f=>0<=x/\x<many/\(f.length:Int)=many+1/\dt P f
 | .again n its=>0<=n/\n<=10^30/\Item.bE P many its
def Item.bE(P many:Int):List Item->Prop
 | []=>True
 | a::r=>a.ok P many/\Item.bE P many r
end
def Item.i9{P many:Int}:∀{its:List Item},Item.bE P many its↔∀a∈its,a.ok P many
 | []=>by simp[Item.bE]
 | a::r=>by simp[Item.bE,Item.i9 (its:=r)]
def Item.jQ{k:Nat}:∀{its:List Item},Item.bD its<=k↔∀a∈its,a.deep<=k
 | []=>by simp[Item.bD]
 | a::r=>by
   have:=Item.jQ (k:=k) (its:=r)
   simp only[Item.bD,jG,forall_eq_or_imp,<-this]
   lia
def Item.og:∀{a b:List Item},Item.aQ (a++b)=Item.aQ a+Item.aQ b
 | [],b=>by simp[Item.aQ]
 | x::a,b=>by simp[Item.aQ,Item.og (a:=a)];lia
def Item.tD:∀a:Item,0<a.many
 | .set _ _=>by simp[Item.many]
 | .again _ _=>by simp[Item.many];lia
def Item.oh:∀its:List Item,its.length<=Item.aQ its
 | []=>a9 _
 | a::r=>by have:=a.tD;have:=Item.oh r;simp only[Item.aQ,b6];lia
mutual
def Item.cE:∀a:Item,a.d.cE=true
 | .set x f=>by
   have:=z4t f
   simp[Item.d,D.cE,D.bC,this]
 | .again n its=>by
   have:=Item.bC its
   simp[Item.d,D.cE,D.bC,this]
def Item.bC:∀its:List Item,D.bC (Item.ds its)=true
 | []=>rfl
 | a::r=>by
   have h1:=Item.cE a
   have h2:=Item.bC r
   simp[Item.ds,D.bC,h1,h2]
end
def Item.Bh(its:List Item):D.bC (its.map Item.d)=true:=by rw[<-Item.ds_map];exact Item.bC its
def M7(c:Int):∃n:Int,Bd [.int c] = .ok (.int n)/\0<=n/\n<=10^30:=by
 have hw:c%3=0∨c%3=1∨c%3=2:=by lia
 have Xh:(0:Int)<10^30+1:=by decide
 have n3:D.bC [D.int (c/3%5),D.int (c/3%1000),D.int (c/3%(10^30+1))]=true:=jI [_,_,_]
 obtain⟨n,e,h1,h2⟩:∃n:Int,c5 [D.int (c/3%5),D.int (c/3%1000),D.int (c/3%(10^30+1))] (c%3)=some (.int n)/\0<=n/\n<=10^30:=by
  rcases hw with w | w | w<;>rw[w]
  ·exact⟨_,rfl,by omega,by have:(5:Int)<=10^30:=by decide
                           lia⟩
  ·exact⟨_,rfl,by omega,by have:(1000:Int)<=10^30:=by decide
                           lia⟩
  ·refine⟨_,rfl,CM _ (by lia),?_⟩
   have:=Kj (c/3) Xh
   exact Int.lt_add_one_iff.mp this
 refine⟨n,b7 rfl (bT ?_),h1,h2⟩
 walk_at "evs"
 simp only[e]
def Xi{f:List Int}{x:Nat}{v P:Int}(hx:x<f.length)(hf:dt P f)(h0:0<=v)(hv:v<P):∃g:List Int,f.take x++[v]++f.drop (x+1)=g/\g.length=f.length/\dt P g/\g[x]? = some v:=by
 refine⟨_,rfl,?_,λn hn=>?_,?_⟩
 ·simp only[dN,lE,pS,b6,gS];lia
 ·simp only[CT,Kh] at hn
  rcases hn with (h | h) | h
  ·exact hf n (CU h)
  ·rw[h];exact⟨h0,hv⟩
  ·exact hf n (a5d h)
 ·rw[oO,uB (by rw[lE];lia),lE,SG (by lia),Kk];rfl
def Xj{c m P many:Int}(p1:3<=P)(p2:P<=9973)(m1:1<=many)(m2:many<=3):∃(x:Int) (f:List Int),Ew [.int c,.int m,.int P,.int many] = .ok (Item.set x f).d/\(Item.set x f).ok P many:=by
 have hl:=Ee P (many+1).toNat m
 have ho:=Ef (P:=P) (by lia) (many+1).toNat m
 have hx0:=mY (w:=c) (P:=many) (by lia)
 have hx1:=mZ (w:=c) (P:=many) (by lia)
 generalize hf:ng P (many+1).toNat m=f at hl ho
 obtain⟨x,ex⟩:∃x:Nat,c%many=(x:Int):=⟨(c%many).toNat,by lia⟩
 have hx:x<f.length:=by lia
 have start:∀u r,u [.ro (.int c),.ro (.int m),.ro (.int P),.ro (.int many),.ro (.int x),.ro (aZ f)]=r->aC (a6 4 (aG (aj cM (gV 0) (gV 3)))) (aC (a6 5 (aG (ay tq (ae (gV 1) (ae (gV 2) (ae (aj dm (gV 3) (gC (.int 1))) ao)))))) u) [.ro (.int c),.ro (.int m),.ro (.int P),.ro (.int many),.no,.no]=r:=λu r h=>by
  refine cu (d:=.int x) (by walk_at "evs";rw[ex]) (cu (d:=aZ f) (by walk_at "evs";rw[hf];rfl) h)
 have M8:c5 (f.map D.int) (x:Int)=some (.int (f[x]'hx)):=by
  rw[AF (by lia),e8,mG,fu hx];rfl
 by_cases hz:(f[x]'hx==0&&decide (0<c/3%6))=true
 ·have hv0:=mY (w:=c/18) (P:=P-1) (by lia)
  have hv1:=mZ (w:=c/18) (P:=P-1) (by lia)
  obtain⟨g,eg,gl,go,_⟩:=Xi (v:=1+c/18%(P-1)) hx ho (by lia) (by lia)
  rw[i0] at hz
  refine⟨x,g,b7 rfl ?_,by simp only[Item.ok];exact⟨by lia,by lia,by lia,go⟩⟩
  delta Eu
  refine start _ _ (DY (Γ':=[.ro (.int c),.ro (.int m),.ro (.int P),.ro (.int many),.ro (.int x),.ro (aZ g)]) ?_ ?_ ?_)
  ·walk_at "evs"
   simp only[aZ,aF,M8]
   walk_at "evs"
   simp only[hz.1,hz.2]
   walk_at "evs"
  ·refine(kZ (d:=aZ g) ?_).trans rfl
   have Xk:(x:Int)+1=((x+1:Nat):Int):=rfl
   have hlen:f.length<=4:=by lia
   walk_at "evs"
   simp only[aZ,AG,R.cz]
   rw[Xk,AI,u0,<-zK,<-wN]
   have lt:(f.take x).length<=4:=by rw[lE];lia
   have ld:(f.drop (x+1)).length<=4:=by rw[pS];lia
   have e2:(f.take x).map D.int++(D.int (1+c/18%(P-1))::(f.drop (x+1)).map D.int)=g.map D.int:=by rw[<-eg];simp
   have n2:=AA g
   walk_at "evs"
   rw[e2]
   walk_at "evs"
  ·exact bT (by walk_at "evs";rfl)
 ·refine⟨x,f,b7 rfl ?_,by simp only[Item.ok];exact⟨by lia,by lia,by lia,ho⟩⟩
  delta Eu
  refine start _ _ (c_ ?_ (bT (by walk_at "evs";rfl)))
  walk_at "evs"
  simp only[aZ,aF,M8]
  walk_at "evs"
  cases q:(f[x]'hx==0) with
  | false=>simp
  | true =>
    rw[q,SU] at hz
    simp[hz]
def gZ(its:List Item):List Int:=its.map λa=>(a.deep:Int)
def Xl(its:List Item):kY (0::gZ its)=(Item.bD its:Int):=by
 refine Eq.symm (Mc ?_ ?_)
 ·induction its with
  | nil=>simp[Item.bD]
  | cons a r ih =>
    simp only[Item.bD,gZ,fN,jG]
    by_cases h:Item.bD r<=a.deep
    ·rw[Nat.max_eq_left h];exact .inr (.inl rfl)
    ·rw[Nat.max_eq_right (by lia)]
     rcases List.mem_cons.mp ih with e | e
     ·exact .inl e
     ·exact .inr (.inr e)
 ·intro b hb
  rcases List.mem_cons.mp hb with rfl | hb
  ·lia
  ·obtain⟨a,ha,rfl⟩:=List.mem_map.mp hb
   have:=Item.jQ.mp (a9 (Item.bD its)) a ha
   lia
def Xm{gb:G->R Fl}{i:Nat}{ds:List D}{Γ:G}(I:Nat->G->Prop)(h0:I 0 Γ)(hq:∀(j:Nat) (d:D) (Γ:G),ds[j]? = some d->I j Γ->Ends (gb (Γ.set i (.ro d))) (I (j+1))):∃Γ',fI gb i ds Γ = .ok (.nx Γ')/\I ds.length Γ':=by
 obtain⟨Γ',e,h'⟩:=AS I ds 0 Γ h0 λj d Γ hd hI=>by rw[qS] at hI ⊢;exact hq j d Γ hd hI
 rw[qS] at h'
 exact⟨Γ',e,h'⟩
def M9{gs:G->R (List D)}{gb u:G->R Fl}{i:Nat}{ds:List D}{Γ:G}(T:R Fl->Prop)(I:Nat->G->Prop)(hi:gs Γ = .ok ds)(h0:I 0 Γ)(hq:∀(j:Nat) (d:D) (Γ:G),ds[j]? = some d->I j Γ->Ends (gb (Γ.set i (.ro d))) (I (j+1)))(h:∀Γ',I ds.length Γ'->T (u Γ')):T (aC (iO i gs gb) u Γ):=by
 obtain⟨Γ',e,h'⟩:=Xm I h0 hq
 rw[DZ hi e rfl];exact h Γ' h'
def Xn{cs:List Int}{P many ag:Int}(p1:3<=P)(p2:P<=9973)(m1:1<=many)(m2:many<=3)(sS:cs.length<=63) :
 ∃its:List Item,Be [.lst (cs.map D.int),.int P,.int many,.int ag] = .ok (.tup (its.map Item.d))/\Item.bE P many its/\Item.bD its<=3/\Item.aQ its<=30/\2*Item.aQ its<=cs.length:=by
 suffices h:∃its:List Item,Ey [.ro (.lst (cs.map D.int)),.ro (.int P),.ro (.int many),.ro (.int ag),.no,.no,.no,.no,.no] = .ok (.rt (.tup (its.map Item.d)))/\Item.bE P many its/\Item.bD its<=3/\Item.aQ its<=30/\2*Item.aQ its<=cs.length by
  obtain⟨its,e,h'⟩:=h
  exact⟨its,b7 rfl e,h'⟩
 delta Ey
 rw[iP (ds:=[]) (by walk_at "evs") rfl,iP (ds:=[]) (by walk_at "evs") rfl]
 let I:Nat->G->Prop:=λj Γ=>∃(its:List Item) (a:Int) (x6 x7 x8:En),Γ=[.ro (.lst (cs.map D.int)),.ro (.int P),.ro (.int many),.ro (.int a),.own (its.map Item.d),.own ((gZ its).map D.int),x6,x7,x8]/\Item.bE P many its/\Item.bD its<=3/\Item.aQ its<=j
 obtain⟨n,hn,Ay,en⟩:∃n:Nat,n<=30/\2*n<=cs.length/\kX 0 ((if (60:Int)<cs.length then 60 else (cs.length:Int))-1) 2=n:=by
  refine⟨_,?_,?_,rfl⟩<;>unfold kX<;>split<;>lia
 have nj:(lX 0 2 n).length=n:=by unfold lX;simp
 refine M9 (ds:=lX 0 2 n) (λr=>∃its:List Item,r = .ok (.rt (.tup (its.map Item.d)))/\Item.bE P many its/\Item.bD its<=3/\Item.aQ its<=30/\2*Item.aQ its<=cs.length) I ?_ ⟨[],ag,.no,.no,.no,rfl,CV,pV _,pV _⟩ ?turn ?_
 ·walk_at "evs"
  have r1:(-1073741824:Int)<=(if (60:Int)<cs.length then 60 else (cs.length:Int))-1/\(if (60:Int)<cs.length then 60 else (cs.length:Int))-1<1073741824:=by split<;>lia
  walk_at "evs"
  rw[en]
 case turn =>
  clear en nj
  rintro j d Γ hd ⟨its,a,x6,x7,x8,rfl,h1,h2,h3⟩
  obtain⟨hj,rfl⟩:=W3 hd
  have yg:=Item.oh its
  have e0:(0:Int)+2*(j:Int)=((2*j:Nat):Int):=by lia
  rw[e0]
  have c0:=Ed (ns:=cs) (k:=((2*j:Nat):Int)) (by lia) (by lia)
  have c1:=Ed (ns:=cs) (k:=((2*j:Nat):Int)+1) (by lia) (by lia)
  generalize gy cs ((2*j:Nat):Int)=y at c0
  generalize gy cs (((2*j:Nat):Int)+1)=z at c1
  clear e0
  obtain⟨w,hw,ew⟩:∃w:Nat,w<=its.length/\(its.length:Int)-(if (its.length:Int)<y/4%4 then (its.length:Int) else y/4%4)=w:=by
   refine⟨((its.length:Int)-(if (its.length:Int)<y/4%4 then (its.length:Int) else y/4%4)).toNat,?_,?_⟩<;>split<;>lia
  have hd2:(gZ its).drop w=gZ (its.drop w):=by unfold gZ;rw[wN]
  have n0:D.bC [D.int 0]=true:=jI [0]
  have nd:D.bC (D.int 0::(gZ (its.drop w)).map D.int)=true:=jI (0::gZ (its.drop w))
  have ll:(gZ (its.drop w)).length<=30:=by unfold gZ;rw[aX,pS];lia
  rw[cu (d:=.int w) (by walk_at "evs";simp only[aF,c0];walk_at "evs";rw[ew]) rfl]
  rw[cu (d:=.int (1+(Item.bD (its.drop w):Int))) (by
   walk_at "evs"
   rw[u0,<-wN,hd2]
   walk_at "evs"
   rw[bH ⟨by lia,nd⟩]
   walk_at "evs"
   rw[Xl]) rfl]
  generalize hk:Item.bD (its.drop w)=lv
  by_cases hc:y%4=3/\lv<3/\0<a
  ·obtain⟨ph,n4,ED⟩:=hc
   have b1:(y%4==3)=true:=by simpa using ph
   have b2:decide (1+(lv:Int)<4)=true:=decide_eq_true (by lia)
   have b3:decide (0<a)=true:=decide_eq_true ED
   obtain⟨m,em,m3,m4⟩:=M7 z
   have d4:(Item.again m (its.drop w)).d = .tup [.str "again",.int m,.tup ((its.drop w).map Item.d)]:=by rw[Item.d,Item.ds_map]
   have q4:D.bC [(Item.again m (its.drop w)).d]=true:=by have:=Item.cE (Item.again m (its.drop w));simp only[D.bC,this,Bool.and_true]
   have q5:D.bC ((its.take w).map Item.d++[(Item.again m (its.drop w)).d])=true:=by have:=Item.Bh (its.take w++[Item.again m (its.drop w)]);rwa [jF] at this
   have l4:((its.take w).map Item.d).length<=30:=by rw[aX,lE];lia
   refine .nx (Γ:=[.ro (.lst (cs.map D.int)),.ro (.int P),.ro (.int many),.ro (.int (a-1)),.own ((its.take w++[Item.again m (its.drop w)]).map Item.d),.own ((gZ (its.take w++[Item.again m (its.drop w)])).map D.int),.ro (.int ((2*j:Nat):Int)),.ro (.int w),.ro (.int (1+(lv:Int)))]) (gK ?_ (iP (ds:=(its.take w++[Item.again m (its.drop w)]).map Item.d) ?_ (iP (ds:=(gZ (its.take w++[Item.again m (its.drop w)])).map D.int) ?_ ((kZ (d:=.int (a-1)) ?_).trans rfl)))) ⟨_,_,_,_,_,rfl,?_,?_,?_⟩
   ·walk_at "evs"
    simp only[aF,c0]
    walk_at "evs"
    simp only[b1,b2,b3]
    walk_at "evs"
   ·walk_at "evs"
    simp only[aF,c1,R.cz,em]
    walk_at "evs"
    rw[u0,AI,<-wN,<-zK,<-d4,bH q4]
    walk_at "evs"
    rw[bH ⟨by rw[aX] at l4;lia,q5⟩,jF]
    rfl
   ·have n1:D.bC [D.int (1+(lv:Int))]=true:=jI [_]
    have e5:(gZ (its.take w++[Item.again m (its.drop w)])).map D.int=((gZ its).take w).map D.int++[D.int (1+(lv:Int))]:=by
     unfold gZ
     rw[jF,jF,zK]
     simp only[fN,pT,Item.deep,hk]
     push_cast
     rfl
    have n5:=jI (gZ (its.take w++[Item.again m (its.drop w)]))
    have l5:((gZ its).take w).length<=30:=by unfold gZ;rw[lE,aX];lia
    rw[e5] at n5 ⊢
    walk_at "evs"
    rw[AI,<-zK,bH ⟨by rw[aX];lia,n5⟩]
   ·walk_at "evs"
   ·rw[Item.i9] at h1 ⊢
    intro b hb
    rcases List.mem_append.mp hb with hb | hb
    ·exact h1 b (CU hb)
    ·rw[List.mem_singleton.mp hb,Item.ok]
     exact⟨m3,m4,Item.i9.mpr λb hb=>h1 b (a5d hb)⟩
   ·rw[Item.jQ] at h2 ⊢
    intro b hb
    rcases List.mem_append.mp hb with hb | hb
    ·exact h2 b (CU hb)
    ·rw[List.mem_singleton.mp hb,Item.deep,hk];lia
   ·have e1:Item.aQ its=Item.aQ (its.take w)+Item.aQ (its.drop w):=by rw[<-Item.og,Kq]
    rw[Item.og]
    simp only[Item.aQ,Item.many]
    lia
  ·obtain⟨x,f,es,hx⟩:=Xj (c:=y/4) (m:=z) p1 p2 m1 m2
   have nx:=Item.cE (Item.set x f)
   have l6:(its.map Item.d).length<=30:=by rw[aX];lia
   have l7:((gZ its).map D.int).length<=30:=by unfold gZ;rw[aX,aX];lia
   refine .nx (Γ:=[.ro (.lst (cs.map D.int)),.ro (.int P),.ro (.int many),.ro (.int a),.own ((its++[Item.set x f]).map Item.d),.own ((gZ (its++[Item.set x f])).map D.int),.ro (.int ((2*j:Nat):Int)),.ro (.int w),.ro (.int (1+(lv:Int)))]) (AY ?_ (gJ (Γ':=[.ro (.lst (cs.map D.int)),.ro (.int P),.ro (.int many),.ro (.int a),.own ((its++[Item.set x f]).map Item.d),.own ((gZ its).map D.int),.ro (.int ((2*j:Nat):Int)),.ro (.int w),.ro (.int (1+(lv:Int)))]) ?_ ?_)) ⟨_,_,_,_,_,rfl,?_,?_,?_⟩
   ·walk_at "evs"
    simp only[aF,c0]
    walk_at "evs"
    cases b1:(y%4==3) with
    | false=>rfl
    | true =>
      simp only[if_true]
      have:¬(1+(lv:Int)<4/\0<a):=λz=>hc ⟨by simpa using b1,by lia,z.2⟩
      by_cases b2:1+(lv:Int)<4
      ·have b3:decide (0<a)=false:=decide_eq_false λz=>this ⟨b2,z⟩
       simp only[decide_eq_true b2,b3,if_true]
      ·simp only[decide_eq_false b2]
       rfl
   ·rw[jF]
    walk_at "evs"
    simp only[aF,c0,c1]
    walk_at "evs"
    simp only[es]
    walk_at "evs"
   ·unfold gZ
    rw[jF,jF]
    simp only[fN,pT,Item.deep]
    walk_at "evs"
    simp
   ·rw[Item.i9] at h1 ⊢
    intro b hb
    rcases List.mem_append.mp hb with hb | hb
    ·exact h1 b hb
    ·rw[List.mem_singleton.mp hb];exact hx
   ·rw[Item.jQ] at h2 ⊢
    intro b hb
    rcases List.mem_append.mp hb with hb | hb
    ·exact h2 b hb
    ·rw[List.mem_singleton.mp hb,Item.deep];lia
   ·rw[Item.og]
    simp only[Item.aQ,Item.many]
    lia
 ·rintro Γ ⟨its,a,x6,x7,x8,rfl,h1,h2,h3⟩
  rw[nj] at h3
  exact⟨its,bT (by walk_at "evs"),h1,h2,by lia,by lia⟩
def Xo{cs:List Int}{P many ag:Int}(p1:3<=P)(p2:P<=9973)(m1:1<=many)(m2:many<=3)(sS:cs.length<=63) :
 ∃its:List Item,Be [.lst (cs.map D.int),.int P,.int many,.int ag] = .ok (.tup (its.map Item.d))/\Item.bE P many its/\Item.bD its<=3/\Item.aQ its<=30 :=
 let ⟨its,e,h1,h2,h3,_⟩:=Xn (ag:=ag) p1 p2 m1 m2 sS;⟨its,e,h1,h2,h3⟩
def x1m:((jn "set")==(jn "again"))=false:=by decide +kernel
def x1n:((jn "again")==(jn "set"))=false:=by decide +kernel
def y6x(n:Nat):D.lay n (.str (jn "set"))=true:=by rw[lQ];decide +kernel
def y1g(n:Nat):D.lay n (.str (jn "again"))=true:=by rw[lQ];decide +kernel
def tE(a b c:D):aF (.tup [a,b,c]) (.int 2) = .ok c:=rfl
def Item.rN:∀{its:List Item} {a:Item},a∈its->a.many<=Item.aQ its
 | b::r,a,h=>by
   rcases List.mem_cons.mp h with rfl | h
   ·simp only[Item.aQ];lia
   ·have:=Item.rN h
    simp only[Item.aQ];lia
def cX(P:Int)(n:Nat)(t:List (List Int)):Nat->List (List Int)
 | 0=>fe n
 | k+1=>dP P (cX P n t k) t
section
variable {P:Int}{n:Nat}{t:List (List Int)}
def lg(hp:1<P)(ht:dG P n t):∀k,dG P n (cX P n t k)
 | 0=>tx hp n
 | k+1=>oa (by lia) (lg hp ht k).1 ht.1
def M_(hp:1<P)(ht:dG P n t):cX P n t 1=t:=ye hp ht
def Bj(hp:1<P)(ht:dG P n t)(a:Nat):∀b,cX P n t (a+b)=dP P (cX P n t a) (cX P n t b)
 | 0=>(MT hp (lg hp ht a)).symm
 | b+1=>by
   show dP P (cX P n t (a+b)) t=dP P (cX P n t a) (dP P (cX P n t b) t)
   rw[Bj hp ht a b,A9 (by lia) (lg hp ht a).1 (lg hp ht b).1 ht.1]
def Xp(hp:1<P)(ht:dG P n t)(k:Nat):dP P (cX P n t k) (cX P n t k)=cX P n t (2*k):=by
 rw[<-Bj hp ht,Nat.two_mul]
end
def iB(n:Nat):Nat:=if n=0 then 0 else n.log2+1
def Na{n j:Nat}:j<iB n↔2^j<=n:=by
 unfold iB
 by_cases h:n=0
 ·rw[if_pos h,h]
  have:0<2^j:=a5e j
  lia
 ·rw[if_neg h,Nat.lt_succ_iff,Nat.le_log2 h]
def Nb{n k:Nat}(h:n<2^k):iB n<=k:=by
 rcases Kr k (iB n) with z | z
 ·have:=Na.mp z
  lia
 ·exact z
def ka(P:Int)(m:Nat)(t:List (List Int))(n:Nat):List (List (List Int)):=(eW n).map λj=>cX P m t (2^j)
def Xq(P:Int)(m:Nat)(t:List (List Int))(n:Nat):ka P m t (n+1)=ka P m t n++[cX P m t (2^n)]:=by
 unfold ka;rw[sE,jF];rfl
def Xr(n:Nat):xT (n:Int)=iB n:=by
 unfold xT iB
 by_cases h:n=0
 ·subst h;rfl
 ·rw[if_neg h,SV,if_neg]
  intro z
  have:(n:Int)=0:=by simpa using z
  lia
def Xs{P:Int}{m n:Nat}{t:List (List Int)}(p1:3<=P)(p2:P<=9973)(hm:m<=3)(ht:dG P m t)(hn:n<2^150):Ez [.int P,dg t,.int n] = .ok ((ka P m t (iB n)).map dg):=by
 refine sZ rfl ?_
 delta M1
 have hp:1<P:=by lia
 have hF:=Nb hn
 refine iP (ds:=[]) (by walk_at "evs") ?_
 refine cu (d:=dg (cX P m t (2^0))) (by rw[Nat.pow_zero,M_ hp ht];walk_at "evs") ?_
 refine s_ (ds:=iN 0 (iB n)) (λj Γ=>∃x5,Γ=[.ro (.int P),.ro (dg t),.ro (.int n),.own ((ka P m t j).map dg),.ro (dg (cX P m t (2^j))),x5]) ?_ ⟨_,rfl⟩ ?_ ?_
 ·walk_at "evs"
  rw[Xr]
  walk_at "evs"
 ·rintro j d Γ hd ⟨x5,rfl⟩
  obtain⟨hj,rfl⟩:=W4 hd
  have hl:((ka P m t j).map dg).length<=200:=by unfold ka;rw[aX,aX,List.length_range];lia
  have tF:=El (P:=P) (n:=m) (by lia) (by lia) (lg hp ht (2^j)) (lg hp ht (2^j)) (by lia)
  rw[Xp hp ht] at tF
  refine .nx (gJ (Mf (d:=dg (cX P m t (2^j))) rfl (by walk_at "evs") (by lia)) ((kZ (d:=dg (cX P m t (2^(j+1)))) ?_).trans ?_)) ⟨.ro (.int (0+(j:Int))),rfl⟩
  ·walk_at "evs"
   simp only[dg,tF,SO,Ks _ 2]
   have:=rJ (cX P m t (2*2^j))
   walk_at "evs"
  ·rw[Xq,jF]
   rfl
 ·rintro Γ ⟨x5,rfl⟩
  rw[qf]
  walk_at "evs"
def Xu(n j:Nat):n%2^(j+1)=n%2^j+(n/2^j%2)*2^j:=by
 rw[SO,Nat.mod_mul,Ks (2^j)]
def Xv(n:Nat):n%2^iB n=n:=Nat.mod_eq_of_lt (by
 rcases Kr n (2^iB n) with z | z
 ·exact z
 ·exact absurd (Na.mpr z) (mB _))
def oi(n j:Nat):Bool:=n/2^j%2==1
def jx(n k:Nat):List Nat:=(eW k).filter (oi n)
def l9:List Nat->Nat
 | []=>0
 | j::js=>2^j+l9 js
def EF:∀(a b:List Nat),l9 (a++b)=l9 a+l9 b
 | [],b=>(qS _).symm
 | j::a,b=>by rw[mI,l9,l9,EF a b,Nat.add_assoc]
def Nc(n:Nat):∀k,l9 (jx n k)=n%2^k
 | 0=>by rw[Nat.pow_zero,Nat.mod_one];rfl
 | k+1=>by
   have h:jx n (k+1)=jx n k++(if oi n k then [k] else []):=by
    unfold jx
    rw[sE,List.filter_append]
    cases q:oi n k<;>simp[q]
   rw[h,EF,Nc n k,Xu]
   have w:n/2^k%2=0∨n/2^k%2=1:=by lia
   rcases w with w | w
   ·have:oi n k=false:=by unfold oi;rw[w];rfl
    rw[this,w,Nat.zero_mul];rfl
   ·have:oi n k=true:=by unfold oi;rw[w];rfl
    rw[this,w,Nat.one_mul];rfl
def tG(p:Nat->Bool):Nat->List D->List D
 | _,[]=>[]
 | k,x::xs=>if p k=true then x::tG p (k+1) xs else tG p (k+1) xs
def Nd{f:D->D->G->R (Option D)}{Γ:G}(p:Nat->Bool):∀(xs:List D) (k:Nat) (acc:List D),(∀j x,xs[j]? = some x->f (.int ((k+j:Nat):Int)) x Γ = .ok (if p (k+j)=true then some x else none)) ->
 dF (y1c f Γ) (jO k xs) acc = .ok (acc++tG p k xs)
 | [],k,acc,_=>by rw[jO,tG,kJ];rfl
 | x::xs,k,acc,h=>by
   have h0:=h 0 x rfl
   have ih:=λacc=>Nd p xs (k+1) acc (λj y hy=>by
    have:=h (j+1) y hy
    rw[show k+1+j=k+(j+1) by lia];exact this)
   rw[jO,DU,show y1c f Γ (.tup [.int (k:Int),x])=f (.int (k:Int)) x Γ from rfl,show f (.int (k:Int)) x Γ=_ from h0]
   rw[SW,tG]
   by_cases q:p k=true
   ·rw[if_pos q,if_pos q]
    show dF (y1c f Γ) (jO (k+1) xs) (acc++[x])=_
    rw[ih,oO];rfl
   ·rw[if_neg q,if_neg q]
    exact ih acc
def Nf(p:Nat->Bool)(F:Nat->D):∀(l s:Nat),tG p s ((CW s l).map F)=((CW s l).filter p).map F
 | 0,s=>rfl
 | l+1,s=>by
   rw[a5f,fN,tG,Nf p F l (s+1),List.filter_cons]
   by_cases q:p s=true
   ·rw[if_pos q,if_pos q,fN]
   ·rw[if_neg q,if_neg q]
def Xw(P:Int)(m:Nat)(t:List (List Int))(k:Nat):(ka P m t k).map dg=(eW k).map λj=>dg (cX P m t (2^j)):=by
 unfold ka;rw[i4];rfl
def Ng:∀(k:Nat) (xs:List D),(jO k xs).length=xs.length
 | _,[]=>rfl
 | k,a::xs=>by rw[jO,b6,Ng (k+1) xs,b6]
def Xx{P:Int}{m n k:Nat}{t:List (List Int)}(hk:k<=1000):EA [.lst ((ka P m t k).map dg),.int n] = .ok ((jx n k).map λj=>dg (cX P m t (2^j))):=by
 refine sZ rfl (xU ?_)
 have nt:=MU (ka P m t k)
 have hl:((ka P m t k).map dg).length=k:=by unfold ka;simp
 show(y8s (gV 0) _>>=λitems=>R.guard _ _)=_
 have e1:y8s (gV 0) (fz 2 [.lst ((ka P m t k).map dg),.int n]) = .ok (jO 0 ((ka P m t k).map dg)):=by
  show(R.guard _ _:R (List D))=_
  rw[bH nt]
 rw[e1]
 show R.guard _ _=_
 rw[bH (by rw[Ng,hl];lia),Nd (oi n),pU,Xw,a5g,Nf]
 ·unfold jx;rw[a5g]
 ·intro j x hx
  have nx:D.cE x=true:=VL nt (sy hx)
  rw[qS]
  have e2:(n:Int)/2^j%2=((n/2^j%2:Nat):Int):=by
   rw[Int.natCast_emod,Int.natCast_ediv,Int.natCast_pow];rfl
  have e3:((n:Int)/2^j%2==1)=oi n j:=by
   rw[e2];unfold oi
   cases q:(n/2^j%2==1) with
   | true=>rw[beq_iff_eq] at q;rw[q];rfl
   | false =>
     have:n/2^j%2=0:=by
      have h1:n/2^j%2≠1:=by simpa using q
      lia
     rw[this];rfl
  have e4:DW (.int (n:Int)) (.int ((j:Nat):Int)) = .ok (.int ((n:Int)/2^j)):=by
   show R.guard _ (R.ok (D.int ((n:Int)/2^((j:Nat):Int).toNat)))=_
   rw[bH ⟨SX n,SX j⟩,mG]
  unfold ve
  walk_at "evs"
  rw[e4]
  walk_at "evs"
  rw[e3]
  cases q:oi n j with
  | true=>walk_at "evs"
  | false=>rfl
def Xy{n k i:Nat}{d:D}{F:Nat->D}(h:((jx n k).map F)[i]? = some d):∃j,(jx n k)[i]? = some j/\d=F j:=by
 rw[e8] at h
 cases q:(jx n k)[i]? with
 | none=>rw[q] at h;cases h
 | some j=>rw[q] at h;injection h with h;exact⟨j,rfl,h.symm⟩
def Xz{l:List Nat}{i j:Nat}(h:l[i]? = some j):l9 (l.take (i+1))=l9 (l.take i)+2^j:=by
 rw[Kt,h,EF]
 show _+(2^j+0)=_
 rw[SW]
def Nh{P:Int}{m n:Nat}{t:List (List Int)}(p1:3<=P)(p2:P<=9973)(hm:m<=3)(ht:dG P m t)(hn:n<2^150):Bf [.int P,dg t,.int n] = .ok (dg (cX P m t n)):=by
 refine b7 rfl ?_
 delta M3
 have hp:1<P:=by lia
 have el:=Xs p1 p2 hm ht hn
 have ei:=Em (n:=m) (by lia)
 have hF:=Nb hn
 have er:=Xx (P:=P) (m:=m) (n:=n) (k:=iB n) (t:=t) (by lia)
 refine cu (d:=dg (cX P m t 0)) ?_ ?_
 ·have:=rJ (fe m)
  simp only[dg,cX]
  walk_at "evs"
  rw[show(t.length:Int)=(m:Int) by rw[ht.1]]
  simp only[ei]
  walk_at "evs"
 refine s_ (ds:=(jx n (iB n)).map λj=>dg (cX P m t (2^j))) (λi Γ=>∃x4,Γ=[.ro (.int P),.ro (dg t),.ro (.int n),.ro (dg (cX P m t (l9 ((jx n (iB n)).take i)))),x4]) ?_ ⟨_,rfl⟩ ?_ ?_
 ·have nt:=MU (ka P m t (iB n))
  walk_at "evs"
  simp only[el]
  walk_at "evs"
  simp only[er]
  have nt2:D.bC ((jx n (iB n)).map λj=>dg (cX P m t (2^j)))=true:=xI λj _=>rJ _
  walk_at "evs"
 ·rintro i d Γ hd ⟨x4,rfl⟩
  obtain⟨j,hj,rfl⟩:=Xy hd
  have tF:=El (P:=P) (n:=m) (by lia) (by lia) (lg hp ht (l9 ((jx n (iB n)).take i))) (lg hp ht (2^j)) (by lia)
  rw[<-Bj hp ht,<-Xz hj] at tF
  refine .nx (kZ (d:=dg (cX P m t (l9 ((jx n (iB n)).take (i+1))))) ?_) ⟨_,rfl⟩
  walk_at "evs"
  simp only[dg,tF]
  have:=rJ (cX P m t (l9 ((jx n (iB n)).take (i+1))))
  walk_at "evs"
 ·rintro Γ ⟨x4,rfl⟩
  refine bT ?_
  walk_at "evs"
  rw[show((jx n (iB n)).take (jx n (iB n)).length)=jx n (iB n) from wO,Nc,Xv]
end L3
namespace L3
open PySem
local macro_rules | `(tactic| walk_at "evs") => wkL " L3.y2f L3.z6u L3.s_on L3.z4b L3.z7q L3.z7t L3.z7v L3.z5w L3.z6o L3.z7x L3.z4t L3.z7h L3.dInt L3.y8t L3.x0w L3.y4b L3.Item.d L3.Item.ds_map L3.z7a L3.x1m L3.x1n L3.y6x L3.y1g"
mutual
def Item.tab(P:Int)(m:Nat):Item->List (List Int)
 | .set x f=>(fe m).set x.toNat f
 | .again n its=>cX P m (Item.tabs P m its) n.toNat
def Item.tabs(P:Int)(m:Nat):List Item->List (List Int)
 | []=>fe m
 | a::r=>dP P (a.tab P m) (Item.tabs P m r)
end
def EG{P:Int}{m x:Nat}{f:List Int}(hp:1<P)(h:vo P m f):dG P m ((fe m).set x f):=by
 obtain⟨h1,h2⟩:=tx hp m
 refine⟨by rw[gp];exact h1,λr hr=>?_⟩
 rcases a5h hr with z | z
 ·exact h2 r z
 ·rw[z];exact h
mutual
def Item.vv{P:Int}{m:Nat}(hp:1<P):∀a:Item,a.ok P m->dG P m (a.tab P m)
 | .set x f,h=>by
   simp only[Item.ok] at h
   exact EG hp ⟨h.2.2.2,by lia⟩
 | .again n its,h=>by
   simp only[Item.ok] at h
   exact lg hp (Item.tabs_ok hp its h.2.2) _
def Item.tabs_ok{P:Int}{m:Nat}(hp:1<P):∀its:List Item,Item.bE P m its->dG P m (Item.tabs P m its)
 | [],_=>tx hp m
 | a::r,h=>by
   simp only[Item.bE] at h
   exact oa (by lia) (Item.vv hp a h.1).1 (Item.tabs_ok hp r h.2).1
end
def Item.Ni{P many:Int}:∀{a b:List Item},Item.bE P many (a++b)↔Item.bE P many a/\Item.bE P many b
 | [],b=>by simp[Item.bE]
 | x::a,b=>by simp[Item.bE,Item.Ni (a:=a),and_assoc]
def Item.EH{P:Int}{m:Nat}(hp:1<P):∀{a b:List Item},Item.bE P m a->Item.bE P m b->Item.tabs P m (a++b)=dP P (Item.tabs P m a) (Item.tabs P m b)
 | [],b,_,hb=>(ye hp (Item.tabs_ok hp b hb)).symm
 | x::a,b,ha,hb=>by
   simp only[Item.bE] at ha
   show dP P (x.tab P m) (Item.tabs P m (a++b))=dP P (dP P (x.tab P m) (Item.tabs P m a)) (Item.tabs P m b)
   rw[Item.EH hp ha.2 hb,A9 (by lia) (Item.vv hp x ha.1).1 (Item.tabs_ok hp a ha.2).1 (Item.tabs_ok hp b hb).1]
def Item.Nj{P:Int}{m:Nat}(hp:1<P){a:Item}(h:a.ok P m):Item.tabs P m [a]=a.tab P m:=MT hp (Item.vv hp a h)
def XA{its:List Item}{j:Nat}{d:D}(h:(its.map Item.d)[j]? = some d):∃a:Item,its[j]? = some a/\d=a.d/\a∈its:=by
 rw[e8] at h
 cases q:its[j]? with
 | none=>rw[q] at h;cases h
 | some a=>rw[q] at h;cases h;exact⟨a,rfl,rfl,sy q⟩
def XB{α:Type}{l:List α}{j:Nat}{a:α}(h:l[j]? = some a):l.take (j+1)=l.take j++[a]:=by
 rw[Kt,h];rfl
def Item.XC{P many:Int}{its:List Item}(h:Item.bE P many its)(j:Nat):Item.bE P many (its.take j):=Item.i9.mpr λa ha=>Item.i9.mp h a (CU ha)
def XD:(10:Int)^30<2^150:=by decide
def XE{n:Int}(h0:0<=n)(h:n<=10^30):∃k:Nat,n=(k:Int)/\n.toNat=k/\k<2^150:=by
 have:=XD
 exact⟨n.toNat,by lia,rfl,by lia⟩
def Nk{P:Int}{m:Nat}(p1:3<=P)(p2:P<=9973)(hm:m<=3):∀(k:Nat) (its:List Item),2*Item.bD its+2<=k->Item.bE P m its->rM k [.int P,.int m,.tup (its.map Item.d)] = .ok (dg (Item.tabs P m its))
 | 0,_,h,_=>by lia
 | 1,_,h,_=>by lia
 | k+2,its,h,ho=>by
   have hp:1<P:=by lia
   show bA 3 5 (EB (rM (k+1)) (vt (k+1))) _=_
   refine b7 rfl ?_
   delta EB
   have hn:=Item.Bh its
   have ei:=Em (n:=m) (by lia)
   refine cu (d:=dg (Item.tabs P m (its.take 0))) ?_ ?_
   ·have:=rJ (fe m)
    walk_at "evs"
    simp only[ei]
    walk_at "evs"
    rfl
   refine s_ (ds:=its.map Item.d) (λj Γ=>∃x4,Γ=[.ro (.int P),.ro (.int m),.ro (.tup (its.map Item.d)),.ro (dg (Item.tabs P m (its.take j))),x4]) (by walk_at "evs") ⟨_,rfl⟩ ?_ ?_
   ·rintro j d Γ hd ⟨x4,rfl⟩
    obtain⟨a,ea,rfl,ha⟩:=XA hd
    have cI:=Item.i9.mp ho a ha
    have Nl:=Item.XC ho j
    have e:vt (k+1) [.int P,.int m,a.d] = .ok (dg (a.tab P m)):=by
     show bA 3 3 (EC (rM k) (vt k)) _=_
     refine b7 rfl ?_
     unfold EC
     cases a with
     | set x f =>
       simp only[Item.ok] at cI
       obtain⟨y,rfl⟩:∃y:Nat,x=(y:Int):=⟨x.toNat,by lia⟩
       have es:=W5 (n:=m) (x:=y) (f:=f) (by lia) (by lia)
       refine l8 (gK (by walk_at "evs") (bT ?_))
       walk_at "evs"
       simp only[es]
       rfl
     | again n i =>
       have h1:=Item.jQ.mp (a9 (Item.bD its)) _ ha
       simp only[Item.deep] at h1
       simp only[Item.ok] at cI
       obtain⟨y,rfl,ey,hy⟩:=XE cI.1 cI.2.1
       have ih:=Nk p1 p2 hm k i (by lia) cI.2.2
       have er:=Nh (n:=y) p1 p2 hm (Item.tabs_ok hp i cI.2.2) hy
       refine c_ (by walk_at "evs") (bT ?_)
       walk_at "evs"
       simp only[ih]
       walk_at "evs"
       simp only[er]
       rfl
    have tF:=El (P:=P) (n:=m) (by lia) (by lia) (Item.tabs_ok hp _ Nl) (Item.vv hp a cI) (by lia)
    have et:Item.tabs P m (its.take (j+1))=dP P (Item.tabs P m (its.take j)) (a.tab P m):=by
     rw[XB ea,Item.EH hp Nl (by simp only[Item.bE];exact⟨cI,trivial⟩),Item.Nj hp cI]
    refine .nx (kZ (d:=dg (Item.tabs P m (its.take (j+1)))) ?_) ⟨_,rfl⟩
    have:=rJ (dP P (Item.tabs P m (its.take j)) (a.tab P m))
    walk_at "evs"
    simp only[e]
    walk_at "evs"
    simp only[dg,tF,et]
    walk_at "evs"
   ·rintro Γ ⟨x4,rfl⟩
    refine bT ?_
    walk_at "evs"
    rw[zL (a9 _)]
def Nm{P:Int}{m n:Nat}{its:List Item}{s:List Int}(p1:3<=P)(p2:P<=9973)(hm:m<=3)(hd:Item.bD its<=5)(ho:Item.bE P m its)(hs:s.length=m)(hn:n<2^150):Bg [.int P,.int m,.tup (its.map Item.d),.int n,aZ s] = .ok (aZ (dH P (cX P m (Item.tabs P m its) n) s)):=by
 have hp:1<P:=by lia
 refine b7 rfl ?_
 delta M6
 have et:=Nk p1 p2 hm 12 its (by lia) ho
 have ok:=Item.tabs_ok hp its ho
 have er:=Nh (n:=n) p1 p2 hm ok hn
 have ea:=WL (P:=P) (ts:=cX P m (Item.tabs P m its) n) (ss:=s) (by lia) (by lia) (by rw[hs];exact lg hp ok n) (by lia)
 refine bT ?_
 walk_at "evs"
 simp only[et]
 walk_at "evs"
 simp only[er]
 walk_at "evs"
 simp only[dg,aZ,ea]
def XF(ns:List Int)(lo hi:Option Int):gP (ns.map D.int) lo hi=(gP ns lo hi).map D.int:=V0 D.int ns lo hi
def XG{α:Type}(xs:List α)(lo hi:Option Int):(gP xs lo hi).length<=xs.length:=by
 unfold gP;rw[lE,pS];lia
def rO(its:List Item):(D.tup (its.map Item.d)).cE=true:=by have:=Item.Bh its;simpa [D.cE] using this
def XH(c:Int):∃m:Nat,1+c%3=(m:Int)/\1<=m/\m<=3:=⟨(1+c%3).toNat,by lia,by lia,by lia⟩
mutual
def Item.XI:Item->Int
 | .set _ _=>1
 | .again n its=>n*Item.EI its
def Item.EI:List Item->Int
 | []=>0
 | a::r=>a.XI+Item.EI r
end
noncomputable section
end
def Nn{its:List Item}{j:Nat}{d:D}(h:(its.map Item.d)[j]? = some d):∃a:Item,its[j]? = some a/\d=a.d/\a∈its:=by
 rw[e8] at h
 cases q:its[j]? with
 | none=>rw[q] at h;cases h
 | some a=>rw[q] at h;cases h;exact⟨a,rfl,rfl,sy q⟩
mutual
def Item.few:Item->Item
 | .set x f=>.set x f
 | .again n its=>.again (if Item.EI (Item.EJ its)=0 then n else n%5) (Item.EJ its)
def Item.EJ:List Item->List Item
 | []=>[]
 | a::r=>a.few::Item.EJ r
end
noncomputable section
def EK(XJ:List D->R D):G->R Fl :=
 (aC (a6 2 (aG (gV 1)))
 (aC (iO 3 (lU (df 0))
 (aC (a6 2 (aG (aj dm (gV 2) (gC (.int 1)))))
 (aC (bU (gT (aj o8 (gV 2) (gC (.int 30)))) (iw .kP) cF)
 (bU (gT (aj cS (aj aF (gV 3) (gC (.int 0))) (gC (.str "again")))) (a6 2 (aG (ay XJ (ae (aj aF (gV 3) (gC (.int 2))) (ae (gV 2) ao))))) cF))))
 (aY (gV 2))))
def vw:Nat->List D->R D
 | 0=>λ_=>.no
 | n+1=>bA 2 4 (EK (vw n))
def Np:G->R Fl :=
 (aC (bU (jK (gT (ay pf (ae (gV 2) (ae (gC (.int 0)) (ae (aj kS (gV 1) (gC (.int 1))) ao)))))) (iw .kP) cF)
 (aC (bU (gT (aj eG (ay c9 (ae (gV 3) ao)) (aj dm (gV 1) (gC (.int 1))))) (iw .kP) cF)
 (aY (d_ (ae (gC (.str "set")) (ae (gV 2) (ae (ay eK (ae (gL (c8 (fQ (gV 3)) (dr (aG (ay (gv pe) (ae (gV 1) (ae (gV 0) ao))))))) ao)) ao)))))))
def EL:List D->R D:=bA 4 4 Np
def EM(EN:List D->R D)(EO:List D->R D)(ER:List D->R D):G->R Fl :=
 (aC (bU (gT (aj xJ (gV 4) (gC (.int 3)))) (iw .kP) cF)
 (aC (bU (jK (gT (ay pf (ae (gV 2) (ae (gC (.int 0)) (ae (aj o7 (gC (.int 10)) (gC (.int 30))) ao)))))) (iw .kP) cF)
 (aY (d_ (ae (gC (.str "again")) (ae (gV 2) (ae (ay ER (ae (gV 0) (ae (gV 1) (ae (gV 3) (ae (aj dm (gV 4) (gC (.int 1))) ao))))) ao)))))))
def ES(EN:List D->R D)(EO:List D->R D)(ER:List D->R D):G->R Fl :=
 (aC (bU (gT (aj cS (aj aF (gV 2) (gC (.int 0))) (gC (.str "set")))) (aY (ay EL (ae (gV 0) (ae (gV 1) (ae (aj aF (gV 2) (gC (.int 1))) (ae (aj aF (gV 2) (gC (.int 2))) ao)))))) cF)
 (aY (ay EN (ae (gV 0) (ae (gV 1) (ae (aj aF (gV 2) (gC (.int 1))) (ae (aj aF (gV 2) (gC (.int 2))) (ae (gV 3) ao))))))))
def ET(EN:List D->R D)(EO:List D->R D)(ER:List D->R D):G->R Fl :=
 (aY (ay eK (ae (gL (c8 (lU (df 2)) (dr (aG (ay (gv EO) (ae (gV 1) (ae (gV 2) (ae (gV 0) (ae (gV 4) ao))))))))) ao)))
mutual
def rP:Nat->List D->R D
 | 0=>λ_=>.no
 | n+1=>bA 5 5 (EM (rP n) (rQ n) (pj n))
def rQ:Nat->List D->R D
 | 0=>λ_=>.no
 | n+1=>bA 4 4 (ES (rP n) (rQ n) (pj n))
def pj:Nat->List D->R D
 | 0=>λ_=>.no
 | n+1=>bA 4 4 (ET (rP n) (rQ n) (pj n))
end
def Nq:G->R Fl :=
 (aC (vc (ay Et (ae (gV 0) ao)))
 (aC (bU (jK (gT (ay pf (ae (gV 1) (ae (gC (.int 1)) (ae (gC (.int 3)) ao)))))) (iw .kP) cF)
 (aC (vc (ay (vw 12) (ae (gV 2) (ae (gC (.int 0)) ao))))
 (aY (ay (pj 12) (ae (gV 0) (ae (gV 1) (ae (gV 2) (ae (gC (.int 0)) ao)))))))))
def Bk:List D->R D:=bA 3 3 Nq
end
inductive Raw where
 | set (x:Int) (f:List Int)
 | again (n:Int) (l:Bool) (its:List Raw)
def dh(l:Bool)(ds:List D):D:=if l then .lst ds else .tup ds
mutual
def Raw.d:Raw->D
 | .set x f=>.tup [.str "set",.int x,aZ f]
 | .again n l its=>.tup [.str "again",.int n,dh l (Raw.ds its)]
def Raw.ds:List Raw->List D
 | []=>[]
 | a::r=>a.d::Raw.ds r
end
def Raw.ds_map:∀its:List Raw,Raw.ds its=its.map Raw.d
 | []=>rfl
 | a::r=>by rw[Raw.ds,Raw.ds_map r];rfl
mutual
def Raw.deep:Raw->Nat
 | .set _ _=>0
 | .again _ _ its=>1+Raw.bD its
def Raw.bD:List Raw->Nat
 | []=>0
 | a::r=>max a.deep (Raw.bD r)
end
mutual
def Raw.many:Raw->Nat
 | .set _ _=>1
 | .again _ _ its=>1+Raw.aQ its
def Raw.aQ:List Raw->Nat
 | []=>0
 | a::r=>a.many+Raw.aQ r
end
mutual
def Raw.ok(many:Int):Raw->Prop
 | .set x f=>0<=x/\x<many/\(f.length:Int)=many+1
 | .again n _ its=>0<=n/\n<=10^30/\Raw.bE many its
def Raw.bE(many:Int):List Raw->Prop
 | []=>True
 | a::r=>a.ok many/\Raw.bE many r
end
mutual
def Raw.made(P:Int):Raw->Item
 | .set x f=>.set x (f.map (·%P))
 | .again n _ its=>.again n (Raw.oj P its)
def Raw.oj(P:Int):List Raw->List Item
 | []=>[]
 | a::r=>a.made P::Raw.oj P r
end
def Raw.Nr(P:Int):∀its:List Raw,Raw.oj P its=its.map (Raw.made P)
 | []=>rfl
 | a::r=>by rw[Raw.oj,Raw.Nr P r];rfl
def Raw.i9{many:Int}:∀{its:List Raw},Raw.bE many its↔∀a∈its,a.ok many
 | []=>by simp[Raw.bE]
 | a::r=>by simp[Raw.bE,Raw.i9 (its:=r)]
def Raw.EU:∀{its:List Raw} {a:Raw},a∈its->a.deep<=Raw.bD its
 | b::r,a,h=>by
   simp only[Raw.bD]
   rcases List.mem_cons.mp h with rfl | h
   ·lia
   ·have:=Raw.EU h;lia
def Raw.rN:∀{its:List Raw} {a:Raw},a∈its->a.many<=Raw.aQ its
 | b::r,a,h=>by
   simp only[Raw.aQ]
   rcases List.mem_cons.mp h with rfl | h
   ·lia
   ·have:=Raw.rN h;lia
def Raw.og:∀{a b:List Raw},Raw.aQ (a++b)=Raw.aQ a+Raw.aQ b
 | [],b=>by simp[Raw.aQ]
 | x::a,b=>by simp[Raw.aQ,Raw.og (a:=a)];lia
def Raw.tD:∀a:Raw,0<a.many
 | .set _ _=>by simp[Raw.many]
 | .again _ _ _=>by simp[Raw.many];lia
def Raw.oh:∀its:List Raw,its.length<=Raw.aQ its
 | []=>a9 _
 | a::r=>by have:=a.tD;have:=Raw.oh r;simp only[Raw.aQ,b6];lia
def XM{its:List Raw}{j:Nat}{d:D}(h:(its.map Raw.d)[j]? = some d):∃a:Raw,its[j]? = some a/\d=a.d/\a∈its:=by
 rw[e8] at h
 cases q:its[j]? with
 | none=>rw[q] at h;cases h
 | some a=>rw[q] at h;cases h;exact⟨a,rfl,rfl,sy q⟩
def Bl(a b c:D):aF (.tup [a,b,c]) (.int 0) = .ok a:=rfl
def rR(a b c:D):aF (.tup [a,b,c]) (.int 1) = .ok b:=rfl
def Nt:∀(k:Nat) (its:List Raw) (l:Bool) (c:Nat),Raw.bD its<k->c+Raw.aQ its<=30->vw k [dh l (its.map Raw.d),.int c] = .ok (.int ((c+Raw.aQ its:Nat):Int))
 | 0,_,_,_,h,_=>absurd h (CL _)
 | k+1,its,l,c,h,hm=>by
   show bA 2 4 (EK (vw k)) _=_
   refine b7 rfl ?_
   delta EK
   refine cu (d:=.int c) (by walk_at "evs") ?_
   refine s_ (ds:=its.map Raw.d) (λj Γ=>∃x3,Γ=[.ro (dh l (its.map Raw.d)),.ro (.int c),.ro (.int ((c+Raw.aQ (its.take j):Nat):Int)),x3]) (by walk_at "evs";cases l<;>rfl) ⟨_,by simp[Raw.aQ];rfl⟩ ?_ ?_
   ·rintro j d Γ hd ⟨x3,rfl⟩
    obtain⟨a,ea,rfl,ha⟩:=XM hd
    have et:Raw.aQ (its.take (j+1))=Raw.aQ (its.take j)+a.many:=by
     rw[Kt,ea,Raw.og]
     simp[Raw.aQ]
    have es:Raw.aQ its=Raw.aQ (its.take (j+1))+Raw.aQ (its.drop (j+1)):=by rw[<-Raw.og,Kq]
    have hp:=a.tD
    have e1:((c+Raw.aQ (its.take j):Nat):Int)+1=((c+Raw.aQ (its.take j)+1:Nat):Int):=rfl
    rw[cu (d:=.int ((c+Raw.aQ (its.take j)+1:Nat):Int)) (by walk_at "evs";rw[e1]) rfl]
    have b1:decide ((30:Int)<((c+Raw.aQ (its.take j)+1:Nat):Int))=false:=decide_eq_false (by lia)
    rw[c_ (by walk_at "evs";rw[b1]) rfl]
    cases a with
    | set x f =>
      have e2:Raw.aQ (its.take (j+1))=Raw.aQ (its.take j)+1:=by rw[et];rfl
      refine .nx (mW ?_) ⟨.ro (Raw.set x f).d,?_⟩
      ·simp only[Raw.d]
       walk_at "evs"
      ·rw[e2];rfl
    | again n l2 i =>
      have h1:=Raw.EU ha
      simp only[Raw.deep] at h1
      simp only[Raw.many] at et hp
      have ih:=Nt k i l2 (c+Raw.aQ (its.take j)+1) (by lia) (by lia)
      refine .nx (gK ?_ (kZ (d:=.int ((c+Raw.aQ (its.take (j+1)):Nat):Int)) ?_)) ⟨_,rfl⟩
      ·simp only[Raw.d]
       walk_at "evs"
      ·simp only[Raw.d,Raw.ds_map]
       walk_at "evs"
       simp only[ih]
       walk_at "evs"
       rw[et]
       congr 3
       lia
   ·rintro Γ ⟨x3,rfl⟩
    refine bT ?_
    walk_at "evs"
    rw[zL (a9 _)]
def XN{P many x:Int}{f:List Int}(p1:3<=P)(p2:P<=9999)(m1:1<=many)(m3:many<=3)(h0:0<=x)(h1:x<many)(hf:(f.length:Int)=many+1):EL [.int P,.int many,.int x,aZ f] = .ok (Item.set x (f.map (·%P))).d:=by
 refine b7 rfl ?_
 delta Np
 have ef:=vq (d:=.int x) (a:=0) (b:=many-1) rfl
 have b:lb (.int x) 0 (many-1)=true:=by
  show(decide (0<=x)&&decide (x<=many-1))=true
  rw[decide_eq_true h0,decide_eq_true (by lia)];rfl
 rw[b] at ef
 refine c_ (by walk_at "evs";simp only[ef];walk_at "evs") ?_
 refine c_ (by simp only[ku];walk_at "evs";simp only[hf];walk_at "evs";try simp) ?_
 refine bT ?_
 simp only[Item.d,ku]
 have hl:f.length<=100000:=by lia
 walk_at "evs"
 rw[j8 (h:=λn=>D.int (n%P))]
 ·rw[yf]
  walk_at "evs"
 ·intro n hn
  walk_at "evs"
def Nu{P many:Int}(p1:3<=P)(p2:P<=9999)(m1:1<=many)(m3:many<=3):∀(k:Nat) (its:List Raw) (l:Bool) (ar:Nat),3*Raw.bD its+3<=k->ar+Raw.bD its<=3->Raw.aQ its<=60->Raw.bE many its->pj k [.int P,.int many,dh l (its.map Raw.d),.int ar] = .ok (.tup ((Raw.oj P its).map Item.d))
 | 0,_,_,_,h,_,_,_=>by lia
 | 1,_,_,_,h,_,_,_=>by lia
 | 2,_,_,_,h,_,_,_=>by lia
 | k+3,its,l,ar,h,XO,hm,ho=>by
   show bA 4 4 (ET (rP (k+2)) (rQ (k+2)) (pj (k+2))) _=_
   refine b7 rfl ?_
   delta ET
   refine bT ?_
   have hlen:=Raw.oh its
   have hl:(its.map Raw.d).length<=100000:=by rw[aX];lia
   have XQ:lU (df 2) [En.ro (.int P),.ro (.int many),.ro (dh l (its.map Raw.d)),.ro (.int ar)] = .ok (its.map Raw.d):=by
    walk_at "evs"
    cases l<;>rfl
   have key:∀F:D->G->R (Option D),(∀a∈its,F a.d [En.ro (.int P),.ro (.int many),.ro (dh l (its.map Raw.d)),.ro (.int ar)] = .ok (some (a.made P).d))->ay eK (ae (gL (c8 (lU (df 2)) F)) ao) [En.ro (.int P),.ro (.int many),.ro (dh l (its.map Raw.d)),.ro (.int ar)] = .ok (.tup ((Raw.oj P its).map Item.d)):=λF hF=>by
    have e:c8 (lU (df 2)) F [En.ro (.int P),.ro (.int many),.ro (dh l (its.map Raw.d)),.ro (.int ar)] = .ok (its.map λa=>(a.made P).d):=by
     unfold c8
     rw[XQ]
     show R.guard _ _=_
     rw[bH hl,j8 hF]
    rw[Raw.Nr,i4]
    simp only[ay,ae,ao,gL,e]
    rfl
   refine key _ ?_
   ·intro a ha
    have cI:=Raw.i9.mp ho a ha
    have nL:=Item.cE (a.made P)
    have e:rQ (k+2) [.int P,.int many,a.d,.int ar] = .ok (a.made P).d:=by
     show bA 4 4 (ES (rP (k+1)) (rQ (k+1)) (pj (k+1))) _=_
     refine b7 rfl ?_
     unfold ES
     cases a with
     | set x f =>
       simp only[Raw.ok] at cI
       have es:=XN (P:=P) (many:=many) (x:=x) (f:=f) p1 p2 m1 m3 cI.1 cI.2.1 cI.2.2
       simp only[Raw.d]
       refine l8 (gK (by walk_at "evs") (bT ?_))
       walk_at "evs"
       simp only[es]
       rfl
     | again n l2 i =>
       simp only[Raw.ok] at cI
       have h1:=Raw.EU ha
       have h2:=Raw.rN ha
       simp only[Raw.deep,Raw.many] at h1 h2
       have ih:=Nu p1 p2 m1 m3 k i l2 (ar+1) (by lia) (by lia) (by lia) cI.2.2
       have ef:=vq (d:=.int n) (a:=0) (b:=10^30) rfl
       have b:lb (.int n) 0 (10^30)=true:=by
        show(decide (0<=n)&&decide (n<=10^30))=true
        rw[decide_eq_true cI.1,decide_eq_true cI.2.1];rfl
       rw[b] at ef
       have nI:=rO (Raw.oj P i)
       have eg:rP (k+1) [.int P,.int many,.int n,dh l2 (i.map Raw.d),.int ar] = .ok (Item.again n (Raw.oj P i)).d:=by
        show bA 5 5 (EM (rP k) (rQ k) (pj k)) _=_
        refine b7 rfl ?_
        unfold EM
        have b1:decide ((3:Int)<=(ar:Int))=false:=decide_eq_false (by lia)
        refine c_ (by walk_at "evs";rw[b1]) ?_
        refine c_ (by walk_at "evs";simp only[ef];walk_at "evs") ?_
        refine bT ?_
        have ea:(ar:Int)+1=((ar+1:Nat):Int):=rfl
        walk_at "evs"
        simp only[ea,ih]
        walk_at "evs"
       simp only[Raw.d,Raw.ds_map]
       refine c_ (by walk_at "evs") (bT ?_)
       walk_at "evs"
       simp only[eg]
       rfl
    walk_at "evs"
    simp only[e]
    walk_at "evs"
def XR{P many:Int}{its:List Raw}{l:Bool}(p1:3<=P)(p2:P<=9973)(hd:eM P=false)(m1:1<=many)(m3:many<=3)(d3:Raw.bD its<=3)(hm:Raw.aQ its<=30)(ho:Raw.bE many its):Bk [.int P,.int many,dh l (its.map Raw.d)] = .ok (.tup ((Raw.oj P its).map Item.d)):=by
 refine b7 rfl ?_
 delta Nq
 have ep:=Xe (d:=.int P) rfl (show(decide (3<=P)&&(decide (P<=9999)&&!eM P))=true by rw[decide_eq_true p1,decide_eq_true (show P<=9999 by lia),hd];rfl)
 have ef:=vq (d:=.int many) (a:=1) (b:=3) rfl
 have b:lb (.int many) 1 3=true:=by
  show(decide (1<=many)&&decide (many<=3))=true
  rw[decide_eq_true m1,decide_eq_true m3];rfl
 rw[b] at ef
 have ec:=Nt 12 its l 0 (by lia) (by lia)
 have em:=Nu (P:=P) p1 (by lia) m1 m3 12 its l 0 (by lia) (by lia) (by lia) ho
 refine gJ (Mi (d:=.int P) (by walk_at "evs";simp only[ep])) ?_
 refine c_ (by walk_at "evs";simp only[ef];walk_at "evs") ?_
 refine gJ (Mi (d:=.int ((0+Raw.aQ its:Nat):Int)) (by walk_at "evs";simp only[show(D.int 0)=D.int ((0:Nat):Int) from rfl,ec];try simp)) (bT ?_)
 walk_at "evs"
 simp only[show(D.int 0)=D.int ((0:Nat):Int) from rfl,em]
noncomputable section
end
mutual
def Item.l_:Item->Raw
 | .set x f=>.set x f
 | .again n its=>.again n false (Item.md its)
def Item.md:List Item->List Raw
 | []=>[]
 | a::r=>a.l_::Item.md r
end
def XS{P:Int}{f:List Int}(h:dt P f):f.map (·%P)=f:=by
 have:∀n∈f,n%P=n:=λn hn=>sF (h n hn).1 (h n hn).2
 exact(Kn this).trans (List.map_id _)
mutual
def Item.XT{P many:Int}:∀a:Item,a.ok P many->a.l_.deep=a.deep/\a.l_.many=a.many/\a.l_.ok many/\a.l_.made P=a/\a.l_.d=a.d
 | .set x f,h=>by
   simp only[Item.ok] at h
   refine⟨rfl,rfl,?_,?_,rfl⟩
   ·simp only[Item.l_,Raw.ok];exact⟨h.1,h.2.1,h.2.2.1⟩
   ·simp only[Item.l_,Raw.made,XS h.2.2.2]
 | .again n its,h=>by
   simp only[Item.ok] at h
   obtain⟨h1,h2,h3,h4,h5⟩:=Item.EV its h.2.2
   refine⟨by simp only[Item.l_,Raw.deep,Item.deep,h1],by simp only[Item.l_,Raw.many,Item.many,h2],?_,by simp only[Item.l_,Raw.made,h4],?_⟩
   ·simp only[Item.l_,Raw.ok]
    exact⟨h.1,h.2.1,h3⟩
   ·simp only[Item.l_,Raw.d,Item.d,dh,h5]
    rfl
def Item.EV{P many:Int}:∀its:List Item,Item.bE P many its->Raw.bD (Item.md its)=Item.bD its/\Raw.aQ (Item.md its)=Item.aQ its/\Raw.bE many (Item.md its)/\Raw.oj P (Item.md its)=its/\Raw.ds (Item.md its)=Item.ds its
 | [],_=>⟨rfl,rfl,trivial,rfl,rfl⟩
 | a::r,h=>by
   simp only[Item.bE] at h
   obtain⟨h1,h2,h3,h4,h5⟩:=Item.XT a h.1
   obtain⟨k1,k2,k3,k4,k5⟩:=Item.EV r h.2
   exact⟨by simp only[Item.md,Raw.bD,Item.bD,h1,k1],by simp only[Item.md,Raw.aQ,Item.aQ,h2,k2],by simp only[Item.md,Raw.bE];exact⟨h3,k3⟩,by simp only[Item.md,Raw.oj,h4,k4],by simp only[Item.md,Raw.ds,Item.ds,h5,k5]⟩
end
noncomputable section
def Nv:G->R Fl :=
 (aC (a6 3 (aG (gC (.str "abcdefghijklmnopqrstuvwxyz"))))
 (aC (a6 4 (aG (aj dm (gC (.int 1)) (aj cM (gV 0) (gC (.int 8))))))
 (aC (e_ 5 (b_ ao))
 (aC (iO 6 (mV (gV 2))
 (aC (a6 7 (aG (gC (.str ""))))
 (aC (iO 8 (mV (gV 4))
 (aC (a6 9 (aG (aj dm (aj dm (aj jL (aj fV (gV 0) (gC (.int 64))) (aj dm (aj jL (gC (.int 2)) (gV 8)) (gC (.int 1)))) (aj jL (aj fV (gV 1) (gC (.int 26))) (gV 8))) (aj jL (aj jL (gC (.int 7)) (gV 8)) (gV 8)))))
 (aC (bU (gT (aj cS (gV 8) (aj cM (aj fV (gV 0) (gC (.int 8))) (gV 4)))) (a6 9 (aG (aj dm (gV 9) (aj jL (aj dm (gC (.int 1)) (aj jL (gC (.int 2)) (aj cM (gV 1) (gC (.int 6))))) (gV 6))))) cF)
 (a6 7 (aG (aj y7i (gV 7) (aj dIxS (gV 3) (aj cM (gV 9) (gC (.int 26))))))))))
 (aC (bU (gT (aj dIn (gV 7) (d_ (ae (gC (.str "set")) (ae (gC (.str "again")) ao))))) (a6 7 (aG (aj y7i (gV 7) (gC (.str "x"))))) cF)
 (l0 5 (aG (gV 7)))))))
 (aY (ay eK (ae (gV 5) ao)))))))
def EW:List D->R D:=bA 3 10 Nv
def EX(XU:List D->R (List D)):G->R Fl :=
 (aC (e_ 2 (b_ ao))
 (aC (iO 3 (lU (df 1))
 (bU (gT (aj cS (aj aF (gV 3) (gC (.int 0))) (gC (.str "set")))) (e_ 2 (iM (kW (gV 2) (gL (b_ (ae (gC (.str "set")) (ae (aj aF (gV 0) (aj aF (gV 3) (gC (.int 1)))) ao))))) (c8 (fQ (aj aF (gV 3) (gC (.int 2)))) (dr (aG (ay k_ (ae (gV 0) ao))))))) (e_ 2 (iM (iM (kW (gV 2) (gL (b_ (ae (gC (.str "again")) (ae (ay k_ (ae (aj aF (gV 3) (gC (.int 1))) ao)) (ae (gC (.str "[")) ao)))))) (gx XU (ae (gV 0) (ae (aj aF (gV 3) (gC (.int 2))) ao)))) (b_ (ae (gC (.str "]")) ao))))))
 (rB 2)))
def vz:Nat->List D->R (List D)
 | 0=>λ_=>.no
 | n+1=>jN 2 4 (EX (vz n))
def Nw:G->R Fl :=
 (aC (e_ 3 (b_ (ae (aj y7i (gC (.str "prime ")) (ay k_ (ae (gV 0) ao))) (ae (la " " (gL (iM (b_ (ae (gC (.str "boxes")) ao)) (ju (gV 1))))) (ae (la " " (gL (iM (b_ (ae (gC (.str "do")) ao)) (gx (vz 12) (ae (gV 1) (ae (gV 2) ao)))))) ao)))))
 (aY (la "\n" (gV 3))))
def Bm:List D->R D:=bA 3 4 Nw
def Nx:G->R Fl :=
 (aY (kQ (aj qd (gC (.int 1)) (ay x4r (ae (gV 0) ao))) (kQ (aj qd (ay x4r (ae (gV 0) ao)) (gV 2)) (ay n7 (ae (gL (c8 (y3y (gV 0)) (dr (aG (aj dInS (gV 0) (gV 2)))))) ao)))))
def tH:List D->R D:=bA 3 3 Nx
def Ny:G->R Fl :=
 (aC (bU (jJ (jK (gT (ay tH (ae (gV 0) (ae (gC (.str "0123456789")) (ae (gC (.int 31)) ao)))))) (jt (gT (aj cS (aj dIxS (gV 0) (gC (.int 0))) (gC (.str "0")))) (gT (aj eG (gV 0) (gC (.str "0")))))) (iw .dZ) cF)
 (aY (ay xY (ae (gV 0) ao))))
def yh:List D->R D:=bA 1 1 Ny
def EY:G->R (D×List D) :=
 (d9 (bU (gT (aj rk (ay c9 (ae (gV 0) ao)) (gV 1))) A3 cF)
 (vh 0 (gV 1)))
def rS:List D->R (D×List D):=m_ 2 2 0 EY
def EZ:G->R (D×List D) :=
 (iQ 0 (tf 0 (pb eG 0 (iA rS (z9c 0 (ae (aG (gC (.int 1))) ao))) (gL (b_ (ae (gV 1) ao))))))
def Bn:List D->R (D×List D):=m_ 2 2 0 EZ
def Nz:G->R Fl :=
 (aC (a6 2 (aG (ay yh (ae (gV 1) ao))))
 (aC (bU (gT (aj xJ (gV 2) (gV 0))) (iw .dZ) cF)
 (aY (gV 2))))
def E0:List D->R D:=bA 2 3 Nz
def E4:G->R (D×List D) :=
 (d9 (pa 3 2 (rE 2 (iA rS (z9c 2 (ae (aG (gC (.int 1))) ao))) (gC (.int 0))))
 (d9 (bU (gT (aj y0j (gV 3) (gV 1))) A3 cF)
 (d9 (ti 4 2 (iA rS (z9c 2 (ae (aG (aj dm (ay c9 (ae (gV 1) ao)) (gC (.int 1)))) ao))) (dr (aG (ay (gv E0) (ae (gV 1) (ae (gV 0) ao))))))
 (qj 2 (d_ (ae (aG (gC (.str "set"))) (ae (aG (xX (gV 1) (gV 3))) (ae (aG (ay eK (ae (gV 4) ao))) ao))))))))
def E5:List D->R (D×List D):=m_ 3 5 2 E4
def E8(E9:List D->R (D×List D))(E_:List D->R (D×List D))(Fb:List D->R (D×List D)):G->R (D×List D) :=
 (d9 (bU (gT (aj xJ (gV 3) (gC (.int 3)))) A3 cF)
 (d9 (pa 4 2 (vi yh (rE 2 (iA rS (z9c 2 (ae (aG (gC (.int 1))) ao))) (gC (.int 0)))))
 (d9 (td 2 (iA Bn (z9c 2 (ae (aG (gC (.str "["))) ao))))
 (d9 (pa 5 2 (iA Fb (ae (df 0) (ae (df 1) (z9c 2 (ae (aG (aj dm (gV 3) (gC (.int 1)))) ao))))))
 (d9 (td 2 (iA Bn (z9c 2 (ae (aG (gC (.str "]"))) ao))))
 (qj 2 (d_ (ae (aG (gC (.str "again"))) (ae (df 4) (ae (df 5) ao))))))))))
def Fc(E9:List D->R (D×List D))(E_:List D->R (D×List D))(Fb:List D->R (D×List D)):G->R (D×List D) :=
 (d9 (pa 4 2 (rE 2 (iA rS (z9c 2 (ae (aG (gC (.int 1))) ao))) (gC (.int 0))))
 (n_ (gT (aj cS (gV 4) (gC (.str "set")))) (iA E5 (ae (df 0) (ae (df 1) (z9c 2 ao))))
 (n_ (gT (aj cS (gV 4) (gC (.str "again")))) (iA E9 (ae (df 0) (ae (df 1) (z9c 2 (ae (df 3) ao)))))
 D6)))
def Fd(E9:List D->R (D×List D))(E_:List D->R (D×List D))(Fb:List D->R (D×List D)):G->R (D×List D) :=
 (d9 (e_ 4 (b_ ao))
 (d9 (fc (jt (y0i (gV 2)) (gT (aj eG (aj aF (gV 2) (kR (gC (.int 1)))) (gC (.str "]"))))) (qi 4 2 (iA E_ (ae (df 0) (ae (df 1) (z9c 2 (ae (df 3) ao)))))) 200)
 (qj 2 (aG (ay eK (ae (gV 4) ao))))))
mutual
def rT:Nat->List D->R (D×List D)
 | 0=>λ_=>.no
 | n+1=>m_ 4 6 2 (E8 (rT n) (rU n) (pk n))
def rU:Nat->List D->R (D×List D)
 | 0=>λ_=>.no
 | n+1=>m_ 4 5 2 (Fc (rT n) (rU n) (pk n))
def pk:Nat->List D->R (D×List D)
 | 0=>λ_=>.no
 | n+1=>m_ 4 5 2 (Fd (rT n) (rU n) (pk n))
end
def NA:G->R Fl :=
 (aC (e_ 3 (z9o (gV 2)))
 (aC (pa 4 3 (iA (pk 12) (ae (df 0) (ae (df 1) (z9c 3 (ae (aG (gC (.int 0))) ao))))))
 (aC (bU (y0i (gV 3)) (iw .dZ) cF)
 (gNoX (aY (ay Bk (ae (gV 0) (ae (ay c9 (ae (gV 1) ao)) (ae (gV 4) ao)))))))))
def Bo:List D->R D:=bA 3 5 NA
def NB:G->R Fl :=
 (aY (kQ (ay tH (ae (gV 0) (ae (gC (.str "abcdefghijklmnopqrstuvwxyz")) (ae (gC (.int 8)) ao)))) (aj y0j (gV 0) (d_ (ae (gC (.str "set")) (ae (gC (.str "again")) ao))))))
def yi:List D->R D:=bA 1 1 NB
def NC:G->R Fl :=
 (aC (bU (jJ (jK (y0i (gV 0))) (jJ (gT (aj o8 (ay c9 (ae (gV 0) ao)) (gC (.int 3)))) (gT (aj eG (A2 (gV 0)) (ay c9 (ae (gV 0) ao)))))) (iw .dZ) cF)
 (aC (bU (jK (gT (ay n7 (ae (gL (c8 (fQ (gV 0)) (dr (aG (ay (gv yi) (ae (gV 0) ao)))))) ao)))) (iw .dZ) cF)
 (aY (ay eK (ae (gV 0) ao)))))
def Fe:List D->R D:=bA 1 1 NC
def ND:G->R Fl :=
 (aC (bU (gT (aj eG (ay c9 (ae (gV 0) ao)) (gC (.int 1)))) (iw .dZ) cF)
 (aC (a6 1 (aG (ay yh (ae (aj aF (gV 0) (gC (.int 0))) ao))))
 (aC (bU (jK (gT (ay Bb (ae (gV 1) ao)))) (iw .dZ) cF)
 (aY (gV 1)))))
def Ff:List D->R D:=bA 1 2 ND
def NF:G->R Fl :=
 (aC (e_ 2 (xW " " (gV 0)))
 (aC (bU (gT (aj eG (aj aF (gV 2) (gC (.int 0))) (gV 1))) (iw .dZ) cF)
 (qg (DQ (gV 2) (j7 (gC (.int 1))) kT))))
def vA:List D->R (List D):=jN 2 3 NF
def Fg:G->R Fl :=
 (aC (e_ 1 (xW "\n" (gV 0)))
 (aC (bU (gT (aj eG (ay c9 (ae (gV 1) ao)) (gC (.int 3)))) (iw .dZ) cF)
 (aC (a6 2 (aG (ay Ff (ae (gL (gx vA (ae (aj aF (gV 1) (gC (.int 0))) (ae (gC (.str "prime")) ao)))) ao))))
 (aC (a6 3 (aG (ay Fe (ae (gL (gx vA (ae (aj aF (gV 1) (gC (.int 1))) (ae (gC (.str "boxes")) ao)))) ao))))
 (aY (d_ (ae (gV 2) (ae (gV 3) (ae (ay Bo (ae (gV 2) (ae (gV 3) (ae (gL (gx vA (ae (aj aF (gV 1) (gC (.int 2))) (ae (gC (.str "do")) ao)))) ao)))) ao)))))))))
def rV:List D->R D:=bA 1 4 Fg
def NG:G->R Fl :=
 (qg (c8 (fQ (gV 0)) (dr (aG (ay k_ (ae (gV 0) ao))))))
def yj:List D->R (List D):=jN 1 1 NG
def Fh(NH:List D->R (List D))(NI:List D->R (List D)):G->R Fl :=
 (aC (e_ 2 (b_ ao))
 (aC (iO 3 (lU (df 1))
 (sX 2 (gx NI (ae (gV 0) (ae (gV 3) ao)))))
 (rB 2)))
def Fi(NH:List D->R (List D))(NI:List D->R (List D)):G->R Fl :=
 (aC (bU (gT (aj cS (aj aF (gV 1) (gC (.int 0))) (gC (.str "set")))) (qg (iM (b_ (ae (gC (.str "set")) (ae (aj aF (gV 0) (aj aF (gV 1) (gC (.int 1)))) ao))) (gx yj (ae (aj aF (gV 1) (gC (.int 2))) ao)))) cF)
 (qg (iM (iM (b_ (ae (gC (.str "again")) (ae (ay k_ (ae (aj aF (gV 1) (gC (.int 1))) ao)) (ae (gC (.str "[")) ao)))) (gx NH (ae (gV 0) (ae (aj aF (gV 1) (gC (.int 2))) ao)))) (b_ (ae (gC (.str "]")) ao)))))
mutual
def tI:Nat->List D->R (List D)
 | 0=>λ_=>.no
 | n+1=>jN 2 4 (Fh (tI n) (yk n))
def yk:Nat->List D->R (List D)
 | 0=>λ_=>.no
 | n+1=>jN 2 2 (Fi (tI n) (yk n))
end
def NJ:G->R Fl :=
 (aC (a6 3 (gL (y4b (ae (gL (y4b (ae (aG (gC (.str "prime"))) (ae (aG (ay k_ (ae (gV 0) ao))) ao)))) (ae (gL (iM (b_ (ae (gC (.str "boxes")) ao)) (ju (gV 1)))) (ae (gL (iM (b_ (ae (gC (.str "do")) ao)) (gx (tI 12) (ae (gV 1) (ae (gV 2) ao))))) ao))))))
 (aY (la "\n" (gL (c8 (lU (df 3)) (dr (aG (la " " (gV 0)))))))))
def Fj:List D->R D:=bA 3 4 NJ
end
end L3
namespace L3
open PySem
local macro_rules | `(tactic| walk_at "evs") => wkL " L3.y2f L3.z6u L3.s_on L3.z4b L3.z7q L3.z7t L3.z7v L3.z5w L3.z6o L3.z7x L3.z4t L3.z7h L3.dInt L3.y8t L3.x0w L3.y4b L3.Item.d L3.Item.ds_map L3.z7a L3.x1m L3.x1n L3.y6x L3.y1g L3.y5q L3.y8s L3.y1c L3.y0i L3.D.isNon L3.gRev L3.z9w L3.z8i L3.y2n L3.z9c L3.x4r L3.dInS L3.dIxS L3.y3y L3.y0j L3.dIn L3.z9o L3.gNoX L3.y7i"
section
variable {t:G->R Fl}{u v:G->R (D×List D)}{g gb:G->R D}{Γ Γ':G}{d b r:D}{ws:List D}{w j i m:Nat}{q:R (D×List D)}
def me(h:t Γ = .ok (.nx Γ'))(hr:u Γ'=q):d9 t u Γ=q:=by unfold d9;rw[h];exact hr
def vB(h:u Γ = .ok (d,ws)):pa j w u Γ = .ok (.nx ((Γ.set w (.own ws)).set j (.ro d))):=by unfold pa;rw[h]
def NK(h:u Γ = .ok (d,ws)):td w u Γ = .ok (.nx (Γ.set w (.own ws))):=by unfold td;rw[h]
def XW{ds:List D}(h:u Γ = .ok (d,ws))(hm:(Γ.set w (.own ws))[m]? = some (.own ds))(hl:ds.length<=100000):qi m w u Γ = .ok (.nx ((Γ.set w (.own ws)).set m (.own (ds++[d])))):=by
 unfold qi;rw[h];dsimp only;rw[hm];dsimp only;rw[if_pos hl]
def XX(h:u Γ = .ok (.bl false,ws)):tf w u Γ = .ok (.nx (Γ.set w (.own ws))):=by unfold tf;rw[h]
def Bp(h:u Γ = .ok (d,ws))(hb:gb (Γ.set w (.own ws)) = .ok b)(hr:aF d b = .ok r):rE w u gb Γ = .ok (r,ws):=by unfold rE;rw[h];dsimp only;rw[hb];dsimp only;rw[hr]
def XY{φ:D->D->R D}(h:u Γ = .ok (d,ws))(hb:gb (Γ.set w (.own ws)) = .ok b)(hr:φ d b = .ok r):pb φ w u gb Γ = .ok (r,ws):=by unfold pb;rw[h];dsimp only;rw[hb];dsimp only;rw[hr]
def XZ{φ:List D->R D}(h:u Γ = .ok (d,ws))(hr:φ [d] = .ok r):vi φ u Γ = .ok (r,ws):=by unfold vi;rw[h];dsimp only;rw[hr]
def mf{φ:List D->R (D×List D)}{gs:G->R (List D)}{ds:List D}{x:D×List D}(h:gs Γ = .ok ds)(e:φ ds = .ok x):iA φ gs Γ = .ok x:=by unfold iA;rw[h];show R.good (φ ds)=_;rw[e];rfl
def Fm(h:g Γ = .ok d)(hw:Γ[i]? = some (.own ws)):qj i g Γ = .ok (d,ws):=by unfold qj;rw[h];show(match Γ[i]? with | some (.own ws)=>R.ok (d,ws) | _=>R.no)=_;rw[hw]
def NL{c:G->R Bool}(h:c Γ = .ok true)(hr:u Γ=q):n_ c u v Γ=q:=by unfold n_;rw[h];exact hr
def X0{c:G->R Bool}(h:c Γ = .ok false)(hr:v Γ=q):n_ c u v Γ=q:=by unfold n_;rw[h];exact hr
def X1(h:t Γ = .ok (.nx Γ'))(hw:Γ'[i]? = some (.own ws)):iQ i t Γ = .ok (.cQ,ws):=by unfold iQ;rw[h];dsimp only;rw[hw]
def X2{f:D->G->R (Option D)}{items total:List D}(h:u Γ = .ok (.lst items,ws))(hl:items.length<=100000)(et:dF (λd=>f d (Γ.set w (.own ws))) items [] = .ok total):ti j w u f Γ = .ok (.nx ((Γ.set w (.own ws)).set j (.own total))):=by
 unfold ti;rw[h];dsimp only;rw[if_pos hl,et]
end
def NM{T:List D}{n:Nat}(h:n<=T.length)(hl:T.length<=100000):rS [.lst T.reverse,.int n] = .ok (.lst (T.take n),(T.drop n).reverse):=by
 refine(tj (as:=[]) (bs:=[.int n]) rfl rfl).trans ?_
 show EY [.own T.reverse,.ro (.int n)]=_
 delta EY
 have b1:decide (((T.length:Nat):Int)<(n:Int))=false:=decide_eq_false (by lia)
 refine me (mW (by walk_at "evs";simp only[qT,b1])) ?_
 unfold vh
 show(match ([En.own T.reverse,.ro (.int n)]:G)[0]? with | some (.own ws)=>if (0<=(n:Int)/\(n:Int).toNat<=ws.length/\ws.length<=100000) then R.ok (D.lst (ws.reverse.take (n:Int).toNat),ws.take (ws.length-(n:Int).toNat)) else .no | _=>.no)=_
 show(if (0<=(n:Int)/\(n:Int).toNat<=T.reverse.length/\T.reverse.length<=100000) then R.ok (D.lst (T.reverse.reverse.take (n:Int).toNat),T.reverse.take (T.reverse.length-(n:Int).toNat)) else .no)=_
 rw[mG,qT,if_pos ⟨by lia,h,hl⟩,List.reverse_reverse]
 have e:T.reverse.take (T.length-n)=(T.drop n).reverse:=by
  rw[List.reverse_drop]
 rw[e]
def ym{d:D}{T:List D}(hl:T.length<100000):rS [.lst (d::T).reverse,.int 1] = .ok (.lst [d],T.reverse):=by
 have:=NM (T:=d::T) (n:=1) (by simp) (by simp only[b6];lia)
 simpa using this
def X3(x:Str):bO (.lst [.str x]) (.lst [.str x])=true:=sV (by rw[LU];simp[D.pl,D.lS])
def X4{x:Str}(h:dn x=true):D.lay 40 (.lst [.str x])=true:=by rw[DK];simp[D.lay,h]
def iR:∀xs:List Str,D.bC (xs.map D.str)=true
 | []=>rfl
 | x::r=>by rw[fN];simp[D.bC,D.cE,iR r]
def NN{x:Str}{T:List D}(hx:dn x=true)(hl:T.length<100000):Bn [.lst (D.str x::T).reverse,.str x] = .ok (.cQ,T.reverse):=by
 refine(tj (as:=[]) (bs:=[.str x]) rfl rfl).trans ?_
 show EZ [.own (D.str x::T).reverse,.ro (.str x)]=_
 delta EZ
 refine X1 (Γ':=[.own T.reverse,.ro (.str x)]) (XX (ws:=T.reverse) (XY (d:=.lst [.str x]) (b:=.lst [.str x]) (mf (ds:=[.lst (D.str x::T).reverse,.int 1]) ?_ (ym hl)) ?_ ?_)) rfl
 ·walk_at "evs"
 ·have n1:D.bC [D.str x]=true:=iR [x]
  walk_at "evs"
 ·have l1:=X4 hx
  have e1:=X3 x
  show R.guard _ _=_
  rw[bH ⟨l1,l1⟩,e1]
  rfl
def yn{a b:G->R D}{Γ:G}{r:R D}(h:a Γ = .ok (.bl true))(h2:b Γ=r):kQ a b Γ=r:=by unfold kQ;rw[h];exact h2
def NO{w S:Str}{m:Int}(h1:1<=w.length)(h2:(w.length:Int)<=m)(h3:w.length<=100000)(h:∀c∈w.cps.toList,vg ⟨#[c]⟩ S=true):tH [.str w,.str S,.int m] = .ok (.bl true):=by
 refine b7 rfl ?_
 delta Nx
 refine bT ?_
 show kQ _ _ [En.ro (.str w),.ro (.str S),.ro (.int m)]=_
 have b1:decide ((1:Int)<=(w.length:Int))=true:=decide_eq_true (by lia)
 have b2:decide ((w.length:Int)<=m)=true:=decide_eq_true h2
 have hl:(n8 w).length<=100000:=by unfold n8;rw[aX];simpa [wJ] using h3
 have ec:c8 (y3y (gV 0)) (dr (aG (aj dInS (gV 0) (gV 2)))) [En.ro (.str w),.ro (.str S),.ro (.int m)] = .ok ((w.cps.toList.map λ_=>true).map D.bl):=by
  unfold c8
  rw[show y3y (gV 0) [En.ro (.str w),.ro (.str S),.ro (.int m)] = .ok (n8 w) by walk_at "evs"]
  show R.guard _ _=_
  rw[bH hl]
  unfold n8
  rw[i4]
  refine j8 λc hc=>?_
  have:=h c hc
  walk_at "evs"
  rw[this];rfl
 refine yn (by walk_at "evs";rw[b1]) (yn (by walk_at "evs";rw[b2]) ?_)
 simp only[ay,ae,ao,gL,ec]
 show n7 [.lst _]=_
 rw[xO]
 simp
def X5:∀c:Nat,48<=c->c<=57->vg ⟨#[c]⟩ "0123456789"=true:=by
 intro c h1 h2
 have:c=48∨c=49∨c=50∨c=51∨c=52∨c=53∨c=54∨c=55∨c=56∨c=57:=by lia
 rcases this with rfl | rfl | rfl | rfl | rfl | rfl | rfl | rfl | rfl | rfl<;>decide +kernel
def vC{a b:Str}(ha:dn a=true)(hb:dn b=true):cS (.str a) (.str b) = .ok (.bl (decide (a=b))):=by
 show R.guard _ _=_
 rw[bH ⟨by rw[lQ];exact ha,by rw[lQ];exact hb⟩]
 by_cases q:a=b
 ·subst q;rw[decide_eq_true rfl,sV rfl]
 ·rw[decide_eq_false q,z7a];simp[q]
def yo{a b:Str}(ha:dn a=true)(hb:dn b=true):eG (.str a) (.str b) = .ok (.bl (!decide (a=b))):=by
 show R.guard _ _=_
 rw[bH ⟨by rw[lQ];exact ha,by rw[lQ];exact hb⟩]
 by_cases q:a=b
 ·subst q;rw[decide_eq_true rfl,sV rfl]
 ·rw[decide_eq_false q,z7a];simp[q]
def X6{n:Int}(h0:0<=n)(h1:n<=10^30):xY [.str (aW n)] = .ok (.int n):=by
 unfold xY
 show R.guard _ _=_
 rw[bH (fG (vj h0 h1) (by decide)),Wz h0 h1]
def X7{n:Int}(h0:0<=n)(h1:n<=10^30):tH [.str (aW n),.str "0123456789",.int 31] = .ok (.bl true):=by
 have l1:=Wy h0
 have l2:=vj h0 h1
 exact NO l1 (by lia) (by lia) λc hc=>X5 c (tm h0 c hc).1 (tm h0 c hc).2
def yp{n:Int}(h0:0<=n):dn (aW n)=true:=by
 unfold dn
 rw[<-SY,mF]
 intro c hc
 have:=tm h0 c hc
 simpa using (show c<0x110000 by lia)
def Fo{n:Int}(h0:0<=n)(h1:n<=10^30):yh [.str (aW n)] = .ok (.int n):=by
 have l2:=vj h0 h1
 have l3:(aW n).length<=100000:=by lia
 refine b7 rfl ?_
 delta Ny
 have hc:jJ (jK (gT (ay tH (ae (gV 0) (ae (gC (.str "0123456789")) (ae (gC (.int 31)) ao)))))) (jt (gT (aj cS (aj dIxS (gV 0) (gC (.int 0))) (gC (.str "0")))) (gT (aj eG (gV 0) (gC (.str "0"))))) [En.ro (.str (aW n))] = .ok false:=by
  have e1:=X7 h0 h1
  have q1:jK (gT (ay tH (ae (gV 0) (ae (gC (.str "0123456789")) (ae (gC (.int 31)) ao))))) [En.ro (.str (aW n))] = .ok false:=by
   walk_at "evs"
   simp only[e1]
   walk_at "evs"
  unfold jJ
  rw[q1]
  show jt _ _ _=_
  cases hL:(aW n).cps.toList with
  | nil=>exact absurd hL (D8 h0)
  | cons c r =>
    have ei:dIxS (.str (aW n)) (.int 0) = .ok (.str ⟨#[c]⟩):=by
     unfold dIxS
     show R.guard _ _=_
     rw[bH l3,hL,AF (by lia)]
     rfl
    have lc:dn ⟨#[c]⟩=true:=by
     have:=tm h0 c (by rw[hL];exact gj ..)
     simp only[dn]
     simpa using (show c<0x110000 by lia)
    have k0:dn "0"=true:=by decide +kernel
    have ln:=yp h0
    by_cases q:c=48
    ·subst q
     have e0:=WA h0 hL
     have z0:aW 0="0":=by decide +kernel
     have en:aW n="0":=e0.trans z0
     have ec:(⟨#[48]⟩:Str)="0":=by decide +kernel
     have q2:gT (aj cS (aj dIxS (gV 0) (gC (.int 0))) (gC (.str "0"))) [En.ro (.str (aW n))] = .ok true:=by
      simp only[gT,aj,gV,gC,fP,R.cz,ei,ec]
      rw[vC k0 k0];simp[AB]
     have q3:gT (aj eG (gV 0) (gC (.str "0"))) [En.ro (.str (aW n))] = .ok false:=by
      simp only[gT,aj,gV,gC,fP,R.cz,en]
      rw[yo k0 k0];simp[AB]
     unfold jt
     rw[q2]
     exact q3
    ·have ne:(⟨#[c]⟩:Str)≠"0":=λz=>q (by
      have:=congrArg (λs:Str=>s.cps.toList) z
      have X8:("0":Str).cps.toList=[48]:=by decide +kernel
      dsimp only at this
      rw[X8] at this
      simpa using this)
     have q2:gT (aj cS (aj dIxS (gV 0) (gC (.int 0))) (gC (.str "0"))) [En.ro (.str (aW n))] = .ok false:=by
      simp only[gT,aj,gV,gC,fP,R.cz,ei]
      rw[vC lc k0,decide_eq_false ne];rfl
     unfold jt
     rw[q2]
     rfl
 refine c_ hc ?_
 refine bT ?_
 show ay _ _ [En.ro (.str (aW n))]=_
 have:=X6 h0 h1
 simp only[ay,ae,ao,gV,fP,R.cz,this]
mutual
def Item.ws(ns:List Str):Item->List Str
 | .set x f=>"set"::ns.getD x.toNat ""::f.map aW
 | .again n its=>"again"::aW n::"["::(Item.bG ns its++[("]":Str)])
def Item.bG(ns:List Str):List Item->List Str
 | []=>[]
 | a::r=>Item.ws ns a++Item.bG ns r
end
structure Names (ns:List Str):Prop where
 nd:ns.Nodup
 ok:∀x∈ns,dn x=true
 l1:1<=ns.length
 l3:ns.length<=3
def dI(ns:List Str):D:=.tup (ns.map D.str)
def X9{P n:Int}(h0:0<=n)(h1:n<P)(h2:P<=9999):E0 [.int P,.str (aW n)] = .ok (.int n):=by
 have e:=Fo h0 (show n<=10^30 by lia)
 refine b7 rfl ?_
 delta Nz
 have b:decide (P<=n)=false:=decide_eq_false (by lia)
 refine cu (d:=.int n) (by walk_at "evs";simp only[e];walk_at "evs") ?_
 refine c_ (by walk_at "evs";rw[b]) (bT ?_)
 walk_at "evs"
def X_{ns:List Str}(h:∀x∈ns,dn x=true):D.lay 40 (dI ns)=true:=by
 unfold dI
 rw[xK,mF]
 intro d hd
 obtain⟨x,hx,rfl⟩:=List.mem_map.mp hd
 rw[lQ];exact h x hx
def Yb{ns:List Str}(h:∀x∈ns,dn x=true){x:Str}(hx:x∈ns):y0j (.str x) (dI ns) = .ok (.bl false):=by
 show R.guard _ _=_
 rw[bH ⟨by rw[lQ];exact h x hx,X_ h⟩]
 have:(ns.map D.str).any (λy=>bO y (.str x))=true:=List.any_eq_true.mpr ⟨.str x,List.mem_map.mpr ⟨x,hx,rfl⟩,sV rfl⟩
 rw[this];rfl
def Yc{ns:List Str}(N:Names ns){j:Nat}(hj:j<ns.length):n9 ns (ns.getD j "") = .ok (.int (j:Int)):=by
 have e:ns.getD j ""=ns[j]:=by simp[Ku,hj]
 have f:ns.findIdx? (·==ns.getD j "")=some j:=by
  rw[e,List.findIdx?_eq_some_iff_getElem]
  refine⟨hj,by simp,λk hk=>?_⟩
  have:ns[k]≠ns[j]:=λz=>dM hk ((a3y N.nd).mp z)
  simpa using this
 unfold n9
 rw[f]
 show R.guard _ _=_
 rw[bH (by have:=N.l3;lia)]
def Yd{P x:Int}{f:List Int}{ns:List Str}{Z:List D}(N:Names ns)(h2:P<=9999)(x0:0<=x)(x1:x<ns.length)(hf:(f.length:Int)=ns.length+1)(ho:dt P f)(hZ:Z.length<=99000) :
 E5 [.int P,dI ns,.lst ((ns.getD x.toNat ""::f.map aW).map D.str++Z).reverse] = .ok ((Item.set x f).d,Z.reverse):=by
 obtain⟨j,rfl⟩:=oR x0
 have hj:j<ns.length:=by lia
 have l3:=N.l3
 rw[mG]
 have hm:ns.getD j ""∈ns:=by
  have e:ns.getD j ""=ns[j]:=by simp[Ku,hj]
  rw[e];exact oS hj
 generalize Ye:ns.getD j ""=nm at *
 have fl:f.length=ns.length+1:=by lia
 have eF:((f.map aW).map D.str).length=ns.length+1:=by rw[aX,aX,fl]
 generalize hF:(f.map aW).map D.str=F at *
 rw[fN,hF,mI]
 have t1:=ym (d:=.str nm) (T:=F++Z) (by rw[dN];lia)
 have t2:=NM (T:=F++Z) (n:=ns.length+1) (by rw[dN];lia) (by rw[dN];lia)
 rw[List.take_left' eF,List.drop_left' eF] at t2
 refine(tj (as:=[.int P,dI ns]) (bs:=[]) rfl rfl).trans ?_
 show E4 [.ro (.int P),.ro (dI ns),.own (D.str nm::(F++Z)).reverse,.no,.no]=_
 delta E4
 refine me (vB (d:=.str nm) (ws:=(F++Z).reverse) (Bp (d:=.lst [.str nm]) (b:=.int 0) (mf (ds:=[.lst (D.str nm::(F++Z)).reverse,.int 1]) (by walk_at "evs") t1) (by walk_at "evs") rfl)) ?_
 show d9 _ _ [En.ro (.int P),.ro (dI ns),.own (F++Z).reverse,.ro (.str nm),.no]=_
 refine me (mW (by
  have:=Yb N.ok hm
  simp only[gT,aj,gV,fP,gY,uX,R.cz,this,AB])) ?_
 have ec:(((ns.length:Nat):Int)+1)=((ns.length+1:Nat):Int):=by lia
 refine me (X2 (items:=F) (ws:=Z.reverse) (total:=f.map D.int) (mf (ds:=[.lst (F++Z).reverse,.int ((ns.length+1:Nat):Int)]) (by
  unfold dI
  walk_at "evs"
  simp only[aX,ec]
  try walk_at "evs") t2) (by rw[eF];lia) ?_) ?_
 ·rw[<-hF,i4]
  refine j8 λv hv=>?_
  have ov:=ho v hv
  have e:=X9 (P:=P) (n:=v) ov.1 ov.2 h2
  show(dr _) (.str (aW v)) [En.ro (.int P),.ro (dI ns),.own Z.reverse,.ro (.str nm),.no]=_
  simp only[dr,aG,ay,ae,ao,gV,fP,gY,R.cz,gv,e]
  walk_at "evs"
  try rfl
 ·show qj _ _ [En.ro (.int P),.ro (dI ns),.own Z.reverse,.ro (.str nm),.own (f.map D.int)]=_
  refine Fm ?_ rfl
  have ei:xX (gV 1) (gV 3) [En.ro (.int P),.ro (dI ns),.own Z.reverse,.ro (.str nm),.own (f.map D.int)] = .ok (.int (j:Int)):=by
   have:=Yc N hj
   rw[Ye] at this
   simp only[xX,gV,fP,gY,R.cz,dI,strs?_map,this]
  have nr:=z4t f
  unfold aZ at nr
  simp only[Item.d,aZ,d_,ae,ao,aG,ei]
  walk_at "evs"
  try rfl
def NP(d:D)(T:List D):aF (.lst (d::T).reverse) (.int (-1)) = .ok d:=by
 have e:c5 (d::T).reverse (-1)=some d:=by
  have h1:(-1+((d::T).reverse.length:Int)).toNat=T.length:=by rw[qT,b6];lia
  rw[VY (by lia) (by rw[qT,b6];lia),h1,zI,uB (by simp)]
  simp
 simp only[aF,e]
def Item.nq{P:Int}{ns:List Str}(h3:ns.length<=3):∀(k:Nat) (its:List Item),Item.aQ its<=k->Item.bE P ns.length its->(Item.bG ns its).length<=6*Item.aQ its
 | _,[],_,_=>pV _
 | 0,a::r,h,_=>by have:=a.tD;simp only[Item.aQ] at h;lia
 | k+1,.set x f::r,h,ho=>by
   simp only[Item.bE,Item.ok] at ho
   simp only[Item.aQ,Item.many] at h ⊢
   have:=Item.nq h3 k r (by lia) ho.2
   simp only[Item.bG,Item.ws,dN,b6,aX]
   lia
 | k+1,.again n i::r,h,ho=>by
   simp only[Item.bE,Item.ok] at ho
   simp only[Item.aQ,Item.many] at h ⊢
   have h1:=Item.nq h3 k r (by lia) ho.2
   have h2:=Item.nq h3 k i (by lia) ho.1.2.2
   simp only[Item.bG,Item.ws,dN,b6,gS]
   lia
def Stop(Z:List D):Prop:=Z=[]∨∃Z',Z = .str "]"::Z'
noncomputable def vD:G->R Bool:=jt (y0i (gV 2)) (gT (aj eG (aj aF (gV 2) (kR (gC (.int 1)))) (gC (.str "]"))))
def Yg{Z:List D}(h:Stop Z){e0 e1 e3 e4:En}:vD [e0,e1,.own Z.reverse,e3,e4] = .ok false:=by
 unfold vD
 rcases h with rfl | ⟨Z',rfl⟩
 ·rfl
 ·have q1:y0i (gV 2) [e0,e1,.own (D.str "]"::Z').reverse,e3,e4] = .ok true:=by
   simp only[y0i,gV,gY,uX,R.cz]
   simp
  have q2:gT (aj eG (aj aF (gV 2) (kR (gC (.int 1)))) (gC (.str "]"))) [e0,e1,.own (D.str "]"::Z').reverse,e3,e4] = .ok false:=by
   have k0:dn "]"=true:=by decide +kernel
   simp only[gT,aj,gV,gC,kR,AD,gY,uX,R.cz,NP]
   rw[yo k0 k0,decide_eq_true rfl];rfl
  unfold jt
  rw[q1]
  exact q2
def NQ{x:Str}(hx:dn x=true)(ne:x≠"]"){T:List D}{e0 e1 e3 e4:En}:vD [e0,e1,.own (D.str x::T).reverse,e3,e4] = .ok true:=by
 unfold vD
 have q1:y0i (gV 2) [e0,e1,.own (D.str x::T).reverse,e3,e4] = .ok true:=by
  simp only[y0i,gV,gY,uX,R.cz]
  simp
 have q2:gT (aj eG (aj aF (gV 2) (kR (gC (.int 1)))) (gC (.str "]"))) [e0,e1,.own (D.str x::T).reverse,e3,e4] = .ok true:=by
  have k0:dn "]"=true:=by decide +kernel
  simp only[gT,aj,gV,gC,kR,AD,gY,uX,R.cz,NP]
  rw[yo hx k0,decide_eq_false ne];rfl
 unfold jt
 rw[q1]
 exact q2
def NR{P:Int}{ns:List Str}{ar:Nat}{φ:List D->R (D×List D)}:∀(its:List Item) (Z:List D) (m:Nat) (ds:List D),its.length<m->ds.length+its.length<=60->Stop Z ->
 (∀a r,∀pre,its=pre++a::r->φ [.int P,dI ns,.lst ((Item.ws ns a).map D.str++((Item.bG ns r).map D.str++Z)).reverse,.int ar] = .ok (a.d,((Item.bG ns r).map D.str++Z).reverse)) ->
 fc vD (qi 4 2 (iA φ (ae (df 0) (ae (df 1) (z9c 2 (ae (df 3) ao)))))) m [.ro (.int P),.ro (dI ns),.own ((Item.bG ns its).map D.str++Z).reverse,.ro (.int ar),.own ds] = .ok (.nx [.ro (.int P),.ro (dI ns),.own Z.reverse,.ro (.int ar),.own (ds++its.map Item.d)])
 | _,_,0,_,h,_,_,_=>absurd h (CL _)
 | [],Z,m+1,ds,_,_,hs,_=>by
   rw[DV]
   simp only[Item.bG,pT,pU,kJ]
   rw[Yg hs]
   rfl
 | a::r,Z,m+1,ds,h,hl,hs,qo=>by
   have h1:=qo a r [] rfl
   have ih:=NR r Z m (ds++[a.d]) (by simp only[b6] at h;lia) (by simp only[dN,b6,gS] at hl ⊢;lia) hs (λb q pre e=>qo b q (a::pre) (by rw[e];rfl))
   have ew:(Item.bG ns (a::r)).map D.str++Z=(Item.ws ns a).map D.str++((Item.bG ns r).map D.str++Z):=by rw[Item.bG,jF,oO]
   rw[ew,DV]
   have hg:vD [.ro (.int P),.ro (dI ns),.own ((Item.ws ns a).map D.str++((Item.bG ns r).map D.str++Z)).reverse,.ro (.int ar),.own ds] = .ok true:=by
    cases a with
    | set x f=>exact NQ (x:="set") (by decide +kernel) (by decide +kernel)
    | again n i=>exact NQ (x:="again") (by decide +kernel) (by decide +kernel)
   rw[hg]
   have hb:qi 4 2 (iA φ (ae (df 0) (ae (df 1) (z9c 2 (ae (df 3) ao))))) [.ro (.int P),.ro (dI ns),.own ((Item.ws ns a).map D.str++((Item.bG ns r).map D.str++Z)).reverse,.ro (.int ar),.own ds] = .ok (.nx [.ro (.int P),.ro (dI ns),.own ((Item.bG ns r).map D.str++Z).reverse,.ro (.int ar),.own (ds++[a.d])]):=by
    refine XW (ds:=ds) (mf (ds:=[.int P,dI ns,.lst ((Item.ws ns a).map D.str++((Item.bG ns r).map D.str++Z)).reverse,.int ar]) ?_ h1) rfl (by simp only[b6] at hl;lia)
    walk_at "evs"
   rw[sW,if_pos rfl,hb]
   dsimp only
   rw[ih,oO]
   rfl
def NS{P:Int}{ns:List Str}(N:Names ns)(h2:P<=9999):∀(k:Nat) (its:List Item) (ar:Nat) (Z:List D),3*Item.bD its+2<=k->ar+Item.bD its<=3->Item.aQ its<=60->Item.bE P ns.length its->Stop Z->Z.length+7*Item.aQ its<=9000 ->
 pk k [.int P,dI ns,.lst ((Item.bG ns its).map D.str++Z).reverse,.int ar] = .ok (.tup (its.map Item.d),Z.reverse)
 | 0,_,_,_,h,_,_,_,_,_=>by lia
 | 1,_,_,_,h,_,_,_,_,_=>by lia
 | k+2,its,ar,Z,h,XO,hm,ho,hs,hz=>by
   have l3:=N.l3
   have hlen:=Item.oh its
   refine(tj (as:=[.int P,dI ns]) (bs:=[.int ar]) rfl rfl).trans ?_
   show Fd (rT (k+1)) (rU (k+1)) (pk (k+1)) [.ro (.int P),.ro (dI ns),.own ((Item.bG ns its).map D.str++Z).reverse,.ro (.int ar),.no]=_
   delta Fd
   refine me (vf (ds:=[]) (by walk_at "evs")) ?_
   have lp:=NR (P:=P) (ns:=ns) (ar:=ar) (φ:=rU (k+1)) its Z 200 [] (by lia) (by simp only[gS];lia) hs ?_
   ·refine me lp (Fm ?_ rfl)
    have nI:=rO its
    rw[pU]
    walk_at "evs"
   intro a r pre eq
   have vE:a∈its:=by rw[eq];simp
   have yq:=Item.jQ.mp (a9 (Item.bD its)) _ vE
   have cI:=Item.i9.mp ho _ vE
   have Yh:Item.bE P ns.length r:=Item.i9.mpr λb hb=>Item.i9.mp ho b (by rw[eq];simp[hb])
   have NT:a.many+Item.aQ r<=Item.aQ its:=by
    rw[eq,Item.og]
    simp only[Item.aQ]
    lia
   have wr:=Item.nq (P:=P) (ns:=ns) l3 _ r (a9 _) Yh
   have lY:((Item.bG ns r).map D.str++Z).length<=6*Item.aQ r+Z.length:=by rw[dN,aX];lia
   generalize hY:(Item.bG ns r).map D.str++Z=Y at lY
   refine(tj (as:=[.int P,dI ns]) (bs:=[.int ar]) rfl rfl).trans ?_
   show Fc (rT k) (rU k) (pk k) [.ro (.int P),.ro (dI ns),.own ((Item.ws ns a).map D.str++Y).reverse,.ro (.int ar),.no]=_
   unfold Fc
   have k1:dn "set"=true:=by decide +kernel
   have k2:dn "again"=true:=by decide +kernel
   cases a with
   | set x f =>
     simp only[Item.ok] at cI
     simp only[Item.many] at NT
     have es:=Yd (P:=P) (x:=x) (f:=f) (ns:=ns) (Z:=Y) N h2 cI.1 cI.2.1 cI.2.2.1 cI.2.2.2 (by lia)
     generalize hV:(ns.getD x.toNat ""::f.map aW).map D.str++Y=V at es
     have eV:(Item.ws ns (.set x f)).map D.str++Y=D.str "set"::V:=by rw[<-hV];rfl
     have lV:V.length<100000:=by
      rw[<-hV,dN,aX,b6,aX]
      have:=cI.2.2.1
      lia
     rw[eV]
     have t1:=ym (d:=.str "set") (T:=V) lV
     refine me (vB (d:=.str "set") (ws:=V.reverse) (Bp (d:=.lst [.str "set"]) (b:=.int 0) (mf (ds:=[.lst (D.str "set"::V).reverse,.int 1]) (by walk_at "evs") t1) (by walk_at "evs") rfl)) ?_
     show n_ _ _ _ [En.ro (.int P),.ro (dI ns),.own V.reverse,.ro (.int ar),.ro (.str "set")]=_
     refine NL ?_ (mf (ds:=[.int P,dI ns,.lst V.reverse]) (by walk_at "evs") es)
     simp only[gT,aj,gV,gC,fP,gY,R.cz]
     rw[vC k1 k1,decide_eq_true rfl];rfl
   | again n i =>
     simp only[Item.ok] at cI
     simp only[Item.many] at NT
     simp only[Item.deep] at yq
     obtain⟨k,rfl⟩:∃k',k=k'+1:=⟨k-1,by lia⟩
     have ih:=NS N h2 k i (ar+1) (.str "]"::Y) (by lia) (by lia) (by lia) cI.2.2 (.inr ⟨Y,rfl⟩) (by simp only[b6];lia)
     have wi:=Item.nq (P:=P) (ns:=ns) l3 _ i (a9 _) cI.2.2
     have lW:((Item.bG ns i).map D.str++D.str "]"::Y).length<=6*Item.aQ i+1+Y.length:=by rw[dN,aX,b6];lia
     generalize hW:(Item.bG ns i).map D.str++D.str "]"::Y=W at ih lW
     have eV:(Item.ws ns (.again n i)).map D.str++Y=D.str "again"::D.str (aW n)::D.str "["::W:=by
      rw[<-hW]
      simp only[Item.ws,fN,jF,pT,mI,oO,pU]
     have b1:decide ((3:Int)<=(ar:Int))=false:=decide_eq_false (by lia)
     have en:=Fo cI.1 cI.2.1
     have q1:dn "["=true:=by decide +kernel
     have q2:dn "]"=true:=by decide +kernel
     have t1:=ym (d:=.str "again") (T:=D.str (aW n)::D.str "["::W) (by simp only[b6];lia)
     have t2:=ym (d:=.str (aW n)) (T:=D.str "["::W) (by simp only[b6];lia)
     have t3:=NN (x:="[") (T:=W) q1 (by lia)
     have t4:=NN (x:="]") (T:=Y) q2 (by lia)
     have ea:(ar:Int)+1=((ar+1:Nat):Int):=by lia
     have nI:=rO i
     have eg:rT (k+1) [.int P,dI ns,.lst (D.str (aW n)::D.str "["::W).reverse,.int ar] = .ok ((Item.again n i).d,Y.reverse):=by
      refine(tj (as:=[.int P,dI ns]) (bs:=[.int ar]) rfl rfl).trans ?_
      show E8 (rT k) (rU k) (pk k) [.ro (.int P),.ro (dI ns),.own (D.str (aW n)::D.str "["::W).reverse,.ro (.int ar),.no,.no]=_
      unfold E8
      refine me (mW (by walk_at "evs";rw[b1])) ?_
      refine me (vB (d:=.int n) (ws:=(D.str "["::W).reverse) (XZ (d:=.str (aW n)) (Bp (d:=.lst [.str (aW n)]) (b:=.int 0) (mf (ds:=[.lst (D.str (aW n)::D.str "["::W).reverse,.int 1]) (by walk_at "evs") t2) (by walk_at "evs") rfl) en)) ?_
      show d9 _ _ [En.ro (.int P),.ro (dI ns),.own (D.str "["::W).reverse,.ro (.int ar),.ro (.int n),.no]=_
      refine me (NK (mf (ds:=[.lst (D.str "["::W).reverse,.str "["]) (by walk_at "evs") t3)) ?_
      show d9 _ _ [En.ro (.int P),.ro (dI ns),.own W.reverse,.ro (.int ar),.ro (.int n),.no]=_
      refine me (vB (mf (ds:=[.int P,dI ns,.lst W.reverse,.int ((ar+1:Nat):Int)]) (by walk_at "evs";simp only[ea];try walk_at "evs") ih)) ?_
      show d9 _ _ [En.ro (.int P),.ro (dI ns),.own (D.str "]"::Y).reverse,.ro (.int ar),.ro (.int n),.ro (.tup (i.map Item.d))]=_
      refine me (NK (mf (ds:=[.lst (D.str "]"::Y).reverse,.str "]"]) (by walk_at "evs") t4)) ?_
      refine Fm ?_ rfl
      show d_ _ [En.ro (.int P),.ro (dI ns),.own Y.reverse,.ro (.int ar),.ro (.int n),.ro (.tup (i.map Item.d))]=_
      walk_at "evs"
     rw[eV]
     refine me (vB (d:=.str "again") (ws:=(D.str (aW n)::D.str "["::W).reverse) (Bp (d:=.lst [.str "again"]) (b:=.int 0) (mf (ds:=[.lst (D.str "again"::D.str (aW n)::D.str "["::W).reverse,.int 1]) (by walk_at "evs") t1) (by walk_at "evs") rfl)) ?_
     show n_ _ _ _ [En.ro (.int P),.ro (dI ns),.own (D.str (aW n)::D.str "["::W).reverse,.ro (.int ar),.ro (.str "again")]=_
     have ne:("again":Str)≠"set":=by decide +kernel
     refine X0 ?_ (NL ?_ (mf (ds:=[.int P,dI ns,.lst (D.str (aW n)::D.str "["::W).reverse,.int ar]) (by walk_at "evs") eg))
     ·simp only[gT,aj,gV,gC,fP,gY,R.cz]
      rw[vC k2 k1,decide_eq_false ne];rfl
     ·simp only[gT,aj,gV,gC,fP,gY,R.cz]
      rw[vC k2 k2,decide_eq_true rfl];rfl
def bB(l:Bool)(ns:List Str):D:=dh l (ns.map D.str)
def tJ{n:Int}(h0:0<=n)(h1:n<=10^30):k_ [.int n] = .ok (.str (aW n)):=by
 show R.guard _ _=_
 rw[bH]
 ·rfl
 ·obtain⟨m,rfl⟩:=oR h0
  rw[SV]
  by_cases q:m=0
  ·subst q;decide
  ·rw[Nat.log2_lt q]
   have h2:m<=10^30:=by
    have:(m:Int)<=((10^30:Nat):Int):=by simpa using h1
    exact Int.ofNat_le.mp this
   exact Kf h2 (by decide +kernel)
def NU{P:Int}{f:List Int}(hP:P<=9999)(ho:dt P f)(hl:f.length<=100):yj [aZ f] = .ok ((f.map aW).map D.str):=by
 refine sZ rfl ?_
 delta NG
 refine xU ?_
 show c8 _ _ [En.ro (aZ f)]=_
 unfold c8
 have nf:D.bC (f.map D.int)=true:=jI f
 rw[show fQ (gV 0) [En.ro (aZ f)] = .ok (f.map D.int) by unfold aZ;walk_at "evs"]
 show R.guard _ _=_
 rw[bH (by rw[aX];lia),i4]
 refine j8 λv hv=>?_
 have ov:=ho v hv
 have e:=tJ ov.1 (show v<=10^30 by lia)
 simp only[dr,aG,ay,ae,ao,gV,fP,R.cz,e]
 walk_at "evs"
 try rfl
def NV{ns:List Str}{j:Nat}(hj:j<ns.length)(l:Bool):aF (bB l ns) (.int (j:Int)) = .ok (.str (ns.getD j "")):=by
 have e:c5 (ns.map D.str) (j:Int)=some (.str (ns.getD j "")):=by
  rw[rm,e8]
  simp[Ku,hj]
 unfold bB dh
 cases l<;>simp only[if_true,if_false,aF,e,oU]
def Yi{P:Int}{ns:List Str}{l:Bool}{a:Item}{φ:List D->R (List D)}{ψ:List D->R (List D)}(h3:ns.length<=3)(hP:P<=9999)(ho:a.ok P ns.length)(hm:a.many<=60)
 (qo:∀n i,a = .again n i->φ [bB l ns,.tup (i.map Item.d)] = .ok ((Item.bG ns i).map D.str)):jN 2 2 (Fi φ ψ) [bB l ns,a.d] = .ok ((Item.ws ns a).map D.str):=by
 refine sZ rfl ?_
 unfold Fi
 cases a with
 | set x f =>
   simp only[Item.ok] at ho
   obtain⟨j,rfl⟩:=oR ho.1
   have hj:j<ns.length:=by lia
   have e1:=NV (ns:=ns) hj l
   have e2:=NU hP ho.2.2.2 (by have:=ho.2.2.1;lia)
   refine Wk (gK (by simp only[Item.d];walk_at "evs") (xU ?_))
   have hl:((f.map aW).map D.str).length<=4:=by rw[aX,aX];have:=ho.2.2.1;lia
   show iM _ _ [En.ro (bB l ns),.ro (Item.set (j:Int) f).d]=_
   have q1:b_ (ae (gC (.str "set")) (ae (aj aF (gV 0) (aj aF (gV 1) (gC (.int 1)))) ao)) [En.ro (bB l ns),.ro (Item.set (j:Int) f).d] = .ok [.str "set",.str (ns.getD j "")]:=by
    have n2:[D.str "set",D.str (ns.getD j "")].length<=1000/\D.bC [D.str "set",D.str (ns.getD j "")]=true:=⟨by simp,iR ["set",ns.getD j ""]⟩
    simp only[Item.d,b_,ae,ao,aj,gV,gC,fP,gY,R.cz,rR,e1,bH n2]
   have q2:gx yj (ae (aj aF (gV 1) (gC (.int 2))) ao) [En.ro (bB l ns),.ro (Item.set (j:Int) f).d] = .ok ((f.map aW).map D.str):=by
    simp only[Item.d,gx,ae,ao,aj,gV,gC,fP,gY,R.cz,tE,e2,bH (iR (f.map aW))]
   unfold iM
   rw[q1,q2]
   show R.guard _ _=_
   rw[bH (by simp only[b6,gS];lia)]
   simp only[Item.ws,mG,fN]
   rfl
 | again n i =>
   simp only[Item.ok] at ho
   simp only[Item.many] at hm
   have e1:=qo n i rfl
   have e2:=tJ ho.1 ho.2.1
   have wi:=Item.nq (P:=P) (ns:=ns) h3 _ i (a9 _) ho.2.2
   refine c_ (by simp only[Item.d];walk_at "evs") (xU ?_)
   show iM _ _ [En.ro (bB l ns),.ro (Item.again n i).d]=_
   have q1:b_ (ae (gC (.str "again")) (ae (ay k_ (ae (aj aF (gV 1) (gC (.int 1))) ao)) (ae (gC (.str "[")) ao))) [En.ro (bB l ns),.ro (Item.again n i).d] = .ok [.str "again",.str (aW n),.str "["]:=by
    have n2:[D.str "again",D.str (aW n),D.str "["].length<=1000/\D.bC [D.str "again",D.str (aW n),D.str "["]=true:=⟨by simp,iR ["again",aW n,"["]⟩
    simp only[Item.d,b_,ay,ae,ao,aj,gV,gC,fP,gY,R.cz,rR,e2,bH n2]
   have q2:gx φ (ae (gV 0) (ae (aj aF (gV 1) (gC (.int 2))) ao)) [En.ro (bB l ns),.ro (Item.again n i).d] = .ok ((Item.bG ns i).map D.str):=by
    simp only[Item.d,Item.ds_map,gx,ae,ao,aj,gV,gC,fP,gY,R.cz,tE,e1,bH (iR (Item.bG ns i))]
   have q3:b_ (ae (gC (.str "]")) ao) [En.ro (bB l ns),.ro (Item.again n i).d] = .ok [.str "]"]:=by
    have n2:[D.str "]"].length<=1000/\D.bC [D.str "]"]=true:=⟨by simp,iR ["]"]⟩
    simp only[b_,ae,ao,gC,R.cz,bH n2]
   have lw:((Item.bG ns i).map D.str).length<=360:=by rw[aX];lia
   have q4:iM (b_ (ae (gC (.str "again")) (ae (ay k_ (ae (aj aF (gV 1) (gC (.int 1))) ao)) (ae (gC (.str "[")) ao)))) (gx φ (ae (gV 0) (ae (aj aF (gV 1) (gC (.int 2))) ao))) [En.ro (bB l ns),.ro (Item.again n i).d] = .ok ([.str "again",.str (aW n),.str "["]++(Item.bG ns i).map D.str):=by
    unfold iM
    rw[q1,q2]
    show R.guard _ _=_
    rw[bH (by simp only[b6,gS];lia)]
   rw[iM,q4,q3]
   show R.guard _ _=_
   rw[bH (by simp only[dN,b6,gS];lia)]
   simp only[Item.ws,fN,jF,pT,mI,pU]
def Bq(ns:List Str):∀(its:List Item) (j:Nat) (a:Item),its[j]? = some a->Item.bG ns (its.take (j+1))=Item.bG ns (its.take j)++Item.ws ns a
 | [],j,a,h=>by cases j<;>cases h
 | b::r,0,a,h=>by cases h;simp[Item.bG]
 | b::r,j+1,a,h=>by
   rw[S0,S0,Item.bG,Item.bG,Bq ns r j a (by simpa using h),oO]
def NW{P:Int}{ns:List Str}(h3:ns.length<=3){its:List Item}(ho:Item.bE P ns.length its)(hm:Item.aQ its<=60)(j:Nat):(Item.bG ns (its.take j)).length<=360:=by
 have h1:Item.bE P ns.length (its.take j):=Item.i9.mpr λa ha=>Item.i9.mp ho a (CU ha)
 have h2:Item.aQ (its.take j)<=Item.aQ its:=by
  have:=Item.og (a:=its.take j) (b:=its.drop j)
  rw[Kq] at this
  lia
 have:=Item.nq (P:=P) (ns:=ns) h3 _ (its.take j) (a9 _) h1
 lia
def NY{P:Int}{ns:List Str}{l:Bool}(h3:ns.length<=3)(hP:P<=9999):∀(k:Nat) (its:List Item),2*Item.bD its+2<=k->Item.aQ its<=60->Item.bE P ns.length its->tI k [bB l ns,.tup (its.map Item.d)] = .ok ((Item.bG ns its).map D.str)
 | 0,_,h,_,_=>by lia
 | 1,_,h,_,_=>by lia
 | k+2,its,h,hm,ho=>by
   show jN 2 4 (Fh (tI (k+1)) (yk (k+1))) _=_
   refine sZ rfl ?_
   delta Fh
   have hlen:=Item.oh its
   have n0:D.bC []=true:=rfl
   refine iP (ds:=[]) (by walk_at "evs") ?_
   refine s_ (ds:=its.map Item.d) (λj Γ=>∃(x3:En),Γ=[.ro (bB l ns),.ro (.tup (its.map Item.d)),.own ((Item.bG ns (its.take j)).map D.str),x3]) (by walk_at "evs") ⟨_,rfl⟩ ?_ ?_
   ·rintro j d Γ hd ⟨x3,rfl⟩
    obtain⟨a,ea,rfl,ha⟩:=Nn hd
    have cI:=Item.i9.mp ho _ ha
    have yq:=Item.jQ.mp (a9 (Item.bD its)) _ ha
    have vE:=Item.rN ha
    have e:yk (k+1) [bB l ns,a.d] = .ok ((Item.ws ns a).map D.str):=by
     refine Yi h3 hP cI (by lia) λn i e=>?_
     subst e
     simp only[Item.ok] at cI
     simp only[Item.deep] at yq
     simp only[Item.many] at vE
     exact NY h3 hP k i (by lia) (by lia) cI.2.2
    refine .nx (Wj (ds:=(Item.bG ns (its.take j)).map D.str) (es:=(Item.ws ns a).map D.str) rfl ?_ ?_) ⟨.ro a.d,?_⟩
    ·show gx _ _ [En.ro (bB l ns),.ro (.tup (its.map Item.d)),.own ((Item.bG ns (its.take j)).map D.str),.ro a.d]=_
     simp only[gx,ae,ao,gV,fP,gY,R.cz,e,bH (iR (Item.ws ns a))]
    ·have q1:=NW (P:=P) h3 ho hm (j+1)
     rw[Bq ns its j a ea,dN] at q1
     rw[aX,aX]
     lia
    ·rw[Bq ns its j a ea,jF]
     rfl
   ·rintro Γ ⟨x3,rfl⟩
    rw[aX,wO]
    exact Mh rfl
def iS(w:Str):Prop:=w.length<=31/\∀c∈w.cps.toList,c≠32/\c≠10
structure jy (ns:List Str):Prop extends Names ns where
 w1:∀x∈ns,1<=x.length/\x.length<=8
 lt:∀x∈ns,∀c∈x.cps.toList,97<=c/\c<=122
 nk:∀x∈ns,x≠"set"/\x≠"again"
def Br{n:Int}(h0:0<=n)(h1:n<=10^30):iS (aW n):=⟨vj h0 h1,λc hc=>by have:=tm h0 c hc;lia⟩
def NZ{ns:List Str}(N:jy ns){x:Str}(hx:x∈ns):iS x:=⟨by have:=(N.w1 x hx).2;lia,λc hc=>by have:=N.lt x hx c hc;lia⟩
def Yj:iS "set":=⟨by decide +kernel,by decide +kernel⟩
def Yk:iS "again":=⟨by decide +kernel,by decide +kernel⟩
def Yl:iS "[":=⟨by decide +kernel,by decide +kernel⟩
def Ym:iS "]":=⟨by decide +kernel,by decide +kernel⟩
def Yn:iS "prime":=⟨by decide +kernel,by decide +kernel⟩
def Yo:iS "boxes":=⟨by decide +kernel,by decide +kernel⟩
def Yp:iS "do":=⟨by decide +kernel,by decide +kernel⟩
def N0{ns:List Str}{j:Nat}(hj:j<ns.length):ns.getD j ""∈ns:=by
 have e:ns.getD j ""=ns[j]:=by simp[Ku,hj]
 rw[e];exact oS hj
def Bs{P:Int}{ns:List Str}(N:jy ns)(hP:P<=9999):∀(k:Nat) (its:List Item),Item.aQ its<=k->Item.bE P ns.length its->∀w∈Item.bG ns its,iS w
 | _,[],_,_,w,hw=>by simp[Item.bG] at hw
 | 0,a::r,h,_,_,_=>by have:=a.tD;simp only[Item.aQ] at h;lia
 | k+1,.set x f::r,h,ho,w,hw=>by
   simp only[Item.bE,Item.ok] at ho
   simp only[Item.aQ,Item.many] at h
   simp only[Item.bG,Item.ws,mI,jG,CT] at hw
   rcases hw with rfl | rfl | hw | hw
   ·exact Yj
   ·exact NZ N (N0 (by lia))
   ·obtain⟨v,hv,rfl⟩:=List.mem_map.mp hw
    have:=ho.1.2.2.2 v hv
    exact Br this.1 (by lia)
   ·exact Bs N hP k r (by lia) ho.2 w hw
 | k+1,.again n i::r,h,ho,w,hw=>by
   simp only[Item.bE,Item.ok] at ho
   simp only[Item.aQ,Item.many] at h
   simp only[Item.bG,Item.ws,mI,jG,CT,oO,lG,or_false,false_or] at hw
   rcases hw with rfl | rfl | rfl | hw | rfl | hw
   ·exact Yk
   ·exact Br ho.1.1 ho.1.2.1
   ·exact Yl
   ·exact Bs N hP k i (by lia) ho.1.2.2 w hw
   ·exact Ym
   ·exact Bs N hP k r (by lia) ho.2 w hw
def Fp:(" ":Str)=one 32:=by decide +kernel
def vF:("\n":Str)=one 10:=by decide +kernel
def Bt(s:Nat):∀{xs:List Str} {c:Nat},c∈(jZ (one s) xs).cps.toList->c=s∨∃x∈xs,c∈x.cps.toList
 | [],c,h=>by simp[jZ,Str.empty] at h
 | [x],c,h=>.inr ⟨x,gj ..,h⟩
 | x::y::r,c,h=>by
   rw[qk] at h
   rcases List.mem_append.mp h with h | h
   ·exact .inr ⟨x,gj ..,h⟩
   ·rcases List.mem_cons.mp h with h | h
    ·exact .inl h
    ·rcases Bt s h with h | ⟨z,hz,hc⟩
     ·exact .inl h
     ·exact .inr ⟨z,ft _ hz,hc⟩
def cG(ws:List Str):Str:=mH " " ws
def Bu(ws:List Str):cG ws=jZ (one 32) ws:=by unfold cG;rw[Fp];exact zO _ _
def Fq{B:Nat}:∀(xs:List Str),(∀y∈xs,y.length<=B)->(xs.map (·.length)).sum<=xs.length*B
 | [],_=>by simp
 | y::r,h=>by
   have h1:=h y (gj ..)
   have h2:=Fq r λz hz=>h z (ft _ hz)
   simp only[fN,List.sum_cons,b6,Nat.succ_mul]
   lia
def Fs{ws:List Str}(h:∀w∈ws,iS w):(cG ws).length<=32*ws.length:=by
 rw[Bu]
 have h1:=a5i (one 32) ws
 have h2:=Fq (B:=31) ws λy hy=>(h y hy).1
 have h3:(one 32).length=1:=rfl
 rw[h3] at h1
 lia
def yr{ws:List Str}(h:∀w∈ws,iS w)(hl:ws.length<=1000):sG " " ws=true:=by
 unfold sG
 rw[Fp]
 have h3:(one 32).length=1:=rfl
 rw[a5j (B:=31) (λy hy=>(h y hy).1) (by rw[h3];lia)];rfl
def Yq{ws:List Str}(h:∀w∈ws,iS w)(h0:ws≠[]):oQ (cG ws) " "=ws:=by
 unfold cG
 rw[Fp]
 exact D7 32 h0 λx hx z=>((h x hx).2 32 z).1 rfl
def N1{ws:List Str}(h:∀w∈ws,iS w):10 ∉ (cG ws).cps.toList:=λz=>by
 rw[Bu] at z
 rcases Bt 32 z with e | ⟨x,hx,hc⟩
 ·exact absurd e (by decide)
 ·exact((h x hx).2 10 hc).2 rfl
def fJ(rs:List (List Str)):Str:=mH "\n" (rs.map cG)
def N2{rs:List (List Str)}(h:∀ws∈rs,ws.length<=400/\∀w∈ws,iS w)(hl:rs.length<=3):sG "\n" (rs.map cG)=true:=by
 unfold sG
 rw[vF]
 have h3:(one 10).length=1:=rfl
 rw[a5j (B:=12800) (λy hy=>by
  obtain⟨ws,hw,rfl⟩:=List.mem_map.mp hy
  have:=Fs (h ws hw).2
  have:=(h ws hw).1
  lia) (by rw[h3,aX];lia)];rfl
def Ft{rs:List (List Str)}(h:∀ws∈rs,ws.length<=400/\∀w∈ws,iS w)(hl:rs.length<=3):(fJ rs).length<=50000:=by
 unfold fJ
 have e:mH "\n" (rs.map cG)=jZ (one 10) (rs.map cG):=by rw[vF];exact zO _ _
 rw[e]
 have h1:=a5i (one 10) (rs.map cG)
 have h2:=Fq (B:=12800) (rs.map cG) λy hy=>by
  obtain⟨ws,hw,rfl⟩:=List.mem_map.mp hy
  have:=Fs (h ws hw).2
  have:=(h ws hw).1
  lia
 have h3:(one 10).length=1:=rfl
 rw[h3] at h1
 rw[aX] at h1 h2
 lia
def Yr{rs:List (List Str)}(h:∀ws∈rs,ws.length<=400/\∀w∈ws,iS w)(h0:rs≠[]):oQ (fJ rs) "\n"=rs.map cG:=by
 unfold fJ
 rw[vF]
 refine D7 10 (by simpa using h0) λx hx=>?_
 obtain⟨ws,hw,rfl⟩:=List.mem_map.mp hx
 exact N1 (h ws hw).2
def b8(P:Int)(ns:List Str)(its:List Item):List (List Str):=[["prime",aW P],"boxes"::ns,"do"::Item.bG ns its]
def yt{P:Int}{ns:List Str}{its:List Item}(N:jy ns)(h0:0<=P)(hP:P<=9999)(hm:Item.aQ its<=60)(ho:Item.bE P ns.length its):∀ws∈b8 P ns its,ws.length<=400/\∀w∈ws,iS w:=by
 intro ws hw
 have l3:=N.l3
 have wl:=Item.nq (P:=P) (ns:=ns) l3 _ its (a9 _) ho
 simp only[b8,jG,lG,or_false] at hw
 rcases hw with rfl | rfl | rfl
 ·refine⟨by simp,λw hw=>?_⟩
  simp only[jG,lG,or_false] at hw
  rcases hw with rfl | rfl
  ·exact Yn
  ·exact Br h0 (by lia)
 ·refine⟨by simp only[b6];lia,λw hw=>?_⟩
  rcases List.mem_cons.mp hw with rfl | hw
  ·exact Yo
  ·exact NZ N hw
 ·refine⟨by simp only[b6];lia,λw hw=>?_⟩
  rcases List.mem_cons.mp hw with rfl | hw
  ·exact Yp
  ·exact Bs N hP _ its (a9 _) ho w hw
def tK{sep:Str}{ws:List Str}(h:sG sep ws=true){g:G->R D}{Γ:G}(hg:g Γ = .ok (.lst (ws.map D.str))):la sep g Γ = .ok (.str (mH sep ws)):=by
 unfold la
 rw[hg,R.cz]
 dsimp only
 rw[strs?_map]
 dsimp only
 rw[bH h]
def pv{gs:G->R (List D)}{Γ:G}{ws:List Str}(h:gs Γ = .ok (ws.map D.str))(hl:ws.length<=1000):b_ gs Γ = .ok (ws.map D.str):=by
 unfold b_
 rw[h,R.cz,bH ⟨by rw[aX];exact hl,iR ws⟩]
def tL{ga gb:G->R (List D)}{Γ:G}{us ws:List Str}(h1:ga Γ = .ok (us.map D.str))(h2:gb Γ = .ok (ws.map D.str))(hl:us.length+ws.length<=1000):iM ga gb Γ = .ok ((us++ws).map D.str):=by
 unfold iM
 rw[h1,h2,R.cz,R.cz,bH (by rw[aX,aX];exact hl),jF]
def N3{ns:List Str}{l:Bool}{g:G->R D}{Γ:G}(h:g Γ = .ok (bB l ns)):ju g Γ = .ok (ns.map D.str):=by
 unfold ju
 rw[h,R.cz]
 unfold bB dh
 cases l<;>simp only[if_true,if_false,oU,AL,bH (iR ns)]
def tM{φ:List D->R (List D)}{gs:G->R (List D)}{Γ:G}{ds:List D}{ws:List Str}(h:gs Γ = .ok ds)(e:φ ds = .ok (ws.map D.str)):gx φ gs Γ = .ok (ws.map D.str):=by
 unfold gx
 rw[h,R.cz,e,R.cz,bH (iR ws)]
def gz{gs:G->R (List D)}{Γ:G}{ds:List D}(h:gs Γ = .ok ds):gL gs Γ = .ok (.lst ds):=by unfold gL;rw[h];rfl
def bP{g:G->R D}{gs:G->R (List D)}{Γ:G}{d:D}{ds:List D}(h:g Γ = .ok d)(h2:gs Γ = .ok ds):ae g gs Γ = .ok (d::ds):=by unfold ae;rw[h,h2];rfl
def cV{φ:List D->R D}{gs:G->R (List D)}{Γ:G}{ds:List D}{r:R D}(h:gs Γ = .ok ds)(e:φ ds=r):ay φ gs Γ=r:=by unfold ay;rw[h];exact e
def eh{g:G->R D}{Γ:G}{d:D}(h:g Γ = .ok d)(n:d.cE=true):aG g Γ = .ok d:=by unfold aG;rw[h,R.cz,bH n]
def N4{gs:G->R (List D)}{Γ:G}{ds:List D}(h:gs Γ = .ok ds)(hl:ds.length<=1000):y4b gs Γ = .ok ds:=by unfold y4b;rw[h,R.cz,bH hl]
def Ys{P:Int}{ns:List Str}{its:List Item}{l:Bool}(N:jy ns)(h0:0<=P)(hP:P<=9999)(hm:Item.aQ its<=60)(hd:Item.bD its<=4)(ho:Item.bE P ns.length its):Fj [.int P,bB l ns,.tup (its.map Item.d)] = .ok (.str (fJ (b8 P ns its))):=by
 have l3:=N.l3
 have jz:=yt N h0 hP hm ho
 have wl:=Item.nq (P:=P) (ns:=ns) l3 _ its (a9 _) ho
 have ew:=NY (P:=P) (ns:=ns) (l:=l) l3 hP 12 its (by lia) hm ho
 have es:=tJ h0 (show P<=10^30 by lia)
 refine b7 rfl ?_
 delta NJ
 refine cu (d:=.lst ((b8 P ns its).map λws=>.lst (ws.map D.str))) ?_ ?_
 ·show gL _ [En.ro (.int P),.ro (bB l ns),.ro (.tup (its.map Item.d)),.no]=_
  refine gz (N4 (bP ?_ (bP ?_ (bP ?_ rfl))) (by simp[b8]))
  ·refine gz (ds:=(["prime",aW P]:List Str).map D.str) (N4 (bP (eh rfl rfl) (bP (eh (cV (bP rfl rfl) es) rfl) rfl)) (by simp))
  ·refine gz (ds:=(("boxes":Str)::ns).map D.str) (tL (us:=["boxes"]) (pv (ws:=["boxes"]) rfl (by simp)) (N3 rfl) (by simp only[b6,gS];lia))
  ·refine gz (ds:=(("do":Str)::Item.bG ns its).map D.str) (tL (us:=["do"]) (pv (ws:=["do"]) rfl (by simp)) (tM (bP rfl (bP rfl rfl)) ew) (by simp only[b6,gS];lia))
 ·refine bT ?_
  show la _ _ [En.ro (.int P),.ro (bB l ns),.ro (.tup (its.map Item.d)),.ro (.lst ((b8 P ns its).map λws=>.lst (ws.map D.str)))]=_
  refine tK (ws:=(b8 P ns its).map cG) (N2 jz (by simp[b8])) (gz ?_)
  unfold c8
  rw[show lU (df 3) [En.ro (.int P),.ro (bB l ns),.ro (.tup (its.map Item.d)),.ro (.lst ((b8 P ns its).map λws=>.lst (ws.map D.str)))] = .ok ((b8 P ns its).map λws=>.lst (ws.map D.str)) from rfl]
  show R.guard _ _=_
  rw[bH (by simp[b8]),i4]
  refine j8 λws hw=>?_
  have:=tK (sep:=" ") (ws:=ws) (yr (jz ws hw).2 (by have:=(jz ws hw).1;lia)) (g:=gV 0) (Γ:=En.ro (.lst (ws.map D.str))::[En.ro (.int P),.ro (bB l ns),.ro (.tup (its.map Item.d)),.ro (.lst ((b8 P ns its).map λws=>.lst (ws.map D.str)))]) rfl
  have e2:=eh this rfl
  show(aG (la " " (gV 0)) _>>=λe=>R.ok (some e))=_
  rw[e2]
  rfl
def N5{ga gb:G->R D}{Γ:G}{us ws:List Str}(h1:ga Γ = .ok (.lst (us.map D.str)))(h2:gb Γ = .ok (.lst (ws.map D.str)))(hl:us.length+ws.length<=1000):kW ga gb Γ = .ok ((us++ws).map D.str):=by
 unfold kW
 rw[h1,h2,R.cz,R.cz]
 show R.guard _ _=_
 rw[<-jF,bH ⟨by rw[aX,aX];exact hl,iR _⟩]
def N6{P:Int}{ns:List Str}{l:Bool}(h3:ns.length<=3)(hP:P<=9999):∀(k:Nat) (its:List Item),Item.bD its<k->Item.aQ its<=60->Item.bE P ns.length its->vz k [bB l ns,.tup (its.map Item.d)] = .ok ((Item.bG ns its).map D.str)
 | 0,_,h,_,_=>by lia
 | k+1,its,h,hm,ho=>by
   show jN 2 4 (EX (vz k)) _=_
   refine sZ rfl ?_
   delta EX
   refine iP (ds:=([]:List Str).map D.str) (pv (ws:=[]) rfl (by simp)) ?_
   refine s_ (ds:=its.map Item.d) (λj Γ=>∃(x3:En),Γ=[.ro (bB l ns),.ro (.tup (its.map Item.d)),.own ((Item.bG ns (its.take j)).map D.str),x3]) rfl ⟨_,rfl⟩ ?_ ?_
   ·rintro j d Γ hd ⟨x3,rfl⟩
    obtain⟨a,ea,rfl,ha⟩:=Nn hd
    have cI:=Item.i9.mp ho _ ha
    have yq:=Item.jQ.mp (a9 (Item.bD its)) _ ha
    have vE:=Item.rN ha
    have q1:=NW (P:=P) h3 ho hm (j+1)
    have q0:=Bq ns its j a ea
    rw[q0,dN] at q1
    show Ends (bU _ _ _ [En.ro (bB l ns),.ro (.tup (its.map Item.d)),.own ((Item.bG ns (its.take j)).map D.str),.ro a.d]) _
    generalize hU:Item.bG ns (its.take j)=U at q0 q1
    cases a with
    | set x f =>
      simp only[Item.ok] at cI
      obtain⟨i,rfl⟩:=oR cI.1
      have e1:=NV (ns:=ns) (show i<ns.length by lia) l
      rw[gK (by simp only[Item.d];walk_at "evs") rfl]
      refine .nx (vf (ds:=(U++Item.ws ns (.set (i:Int) f)).map D.str) ?_) ⟨_,by rw[q0];rfl⟩
      have yu:U++Item.ws ns (.set (i:Int) f)=(U++([("set":Str),ns.getD i ""]:List Str))++f.map aW:=by simp only[Item.ws,mG,oO,mI,pU]
      rw[<-dN,yu] at q1
      rw[yu]
      simp only[dN,b6,gS,aX] at q1
      refine tL (N5 rfl (gz (pv (ws:=["set",ns.getD i ""]) (bP rfl (bP ?_ rfl)) (by simp))) (by simp only[b6,gS];lia)) ?_ (by simp only[dN,b6,gS,aX];lia)
      ·simp only[Item.d,aj,gV,gC,fP,gY,R.cz,rR,e1]
      ·unfold c8
       have nf:D.bC (f.map D.int)=true:=jI f
       rw[show fQ (aj aF (gV 3) (gC (.int 2))) [En.ro (bB l ns),.ro (.tup (its.map Item.d)),.own (U.map D.str),.ro (Item.set (i:Int) f).d] = .ok (f.map D.int) by
        simp only[Item.d,fQ,aj,gV,gC,fP,gY,R.cz,tE,aZ,o9,bH nf]]
       show R.guard _ _=_
       rw[bH (by rw[aX];lia),i4]
       refine j8 λv hv=>?_
       have ov:=cI.2.2.2 v hv
       have e:=tJ ov.1 (show v<=10^30 by lia)
       simp only[dr,aG,ay,ae,ao,gV,fP,R.cz,e]
       walk_at "evs"
       try rfl
    | again n i =>
      simp only[Item.ok] at cI
      simp only[Item.deep] at yq
      simp only[Item.many] at vE
      have ih:=N6 (l:=l) h3 hP k i (by lia) (by lia) cI.2.2
      have e2:=tJ cI.1 cI.2.1
      rw[AY (by simp only[Item.d];walk_at "evs") rfl]
      refine .nx (vf (ds:=(U++Item.ws ns (.again n i)).map D.str) ?_) ⟨_,by rw[q0];rfl⟩
      have yu:U++Item.ws ns (.again n i)=((U++([("again":Str),aW n,"["]:List Str))++Item.bG ns i)++([("]":Str)]:List Str):=by simp only[Item.ws,oO,mI,pU]
      rw[<-dN,yu] at q1
      rw[yu]
      simp only[dN,b6,gS] at q1
      refine tL (tL (N5 rfl (gz (pv (ws:=["again",aW n,"["]) (bP rfl (bP ?_ (bP rfl rfl))) (by simp))) (by simp only[b6,gS];lia)) (tM (bP rfl (bP ?_ rfl)) ih) (by simp only[dN,b6,gS];lia)) (pv (ws:=["]"]) rfl (by simp)) (by simp only[dN,b6,gS];lia)
      ·refine cV (ds:=[.int n]) (bP ?_ rfl) e2
       simp only[Item.d,aj,gV,gC,fP,gY,R.cz,rR]
      ·simp only[Item.d,Item.ds_map,aj,gV,gC,fP,gY,R.cz,tE]
   ·rintro Γ ⟨x3,rfl⟩
    rw[aX,wO]
    exact Mh rfl
def Yt(x:Str):("prime ":Str)++x=cG ["prime",x]:=by
 rw[Bu]
 show _="prime"++one 32++x
 rw[show("prime":Str)++one 32="prime " by decide +kernel]
def N7{P:Int}{ns:List Str}{its:List Item}(N:jy ns)(h0:0<=P)(hP:P<=9999)(hm:Item.aQ its<=60)(hd:Item.bD its<=4)(ho:Item.bE P ns.length its):Bm [.int P,bB false ns,.tup (its.map Item.d)] = .ok (.str (fJ (b8 P ns its))):=by
 have l3:=N.l3
 have jz:=yt N h0 hP hm ho
 have wl:=Item.nq (P:=P) (ns:=ns) l3 _ its (a9 _) ho
 have ew:=N6 (P:=P) (ns:=ns) (l:=false) l3 hP 12 its (by lia) hm ho
 have es:=tJ h0 (show P<=10^30 by lia)
 refine b7 rfl ?_
 delta Nw
 refine iP (ds:=((b8 P ns its).map cG).map D.str) ?_ ?_
 ·show b_ _ [En.ro (.int P),.ro (bB false ns),.ro (.tup (its.map Item.d)),.no]=_
  refine pv (bP ?_ (bP ?_ (bP ?_ rfl))) (by simp[b8])
  ·have e:ay k_ (ae (gV 0) ao) [En.ro (.int P),.ro (bB false ns),.ro (.tup (its.map Item.d)),.no] = .ok (.str (aW P)):=cV (bP rfl rfl) es
   unfold aj
   rw[e]
   show R.guard _ _=_
   have ln:=vj h0 (show P<=10^30 by lia)
   have l6:("prime ":Str).length=6:=by decide +kernel
   rw[bH (by lia),Yt]
  ·exact tK (ws:="boxes"::ns) (yr (jz _ (by simp[b8])).2 (by simp only[b6];lia)) (gz (ds:=(("boxes":Str)::ns).map D.str) (tL (us:=["boxes"]) (pv (ws:=["boxes"]) rfl (by simp)) (N3 rfl) (by simp only[b6,gS];lia)))
  ·exact tK (ws:="do"::Item.bG ns its) (yr (jz _ (by simp[b8])).2 (by simp only[b6];lia)) (gz (ds:=(("do":Str)::Item.bG ns its).map D.str) (tL (us:=["do"]) (pv (ws:=["do"]) rfl (by simp)) (tM (bP rfl (bP rfl rfl)) ew) (by simp only[b6,gS];lia)))
 ·refine bT ?_
  exact tK (ws:=(b8 P ns its).map cG) (N2 jz (by simp[b8])) rfl
def Fv{sep x:Str}{g:G->R D}{Γ:G}{ws:List Str}(h:g Γ = .ok (.str x))(hx:x.length<=100000)(hs:(sep.length==0)=false)(e:oQ x sep=ws):xW sep g Γ = .ok (ws.map D.str):=by
 unfold xW
 rw[h,R.cz]
 dsimp only
 rw[bH ⟨hx,hs⟩,e]
def vG{g:G->R Bool}{Γ:G}{b:Bool}(h:g Γ = .ok b):jK g Γ = .ok (!b):=by unfold jK;rw[h];rfl
def pw{a b:G->R Bool}{Γ:G}{r:R Bool}(h:a Γ = .ok false)(h2:b Γ=r):jJ a b Γ=r:=by unfold jJ;rw[h];exact h2
def fK{g:G->R D}{Γ:G}{b:Bool}(h:g Γ = .ok (.bl b)):gT g Γ = .ok b:=by unfold gT;rw[h];rfl
def cN{φ:D->D->R D}{ga gb:G->R D}{Γ:G}{a b:D}{r:R D}(h1:ga Γ = .ok a)(h2:gb Γ = .ok b)(e:φ a b=r):aj φ ga gb Γ=r:=by unfold aj;rw[h1,h2];exact e
def Fw{first:Str}{ws:List Str}(hf:dn first=true)(hp:∀w∈first::ws,iS w)(hl:ws.length<=1000):vA [.str (cG (first::ws)),.str first] = .ok (ws.map D.str):=by
 refine sZ rfl ?_
 delta NF
 have rl:=Fs hp
 simp only[b6] at rl
 refine iP (ds:=(first::ws).map D.str) (Fv rfl (by lia) (by decide +kernel) (Yq hp (by simp))) ?_
 refine c_ (fK (cN (a:=.str first) (b:=.str first) (cN (a:=.lst ((first::ws).map D.str)) (b:=.int 0) rfl rfl (by simp only[fN,aF,DP])) rfl ?_)) ?_
 ·rw[yo hf hf,decide_eq_true rfl];rfl
 ·refine xU ?_
  have e:gP ((first::ws).map D.str) (some ((1:Nat):Int)) none=ws.map D.str:=by rw[u0];rfl
  show AH (.lst ((first::ws).map D.str)) (some ((1:Nat):Int)) none=_
  show R.guard _ _=_
  rw[e,bH (iR ws)]
def Yu{P:Int}(p1:3<=P)(p2:P<=9973)(hd:eM P=false):Ff [.lst [.str (aW P)]] = .ok (.int P):=by
 have en:=Fo (show 0<=P by lia) (show P<=10^30 by lia)
 have ep:=M0 (d:=.int P) rfl
 have eb:Bc (.int P)=true:=by
  show(decide (3<=P)&&(decide (P<=9999)&&!eM P))=true
  rw[decide_eq_true p1,decide_eq_true (show P<=9999 by lia),hd];rfl
 rw[eb] at ep
 refine b7 rfl ?_
 delta ND
 refine c_ (by walk_at "evs";try rfl) ?_
 refine cu (d:=.int P) (eh (cV (ds:=[.str (aW P)]) (bP (cN (a:=.lst [.str (aW P)]) (b:=.int 0) rfl rfl rfl) rfl) en) rfl) ?_
 refine c_ (vG (fK (cV (ds:=[.int P]) (bP rfl rfl) ep))) (bT rfl)
def Yv:∀c:Nat,97<=c->c<=122->vg ⟨#[c]⟩ "abcdefghijklmnopqrstuvwxyz"=true:=by
 have key:∀i:Fin 26,vg ⟨#[97+i.val]⟩ "abcdefghijklmnopqrstuvwxyz"=true:=by decide +kernel
 intro c h1 h2
 have:=key ⟨c-97,by lia⟩
 rw[show 97+(c-97)=c by lia] at this
 exact this
def Yw{x:Str}(hx:dn x=true)(h:x≠"set"/\x≠"again"):y0j (.str x) (.tup [.str "set",.str "again"]) = .ok (.bl true):=by
 have k1:dn "set"=true:=by decide +kernel
 have k2:dn "again"=true:=by decide +kernel
 show R.guard _ _=_
 rw[bH ⟨by rw[lQ];exact hx,by rw[xK];simp only[zQ,List.all_nil,lQ,k1,k2,Bool.and_self]⟩]
 have e1:bO (.str "set") (.str x)=false:=by rw[z7a];simpa using eA h.1
 have e2:bO (.str "again") (.str x)=false:=by rw[z7a];simpa using eA h.2
 simp only[wR,S8,e1,e2,Bool.or_self,Bool.not_false]
def Yx{ns:List Str}(N:jy ns){x:Str}(hx:x∈ns):yi [.str x] = .ok (.bl true):=by
 have w:=N.w1 x hx
 have em:=NO (w:=x) (S:="abcdefghijklmnopqrstuvwxyz") (m:=8) w.1 (by lia) (by lia) λc hc=>Yv c (N.lt x hx c hc).1 (N.lt x hx c hc).2
 refine b7 rfl ?_
 delta NB
 refine bT (yn (cV (ds:=[.str x,.str "abcdefghijklmnopqrstuvwxyz",.int 8]) rfl em) ?_)
 exact cN (a:=.str x) (b:=.tup [.str "set",.str "again"]) rfl (by walk_at "evs") (Yw (N.ok x hx) (N.nk x hx))
def N8:∀(xs acc:List Str),xs.Nodup->(∀x∈xs,x ∉ acc)->xs.foldl (λl k=>if k∈l then l else k::l) acc=xs.reverse++acc
 | [],_,_,_=>rfl
 | x::r,acc,nd,h=>by
   obtain⟨n1,n2⟩:=List.nodup_cons.mp nd
   rw[a4t,if_neg (h x (gj ..)),N8 r (x::acc) n2 (λy hy z=>by
    rcases List.mem_cons.mp z with rfl | z
    ·exact n1 hy
    ·exact h y (ft _ hy) z)]
   simp
def Yy{xs:List Str}(h:xs.Nodup):(fX xs).length=xs.length:=by
 unfold fX
 rw[N8 xs [] h (λ_ _ z=>nomatch z)];simp
def Yz{ns:List Str}(N:jy ns):Fe [.lst (ns.map D.str)] = .ok (bB false ns):=by
 have l1:=N.l1
 have l3:=N.l3
 refine b7 rfl ?_
 delta NC
 have el:ay c9 (ae (gV 0) ao) [En.ro (.lst (ns.map D.str))] = .ok (.int (ns.length:Int)):=by
  walk_at "evs"
  try rw[aX]
 refine c_ (pw (vG (b:=true) ?_) (pw (fK (cN (a:=.int (ns.length:Int)) (b:=.int 3) el rfl ?_)) (fK (cN (a:=.int ((fX ns).length:Int)) (b:=.int (ns.length:Int)) ?_ el ?_)))) ?_
 ·show y0i (gV 0) [En.ro (.lst (ns.map D.str))]=_
  simp only[y0i,gV,fP,R.cz]
  cases ns with
  | nil=>simp at l1
  | cons a r=>rfl
 ·have b:decide ((3:Int)<(ns.length:Int))=false:=decide_eq_false (by lia)
  simp only[o8]
  rw[b]
 ·show A2 (gV 0) [En.ro (.lst (ns.map D.str))]=_
  unfold A2
  rw[show gV 0 [En.ro (.lst (ns.map D.str))] = .ok (.lst (ns.map D.str)) from rfl,R.cz]
  dsimp only
  rw[strs?_map]
  dsimp only
  rw[bH (by lia)]
 ·rw[Yy N.nd]
  show eG (.int (ns.length:Int)) (.int (ns.length:Int)) = .ok (.bl false)
  walk_at "evs"
  try simp
 ·have ec:c8 (fQ (gV 0)) (dr (aG (ay (gv yi) (ae (gV 0) ao)))) [En.ro (.lst (ns.map D.str))] = .ok ((ns.map λ_=>true).map D.bl):=by
   unfold c8
   rw[show fQ (gV 0) [En.ro (.lst (ns.map D.str))] = .ok (ns.map D.str) by
    simp only[fQ,gV,fP,R.cz,o9,bH (iR ns)]]
   show R.guard _ _=_
   rw[bH (by rw[aX];lia),i4]
   refine j8 λx hx=>?_
   have e:=Yx N hx
   show(aG (ay (gv yi) (ae (gV 0) ao)) (En.ro (.str x)::[En.ro (.lst (ns.map D.str))])>>=λe=>R.ok (some e))=_
   rw[eh (d:=.bl true) (cV (ds:=[.str x]) rfl (by unfold gv;rw[e])) rfl]
   rfl
  refine c_ (vG (b:=true) (fK (cV (ds:=[.lst ((ns.map λ_=>true).map D.bl)]) (bP (gz ec) rfl) ?_))) ?_
  ·rw[xO];simp
  ·refine bT ?_
   show ay eK _ [En.ro (.lst (ns.map D.str))]=_
   have n1:=iR ns
   walk_at "evs"
   try rfl
def YA{P:Int}{ns:List Str}{its:List Item}(N:jy ns)(p1:3<=P)(p2:P<=9973)(hd:eM P=false)(d3:Item.bD its<=3)(hm:Item.aQ its<=30)(ho:Item.bE P ns.length its):Bo [.int P,bB false ns,.lst ((Item.bG ns its).map D.str)] = .ok (.tup (its.map Item.d)):=by
 have l1:=N.l1
 have l3:=N.l3
 have wl:=Item.nq (P:=P) (ns:=ns) l3 _ its (a9 _) ho
 have ei:=NS N.toNames (show P<=9999 by lia) 12 its 0 [] (by lia) (by lia) (by lia) ho (.inl rfl) (by simp only[gS];lia)
 rw[kJ] at ei
 obtain⟨r1,r2,r3,r4,r5⟩:=Item.EV (P:=P) (many:=(ns.length:Int)) its ho
 have ep:=XR (P:=P) (many:=(ns.length:Int)) (its:=Item.md its) (l:=false) p1 p2 hd (by lia) (by lia) (by lia) (by lia) r3
 rw[r4,<-Raw.ds_map,r5,Item.ds_map] at ep
 refine b7 rfl ?_
 delta NA
 refine iP (ds:=((Item.bG ns its).map D.str).reverse) ?_ ?_
 ·show z9o (gV 2) [En.ro (.int P),.ro (bB false ns),.ro (.lst ((Item.bG ns its).map D.str)),.no,.no]=_
  simp only[z9o,gV,fP,gY,R.cz]
  rw[bH ⟨by rw[aX];lia,iR _⟩]
 ·refine gJ (vB (d:=.tup (its.map Item.d)) (ws:=([]:List D).reverse) (mf (ds:=[.int P,dI ns,.lst ((Item.bG ns its).map D.str).reverse,.int ((0:Nat):Int)]) ?_ ei)) ?_
  ·show ae _ _ [En.ro (.int P),.ro (bB false ns),.ro (.lst ((Item.bG ns its).map D.str)),.own ((Item.bG ns its).map D.str).reverse,.no]=_
   exact bP rfl (bP rfl (by walk_at "evs";try rfl))
  ·show aC _ _ [En.ro (.int P),.ro (bB false ns),.ro (.lst ((Item.bG ns its).map D.str)),.own [],.ro (.tup (its.map Item.d))]=_
   refine c_ rfl ?_
   have e:aY (ay Bk (ae (gV 0) (ae (ay c9 (ae (gV 1) ao)) (ae (gV 4) ao)))) [En.ro (.int P),.ro (bB false ns),.ro (.lst ((Item.bG ns its).map D.str)),.own [],.ro (.tup (its.map Item.d))] = .ok (.rt (.tup (its.map Item.d))):=by
    refine bT (cV (ds:=[.int P,.int (ns.length:Int),.tup (its.map Item.d)]) (bP rfl (bP ?_ (bP rfl rfl))) ep)
    refine cV (ds:=[bB false ns]) (bP rfl rfl) ?_
    show c9 [.tup (ns.map D.str)]=_
    simp only[c9,aX]
   unfold gNoX
   rw[e]
def Fx{P:Int}{ns:List Str}{its:List Item}(N:jy ns)(p1:3<=P)(p2:P<=9973)(hd:eM P=false)(d3:Item.bD its<=3)(hm:Item.aQ its<=30)(ho:Item.bE P ns.length its):rV [.str (fJ (b8 P ns its))] = .ok (.tup [.int P,bB false ns,.tup (its.map Item.d)]):=by
 have l3:=N.l3
 have jz:=yt N (show 0<=P by lia) (show P<=9999 by lia) (show Item.aQ its<=60 by lia) ho
 have wl:=Item.nq (P:=P) (ns:=ns) l3 _ its (a9 _) ho
 have tl:=Ft jz (by simp[b8])
 have o1:=(jz ["prime",aW P] (by simp[b8])).2
 have o2:=(jz ("boxes"::ns) (by simp[b8])).2
 have o3:=(jz ("do"::Item.bG ns its) (by simp[b8])).2
 have b1:=Fw (first:="prime") (ws:=[aW P]) (by decide +kernel) o1 (by simp)
 have b2:=Fw (first:="boxes") (ws:=ns) (by decide +kernel) o2 (by lia)
 have b3:=Fw (first:="do") (ws:=Item.bG ns its) (by decide +kernel) o3 (by lia)
 have e1:=Yu p1 p2 hd
 have e2:=Yz N
 have e3:=YA N p1 p2 hd d3 hm ho
 have nI:=rO its
 have nN:(bB false ns).cE=true:=by
  show(D.tup (ns.map D.str)).cE=true
  simp[D.cE,iR]
 refine b7 rfl ?_
 delta Fg
 have Fy:(b8 P ns its).map cG=[cG ["prime",aW P],cG ("boxes"::ns),cG ("do"::Item.bG ns its)]:=rfl
 refine iP (ds:=((b8 P ns its).map cG).map D.str) (Fv rfl (by lia) (by decide +kernel) (Yr jz (by simp[b8]))) ?_
 rw[Fy]
 generalize cG ["prime",aW P]=t1 at *
 generalize cG ("boxes"::ns)=t2 at *
 generalize cG ("do"::Item.bG ns its)=t3 at *
 show aC _ _ [En.ro (.str (fJ (b8 P ns its))),.own [.str t1,.str t2,.str t3],.no,.no]=_
 refine c_ (by walk_at "evs";try rfl) ?_
 refine cu (d:=.int P) (eh (cV (ds:=[.lst (([aW P]:List Str).map D.str)]) (bP (gz (tM (ds:=[.str t1,.str "prime"]) (bP (cN (a:=.lst [.str t1,.str t2,.str t3]) (b:=.int 0) rfl rfl (by simp only[aF,DP])) rfl) b1)) rfl) e1) rfl) ?_
 refine cu (d:=bB false ns) (eh (cV (ds:=[.lst (ns.map D.str)]) (bP (gz (tM (ds:=[.str t2,.str "boxes"]) (bP (cN (a:=.lst [.str t1,.str t2,.str t3]) (b:=.int 1) rfl rfl (by simp only[aF,LW])) rfl) b2)) rfl) e2) nN) ?_
 refine bT ?_
 show d_ _ [En.ro (.str (fJ (b8 P ns its))),.own [.str t1,.str t2,.str t3],.ro (.int P),.ro (bB false ns)]=_
 have q:ay Bo (ae (gV 2) (ae (gV 3) (ae (gL (gx vA (ae (aj aF (gV 1) (gC (.int 2))) (ae (gC (.str "do")) ao)))) ao))) [En.ro (.str (fJ (b8 P ns its))),.own [.str t1,.str t2,.str t3],.ro (.int P),.ro (bB false ns)] = .ok (.tup (its.map Item.d)) :=
  cV (ds:=[.int P,bB false ns,.lst ((Item.bG ns its).map D.str)]) (bP rfl (bP rfl (bP (gz (tM (ds:=[.str t3,.str "do"]) (bP (cN (a:=.lst [.str t1,.str t2,.str t3]) (b:=.int 2) rfl rfl (by simp only[aF,LX])) rfl) b3)) rfl))) e3
 unfold d_
 rw[bP (d:=.int P) rfl (bP (d:=bB false ns) rfl (bP q rfl))]
 rw[R.cz,bH (by simp)]
def vH(c m:Int)(s k p:Nat):Int:=(c/64*(2*(p:Int)+1)+m/26*(p:Int)+7*(p:Int)*(p:Int))+(if (p:Int)=c/8%(s:Int) then (1+2*(m%6))*(k:Int) else 0)
def let1(v:Int):Nat:=97+(v%26).toNat
def fA(c m:Int)(s k j:Nat):Str:=⟨((eW j).map λp=>let1 (vH c m s k p)).toArray⟩
def mh(w:Str):Str:=if w="set"∨w="again" then w++"x" else w
def YB(v:Int):97<=let1 v/\let1 v<=122:=by unfold let1;lia
def YC(v:Int):dIxS (.str "abcdefghijklmnopqrstuvwxyz") (.int (v%26)) = .ok (.str ⟨#[let1 v]⟩):=by
 have key:∀i:Fin 26,c5 ("abcdefghijklmnopqrstuvwxyz":Str).cps.toList (i.val:Int)=some (97+i.val):=by decide +kernel
 have hv:v%26=(((v%26).toNat:Nat):Int):=by lia
 have e:=key ⟨(v%26).toNat,by lia⟩
 show R.guard _ _=_
 rw[bH (by decide +kernel),hv,e]
 rfl
def YD(c m:Int)(s k j:Nat):fA c m s k (j+1)=fA c m s k j++⟨#[let1 (vH c m s k j)]⟩:=by
 refine zN ?_
 rw[CN]
 unfold fA
 simp[sE]
def yv(c m:Int)(s k j:Nat):(fA c m s k j).length=j:=by simp[fA,wJ]
def Fz(c m:Int)(s k j:Nat):∀x∈(fA c m s k j).cps.toList,97<=x/\x<=122:=by
 intro x hx
 simp only[fA,CY] at hx
 obtain⟨p,_,rfl⟩:=hx
 exact YB _
def N9{w:Str}(h:∀x∈w.cps.toList,97<=x/\x<=122):dn w=true:=by
 unfold dn
 rw[<-SY,mF]
 intro c hc
 have:=h c hc
 simpa using (show c<0x110000 by lia)
def N_{lo:Int}{n j:Nat}{d:D}(h:(iN lo n)[j]? = some d):j<n/\d = .int (lo+(j:Int)):=by
 by_cases q:j<n
 ·rw[AQ lo n j q] at h;cases h;exact⟨q,rfl⟩
 ·have:(iN lo n)[j]? = none:=jY (by rw[qf];lia)
  rw[this] at h;cases h
def YE{w:Str}(hw:dn w=true):dIn (.str w) (.tup [.str "set",.str "again"]) = .ok (.bl (decide (w="set"∨w="again"))):=by
 have k1:dn "set"=true:=by decide +kernel
 have k2:dn "again"=true:=by decide +kernel
 show R.guard _ _=_
 rw[bH ⟨by rw[lQ];exact hw,by rw[xK];simp only[zQ,List.all_nil,lQ,k1,k2,Bool.and_self]⟩]
 have e1:bO (.str "set") (.str w)=decide (w="set"):=by
  rw[z7a]
  by_cases q:w="set"
  ·rw[q];simp
  ·rw[decide_eq_false q];simpa using eA q
 have e2:bO (.str "again") (.str w)=decide (w="again"):=by
  rw[z7a]
  by_cases q:w="again"
  ·rw[q];simp
  ·rw[decide_eq_false q];simpa using eA q
 simp only[wR,S8,e1,e2,Kc,Bool.decide_or]
def YF{w v:Str}(hl:w.length=v.length)(h:mh w=mh v):w=v:=by
 unfold mh at h
 have lx:("x":Str).length=1:=by decide +kernel
 by_cases q:w="set"∨w="again"
 ·by_cases r:v="set"∨v="again"
  ·rcases q with rfl | rfl<;>rcases r with rfl | rfl<;>first | rfl | exact absurd hl (by decide +kernel)
  ·rw[if_pos q,if_neg r] at h
   have:=congrArg wJ h
   rw[Kv] at this
   lia
 ·by_cases r:v="set"∨v="again"
  ·rw[if_neg q,if_pos r] at h
   have:=congrArg wJ h
   rw[Kv] at this
   lia
  ·rw[if_neg q,if_neg r] at h
   exact h
def YG{c m:Int}{s k l:Nat}(s1:1<=s)(hk:k<l)(hl:l<3):fA c m s k s≠fA c m s l s:=λh=>by
 obtain⟨q,hq⟩:∃q:Nat,c/8%(s:Int)=(q:Int):=⟨(c/8%(s:Int)).toNat,by have:=CM (c/8) (show(s:Int)≠0 by lia);lia⟩
 have YH:q<s:=by have:=Kj (c/8) (show(0:Int)<(s:Int) by lia);lia
 have e:=congrArg (λw:Str=>w.cps.toList[q]?) h
 simp only[fA,e8,zP YH,CP,wU,let1,vH,hq,if_true] at e
 have YI:k=0∨k=1:=by lia
 have YJ:l=1∨l=2:=by lia
 generalize c/64*(2*(q:Int)+1)+m/26*(q:Int)+7*(q:Int)*(q:Int)=b at e
 rcases YI with rfl | rfl<;>rcases YJ with rfl | rfl<;>(push_cast at e;lia)
def fY(c m:Int)(s n:Nat):List Str:=(eW n).map λk=>mh (fA c m s k s)
def YK{c m:Int}{s n:Nat}(s1:1<=s)(s8:s<=8)(n1:1<=n)(n3:n<=3):jy (fY c m s n):=by
 have lx:("x":Str).length=1:=by decide +kernel
 have lt:∀x∈fY c m s n,∀z∈x.cps.toList,97<=z/\z<=122:=by
  intro x hx z hz
  obtain⟨k,_,rfl⟩:=List.mem_map.mp hx
  unfold mh at hz
  split at hz
  ·rw[CN,a5k] at hz
   rcases List.mem_append.mp hz with hz | hz
   ·exact Fz c m s k s z hz
   ·have:("x":Str).cps.toList=[120]:=by decide +kernel
    rw[this] at hz
    simp at hz
    lia
  ·exact Fz c m s k s z hz
 refine⟨⟨?_,λx hx=>N9 (lt x hx),by simp[fY];exact n1,by simp[fY];exact n3⟩,λx hx=>?_,lt,λx hx=>?_⟩
 ·have ne:∀k l,k<l->l<3->mh (fA c m s k s)≠mh (fA c m s l s):=λk l h1 h2 z=>YG s1 h1 h2 (YF (by rw[yv,yv]) z)
  have q1:=ne 0 1 (by lia) (by lia)
  have q2:=ne 0 2 (by lia) (by lia)
  have q3:=ne 1 2 (by lia) (by lia)
  have:n=1∨n=2∨n=3:=by lia
  rcases this with rfl | rfl | rfl
  ·simp[fY,sE]
  ·simp[fY,sE,q1]
  ·simp[fY,sE,q1,q2,q3]
 ·obtain⟨k,_,rfl⟩:=List.mem_map.mp hx
  have wl:=yv c m s k s
  unfold mh
  split
  ·rename_i h
   rw[Kv,lx]
   rcases h with h | h
   ·rw[h];exact⟨by decide +kernel,by decide +kernel⟩
   ·rw[h];exact⟨by decide +kernel,by decide +kernel⟩
  ·lia
 ·obtain⟨k,_,rfl⟩:=List.mem_map.mp hx
  unfold mh
  split
  ·rename_i h
   rcases h with h | h
   ·rw[h];exact⟨by decide +kernel,by decide +kernel⟩
   ·rw[h];exact⟨by decide +kernel,by decide +kernel⟩
  ·rename_i h
   exact⟨λz=>h (.inl z),λz=>h (.inr z)⟩
abbrev lh:Str:="abcdefghijklmnopqrstuvwxyz"
def YL{c m:Int}{n:Nat}(n1:1<=n)(n3:n<=3):∃ns:List Str,jy ns/\ns.length=n/\EW [.int c,.int m,.int n] = .ok (bB false ns):=by
 obtain⟨s,hs⟩:∃s:Nat,1+c%8=(s:Int):=⟨(1+c%8).toNat,by lia⟩
 have s1:1<=s:=by lia
 have s8:s<=8:=by lia
 refine⟨fY c m s n,YK s1 s8 n1 n3,by simp[fY],?_⟩
 refine b7 rfl ?_
 delta Nv
 refine cu (d:=.str lh) (eh rfl rfl) ?_
 refine cu (d:=.int (s:Int)) (by
  walk_at "evs"
  rw[hs]
  try walk_at "evs") ?_
 refine iP (ds:=([]:List Str).map D.str) (pv (ws:=[]) rfl (by simp)) ?_
 show aC _ _ [En.ro (.int c),.ro (.int m),.ro (.int n),.ro (.str lh),.ro (.int s),.own ((fY c m s 0).map D.str),.no,.no,.no,.no]=_
 refine s_ (ds:=iN 0 n) (λk Γ=>∃(x6 x7 x8 x9:En),Γ=[.ro (.int c),.ro (.int m),.ro (.int n),.ro (.str lh),.ro (.int s),.own ((fY c m s k).map D.str),x6,x7,x8,x9]) (by walk_at "evs";try rfl) ⟨_,_,_,_,rfl⟩ ?_ ?_
 ·rintro k d Γ hd ⟨x6,x7,x8,x9,rfl⟩
  obtain⟨hk,rfl⟩:=N_ hd
  rw[uE]
  show Ends (aC _ _ [En.ro (.int c),.ro (.int m),.ro (.int n),.ro (.str lh),.ro (.int s),.own ((fY c m s k).map D.str),.ro (.int (k:Int)),x7,x8,x9]) _
  rw[cu (d:=.str "") (eh rfl rfl) rfl]
  refine M9 (λr=>Ends r _) (λj Γ=>∃(x8 x9:En),Γ=[.ro (.int c),.ro (.int m),.ro (.int n),.ro (.str lh),.ro (.int s),.own ((fY c m s k).map D.str),.ro (.int (k:Int)),.ro (.str (fA c m s k j)),x8,x9]) (ds:=iN 0 s) (by walk_at "evs";try rfl) ⟨_,_,rfl⟩ ?_ ?_
  ·rintro j d Γ hd ⟨x8,x9,rfl⟩
   obtain⟨hj,rfl⟩:=N_ hd
   rw[uE]
   show Ends (aC _ _ [En.ro (.int c),.ro (.int m),.ro (.int n),.ro (.str lh),.ro (.int s),.own ((fY c m s k).map D.str),.ro (.int (k:Int)),.ro (.str (fA c m s k j)),.ro (.int (j:Int)),x9]) _
   rw[cu (d:=.int (c/64*(2*(j:Int)+1)+m/26*(j:Int)+7*(j:Int)*(j:Int))) (by walk_at "evs") rfl]
   show Ends (aC _ _ [En.ro (.int c),.ro (.int m),.ro (.int n),.ro (.str lh),.ro (.int s),.own ((fY c m s k).map D.str),.ro (.int (k:Int)),.ro (.str (fA c m s k j)),.ro (.int (j:Int)),.ro (.int (c/64*(2*(j:Int)+1)+m/26*(j:Int)+7*(j:Int)*(j:Int)))]) _
   have last:∀v:Int,v=vH c m s k j->Ends (a6 7 (aG (aj y7i (gV 7) (aj dIxS (gV 3) (aj cM (gV 9) (gC (.int 26)))))) [En.ro (.int c),.ro (.int m),.ro (.int n),.ro (.str lh),.ro (.int s),.own ((fY c m s k).map D.str),.ro (.int (k:Int)),.ro (.str (fA c m s k j)),.ro (.int (j:Int)),.ro (.int v)]) (λΓ=>∃(x8 x9:En),Γ=[.ro (.int c),.ro (.int m),.ro (.int n),.ro (.str lh),.ro (.int s),.own ((fY c m s k).map D.str),.ro (.int (k:Int)),.ro (.str (fA c m s k (j+1))),x8,x9]):=by
    intro v hv
    refine .nx (kZ (d:=.str (fA c m s k (j+1))) (eh (cN (a:=.str (fA c m s k j)) (b:=.str ⟨#[let1 v]⟩) rfl (cN (a:=.str lh) (b:=.int (v%26)) rfl (by walk_at "evs") (YC v)) ?_) rfl)) ⟨_,_,rfl⟩
    show R.guard _ _=_
    rw[bH (by rw[yv];show j+1<=100000;lia),YD,hv]
   by_cases q:(j:Int)=c/8%(s:Int)
   ·have bq:((j:Int)==c/8%(s:Int))=true:=by simpa using q
    have cond:gT (aj cS (gV 8) (aj cM (aj fV (gV 0) (gC (.int 8))) (gV 4))) [En.ro (.int c),.ro (.int m),.ro (.int n),.ro (.str lh),.ro (.int s),.own ((fY c m s k).map D.str),.ro (.int (k:Int)),.ro (.str (fA c m s k j)),.ro (.int (j:Int)),.ro (.int (c/64*(2*(j:Int)+1)+m/26*(j:Int)+7*(j:Int)*(j:Int)))] = .ok true:=by
     walk_at "evs"
     rw[bq]
    rw[DY cond (kZ (d:=.int ((c/64*(2*(j:Int)+1)+m/26*(j:Int)+7*(j:Int)*(j:Int))+(1+2*(m%6))*(k:Int))) (by walk_at "evs")) rfl]
    exact last _ (by unfold vH;rw[if_pos q])
   ·have bq:((j:Int)==c/8%(s:Int))=false:=by simpa using q
    have cond:gT (aj cS (gV 8) (aj cM (aj fV (gV 0) (gC (.int 8))) (gV 4))) [En.ro (.int c),.ro (.int m),.ro (.int n),.ro (.str lh),.ro (.int s),.own ((fY c m s k).map D.str),.ro (.int (k:Int)),.ro (.str (fA c m s k j)),.ro (.int (j:Int)),.ro (.int (c/64*(2*(j:Int)+1)+m/26*(j:Int)+7*(j:Int)*(j:Int)))] = .ok false:=by
     walk_at "evs"
     rw[bq]
    rw[c_ cond rfl]
    exact last _ (by unfold vH;rw[if_neg q,Int.add_zero])
  ·rintro Γ ⟨x8,x9,rfl⟩
   rw[qf]
   have wl:=yv c m s k s
   have wk:=N9 (Fz c m s k s)
   have en:(fY c m s (k+1)).map D.str=(fY c m s k).map D.str++[.str (mh (fA c m s k s))]:=by simp[fY,sE]
   have nl:((fY c m s k).map D.str).length<=100000:=by simp[fY];lia
   have fin:∀w x8 x9,w=mh (fA c m s k s)->Ends (l0 5 (aG (gV 7)) [En.ro (.int c),.ro (.int m),.ro (.int n),.ro (.str lh),.ro (.int s),.own ((fY c m s k).map D.str),.ro (.int (k:Int)),.ro (.str w),x8,x9]) (λΓ=>∃(x6 x7 x8 x9:En),Γ=[.ro (.int c),.ro (.int m),.ro (.int n),.ro (.str lh),.ro (.int s),.own ((fY c m s (k+1)).map D.str),x6,x7,x8,x9]):=by
    intro w x8 x9 hw
    refine .nx (Mf rfl (d:=.str w) (eh rfl rfl) nl) ⟨.ro (.int (k:Int)),.ro (.str w),x8,x9,?_⟩
    rw[en,hw]
    rfl
   have ci:=YE wk
   by_cases q:fA c m s k s="set"∨fA c m s k s="again"
   ·rw[decide_eq_true q] at ci
    rw[DY (fK (cN (a:=.str (fA c m s k s)) (b:=.tup [.str "set",.str "again"]) rfl (by walk_at "evs") ci)) (kZ (d:=.str (fA c m s k s++"x")) (eh (cN (a:=.str (fA c m s k s)) (b:=.str "x") rfl rfl ?_) rfl)) rfl]
    ·exact fin _ _ _ (by unfold mh;rw[if_pos q])
    ·show R.guard _ _=_
     have l1:("x":Str).length=1:=by decide +kernel
     rw[bH (by lia)]
   ·rw[decide_eq_false q] at ci
    rw[c_ (fK (cN (a:=.str (fA c m s k s)) (b:=.tup [.str "set",.str "again"]) rfl (by walk_at "evs") ci)) rfl]
    exact fin _ _ _ (by unfold mh;rw[if_neg q])
 ·rintro Γ ⟨x6,x7,x8,x9,rfl⟩
  rw[qf]
  refine bT ?_
  show ay eK _ _=_
  have n1:=iR (fY c m s n)
  walk_at "evs"
  try rfl
def Bv{P:Int}{ns:List Str}(N:jy ns)(hP:P<=9999):∀(k:Nat) (its:List Item),Item.aQ its<=k->Item.bE P ns.length its->∀w∈Item.bG ns its,dn w=true
 | _,[],_,_,w,hw=>by simp[Item.bG] at hw
 | 0,a::r,h,_,_,_=>by have:=a.tD;simp only[Item.aQ] at h;lia
 | k+1,.set x f::r,h,ho,w,hw=>by
   simp only[Item.bE,Item.ok] at ho
   simp only[Item.aQ,Item.many] at h
   simp only[Item.bG,Item.ws,mI,jG,CT] at hw
   rcases hw with rfl | rfl | hw | hw
   ·decide +kernel
   ·exact N.ok _ (N0 (by lia))
   ·obtain⟨v,hv,rfl⟩:=List.mem_map.mp hw
    exact yp (ho.1.2.2.2 v hv).1
   ·exact Bv N hP k r (by lia) ho.2 w hw
 | k+1,.again n i::r,h,ho,w,hw=>by
   simp only[Item.bE,Item.ok] at ho
   simp only[Item.aQ,Item.many] at h
   simp only[Item.bG,Item.ws,mI,jG,CT,oO,lG,or_false,false_or] at hw
   rcases hw with rfl | rfl | rfl | hw | rfl | hw
   ·decide +kernel
   ·exact yp ho.1.1
   ·decide +kernel
   ·exact Bv N hP k i (by lia) ho.1.2.2 w hw
   ·decide +kernel
   ·exact Bv N hP k r (by lia) ho.2 w hw
def YM{P:Int}{ns:List Str}{its:List Item}(N:jy ns)(h0:0<=P)(hP:P<=9999)(ho:Item.bE P ns.length its):∀ws∈b8 P ns its,∀w∈ws,dn w=true:=by
 intro ws hw w hx
 simp only[b8,jG,lG,or_false] at hw
 rcases hw with rfl | rfl | rfl
 ·simp only[jG,lG,or_false] at hx
  rcases hx with rfl | rfl
  ·decide +kernel
  ·exact yp h0
 ·rcases List.mem_cons.mp hx with rfl | hx
  ·decide +kernel
  ·exact N.ok _ hx
 ·rcases List.mem_cons.mp hx with rfl | hx
  ·decide +kernel
  ·exact Bv N hP _ its (a9 _) ho w hx
def vec(r:List Int):Nat->Int:=λi=>(r[i]?).getD 0
inductive Span (P:Int) (S:List (List Int)):(Nat->Int)->Prop
 | zero {v:Nat->Int}:(∀i,cg P (v i) 0)->Span P S v
 | add {u v:Nat->Int} {c:Int} {r:List Int}:r∈S->Span P S u->(∀i,cg P (v i) (u i+c*vec r i))->Span P S v
section
variable {P:Int}{S T:List (List Int)}{u v:Nat->Int}{c:Int}{r:List Int}
end
def pz(r:List Int):Nat:=r.findIdx (λx=>!(x==0))
structure YN (P:Int) (w:Nat) (S:List (List Int)):Prop where
 row:∀r∈S,r.length=w/\dt P r/\pz r<w/\vec r (pz r)=1
 pair:S.Pairwise λr r'=>pz r<pz r'/\vec r (pz r')=0
section
variable {P:Int}{w:Nat}{S T:List (List Int)}{v:Nat->Int}
end
def om(P:Int)(r:List Int)(c:Int):List Int:=r.map λn=>(c*n)%P
section
variable {P:Int}{w p:Nat}{r l:List Int}{c:Int}
def YO(i:Nat):vec (om P r c) i=(c*vec r i)%P:=by
 unfold vec om
 rw[e8]
 cases r[i]? with
 | none=>simp
 | some x=>rfl
def FA:(om P r c).length=r.length:=by unfold om;simp
def YQ(hp:0<P):dt P (om P r c):=λn hn=>by
 obtain⟨x,_,rfl⟩:=List.mem_map.mp hn
 exact⟨mY hp,mZ hp⟩
end
structure a8g (P:Int) (w p:Nat) (rows left steps:List (List Int)):Prop where
 lft:∀r∈left,r.length=w/\dt P r/\∀i,i<p->vec r i=0
 step:∀r∈steps,r.length=w/\dt P r/\pz r<p/\vec r (pz r)=1
 pair:steps.Pairwise λr r'=>pz r<pz r'/\vec r (pz r')=0
 ofL:∀r∈left,Span P rows (vec r)
 YR:∀r∈steps,Span P rows (vec r)
 all:∀r∈rows,Span P (left++steps) (vec r)
section
variable {P:Int}{w p:Nat}{rows left steps:List (List Int)}
structure a8h (P:Int) (w:Nat) (rows S:List (List Int)):Prop where
 steps:YN P w S
 YR:∀r∈S,Span P rows (vec r)
 all:∀r∈rows,Span P S (vec r)
end
noncomputable section
def Oa:G->R Fl :=
 (aY (ay eK (ae (gL (c8 (fQ (gV 1)) (dr (aG (ay (gv pe) (ae (gV 1) (ae (aj jL (gV 3) (gV 0)) ao))))))) ao)))
def FC:List D->R D:=bA 3 3 Oa
end
noncomputable section
end
noncomputable section
end
end L3
namespace L3
open PySem
local macro_rules | `(tactic| walk_at "evs") => wkL " L3.y2f L3.z6u L3.s_on L3.z4b L3.z7q L3.z7t L3.z7v L3.z5w L3.z6o L3.z7x L3.z4t L3.z7h L3.dInt L3.y8t L3.x0w L3.y4b L3.y5q L3.y8s L3.y1c L3.y0i L3.D.isNon"
def YS{P c:Int}{r:List Int}(hp:0<P)(hc:mQ c)(hr:r.length<=1000):FC [.int P,aZ r,.int c] = .ok (aZ (om P r c)):=by
 refine b7 rfl ?_
 delta Oa
 refine bT ?_
 simp only[ku]
 walk_at "evs"
 rw[j8 (h:=λn=>D.int ((c*n)%P)),yf]
 ·walk_at "evs"
  rfl
 ·intro n hn
  walk_at "evs"
def FD{r:List Int}{p:Nat}(h:p<r.length):c5 (r.map D.int) (p:Int)=some (.int (vec r p)):=rH h
noncomputable section
def Ob:G->R Fl :=
 (aC (a6 3 (aG (ay vn (ae (gV 0) (ae (aj aF (gV 2) (gV 1)) ao)))))
 (aC (e_ 4 (ju (ay FC (ae (gV 0) (ae (gV 2) (ae (kR (gV 3)) ao))))))
 (aC (o_ 4 (gV 1) (aG (gV 3)))
 (aY (ay eK (ae (gV 4) ao))))))
def FE:List D->R D:=bA 3 5 Ob
def FF:G->R Fl :=
 (aC (bU (gT (aj cS (aj aF (gV 2) (gV 1)) (gC (.int 0)))) (iw .gO) cF)
 (aY (d_ (ae (gC (.str "set")) (ae (gV 1) (ae (ay FE (ae (gV 0) (ae (gV 1) (ae (gV 2) ao)))) ao))))))
def FG:List D->R D:=bA 3 3 FF
def Bw(FH:List D->R D)(FI:List D->R D)(FJ:List D->R D):G->R Fl :=
 (aY (ay eK (ae (gL (z9w (gRev (gV 2)) (dr (aG (ay FJ (ae (gV 1) (ae (gV 2) (ae (gV 0) ao)))))))) ao)))
def yw(FH:List D->R D)(FI:List D->R D)(FJ:List D->R D):G->R Fl :=
 (aC (bU (gT (aj cS (gV 2) (gC (.int 0)))) (aY (d_ (ae (gC (.str "again")) (ae (gC (.int 0)) (ae (d_ ao) ao))))) cF)
 (aY (d_ (ae (gC (.str "again")) (ae (gV 2) (ae (ay FH (ae (gV 0) (ae (gV 1) (ae (gV 3) ao)))) ao))))))
def vI(FH:List D->R D)(FI:List D->R D)(FJ:List D->R D):G->R Fl :=
 (aC (bU (gT (aj cS (aj aF (gV 2) (gC (.int 0))) (gC (.str "set")))) (aY (ay FG (ae (gV 0) (ae (aj aF (gV 2) (gC (.int 1))) (ae (aj aF (gV 2) (gC (.int 2))) ao))))) cF)
 (aY (ay FI (ae (gV 0) (ae (gV 1) (ae (aj aF (gV 2) (gC (.int 1))) (ae (aj aF (gV 2) (gC (.int 2))) ao)))))))
mutual
def oo:Nat->List D->R D
 | 0=>λ_=>.no
 | n+1=>bA 3 3 (Bw (oo n) (rW n) (lj n))
def rW:Nat->List D->R D
 | 0=>λ_=>.no
 | n+1=>bA 4 4 (yw (oo n) (rW n) (lj n))
def lj:Nat->List D->R D
 | 0=>λ_=>.no
 | n+1=>bA 3 3 (vI (oo n) (rW n) (lj n))
end
def FK(YT:List D->R D):G->R Fl :=
 (aC (iO 1 (mV (ay c9 (ae (gV 0) ao)))
 (aC (bU (jt (gT (aj cS (aj aF (aj aF (gV 0) (gV 1)) (gC (.int 0))) (gC (.str "set")))) (gT (aj cS (aj aF (aj aF (aj aF (gV 0) (gV 1)) (gC (.int 2))) (aj aF (aj aF (gV 0) (gV 1)) (gC (.int 1)))) (gC (.int 0))))) (aY (d_ (ae (gV 1) ao))) cF)
 (bU (jt (gT (aj cS (aj aF (aj aF (gV 0) (gV 1)) (gC (.int 0))) (gC (.str "again")))) (gT (aj o8 (aj aF (aj aF (gV 0) (gV 1)) (gC (.int 1))) (gC (.int 0))))) (aC (a6 2 (aG (ay YT (ae (aj aF (aj aF (gV 0) (gV 1)) (gC (.int 2))) ao))))
 (bU (gT (aj eG (gV 2) (d_ ao))) (aY (aj dm (d_ (ae (gV 1) ao)) (gV 2))) cF)) cF)))
 (aY (d_ ao)))
def tN:Nat->List D->R D
 | 0=>λ_=>.no
 | n+1=>bA 1 3 (FK (tN n))
end
def Oc{α:Type}{gb:G->R Fl}{i:Nat}{I:G->Prop}{e:α->D}{res:α->Option D}:∀{l:List α} {Γ:G},I Γ->(∀a∈l,∀Γ,I Γ->(res a=none/\∃Γ',gb (Γ.set i (.ro (e a))) = .ok (.nx Γ')/\I Γ')∨∃v,res a=some v/\gb (Γ.set i (.ro (e a))) = .ok (.rt v))->(l.findSome? res=none/\∃Γ',fI gb i (l.map e) Γ = .ok (.nx Γ')/\I Γ')∨∃v,l.findSome? res=some v/\fI gb i (l.map e) Γ = .ok (.rt v)
 | [],Γ,h,_=>.inl ⟨rfl,Γ,rfl,h⟩
 | a::l,Γ,h,q=>by
   rcases q a (by simp) Γ h with ⟨r,Γ',e1,i1⟩ | ⟨v,r,e1⟩
   ·rcases Oc (l:=l) i1 (λb hb=>q b (ft _ hb)) with ⟨r2,z⟩ | ⟨v,r2,z⟩
    ·refine .inl ⟨by rw[Kw,r];exact r2,?_⟩
     rw[fN,AR,e1];exact z
    ·refine .inr ⟨v,by rw[Kw,r];exact r2,?_⟩
     rw[fN,AR,e1];exact z
   ·refine .inr ⟨v,by rw[Kw,r],?_⟩
    rw[fN,AR,e1]
def YU{α:Type}{gs:G->R (List D)}{gb u:G->R Fl}{i:Nat}{Γ:G}{r:R Fl}(l:List α)(e:α->D)(res:α->Option D)(I:G->Prop)(hi:gs Γ = .ok (l.map e))(h0:I Γ)(hq:∀a∈l,∀Γ,I Γ->(res a=none/\∃Γ',gb (Γ.set i (.ro (e a))) = .ok (.nx Γ')/\I Γ')∨∃v,res a=some v/\gb (Γ.set i (.ro (e a))) = .ok (.rt v))(hn:l.findSome? res=none->∀Γ',I Γ'->u Γ'=r)(hs:∀v,l.findSome? res=some v->r = .ok (.rt v)):aC (iO i gs gb) u Γ=r:=by
 rcases Oc (l:=l) h0 hq with ⟨n,Γ',e1,i1⟩ | ⟨v,n,e1⟩
 ·exact DZ hi e1 (hn n Γ' i1)
 ·rw[hs v n];exact l8 (Mg hi e1)
def Od{n:Nat}{s:List Int}(h:s∈vp n):s.length=n/\∀P:Int,1<P->dt P s:=by
 unfold vp at h
 rcases List.mem_cons.mp h with rfl | h
 ·refine⟨Ej n,λP hp x hx=>?_⟩
  unfold qm at hx
  rw[List.eq_of_mem_replicate hx];lia
 ·obtain⟨k,_,rfl⟩:=List.mem_map.mp h
  refine⟨A8 n k,λP hp x hx=>?_⟩
  unfold j_ at hx
  obtain⟨i,_,rfl⟩:=List.mem_map.mp hx
  split<;>lia
def Oe{P:Int}{n:Nat}{a b:List (List Int)}(hp:0<P)(ha:dG P n a)(hb:dG P n b)(h:∀s∈vp n,dH P a s=dH P b s):a=b:=by
 refine CO (by rw[ha.1,hb.1]) λi h1 h2=>?_
 have at':∀s∈vp n,cg P (aV a[i] s) (aV b[i] s):=λs hs=>by
  have e:=congrArg (λl=>l[i]?) (h s hs)
  simp only[dH,e8,fu h1,fu h2,CP,wU] at e
  exact e
 refine MR hp (ha.2 _ (oS h1)) (hb.2 _ (oS h2)) (at' _ (by unfold vp;simp)) λk hk=>at' _ ?_
 unfold vp
 exact ft _ (List.mem_map.mpr ⟨k,List.mem_range.mpr hk,rfl⟩)
noncomputable def gM(P n:Int):Int:=match vn [.int P,.int n] with | .ok (.int a)=>a | _=>0
def Of{P n:Int}(hD:eM P=false)(p1:3<=P)(p2:P<=9973)(h0:0<=n)(h:n<P)(hn:n≠0):vn [.int P,.int n] = .ok (.int (gM P n))/\0<gM P n/\gM P n<P/\cg P (gM P n*n) 1:=by
 have e:n%P≠0:=by rw[sF h0 h];exact hn
 obtain⟨a,ea,a1,a2,a3⟩:=(W8 (P:=P) (n:=n) hD p1 p2).2 e
 have:gM P n=a:=by unfold gM;rw[ea]
 rw[this]
 exact⟨ea,a1,a2,by unfold cg;rw[a3,sF (by lia) (by lia)]⟩
noncomputable def gQ(P:Int)(x:Nat)(f:List Int):List Int:=(om P f (-(gM P (vec f x)))).set x (gM P (vec f x))
def Og(P:Int)(x:Nat)(f:List Int):(gQ P x f).length=f.length:=by unfold gQ;rw[gp,FA]
def FL{l:List Int}{x i:Nat}{v:Int}(h:x<l.length):vec (l.set x v) i=if i=x then v else vec l i:=by
 unfold vec
 rw[List.getElem?_set]
 by_cases q:i=x
 ·subst q;simp[h]
 ·rw[if_neg (eA q),if_neg q]
def dt.set{P:Int}{l:List Int}{x:Nat}{v:Int}(h:dt P l)(h0:0<=v)(hv:v<P):dt P (l.set x v):=λn hn=>by
 rcases a5h hn with z | z
 ·exact h n z
 ·rw[z];exact⟨h0,hv⟩
def Oh(f s:List Int){x:Nat}{v:Int}(h:x<s.length):∀n:Nat,bK (λi=>vec f i*vec (s.set x v) i) n=bK (λi=>vec f i*vec s i) n+(if x<n then vec f x*(v-vec s x) else 0)
 | 0=>by simp[bK]
 | n+1=>by
   rw[kq,kq,Oh f s h n,FL h]
   by_cases q:n=x
   ·subst q
    rw[if_pos rfl,if_neg (mB _),if_pos (wV _)]
    grind
   ·rw[if_neg q]
    by_cases q2:x<n
    ·rw[if_pos q2,if_pos (by lia)];grind
    ·rw[if_neg q2,if_neg (by lia)];grind
def Oi{f s:List Int}{x:Nat}{v:Int}(h:x<s.length):aV f (s.set x v)=aV f s+vec f x*(v-vec s x):=by
 have e:∀u:List Int,aV f u=bK (λi=>vec f i*vec u i) u.length+vec f u.length:=λu=>rfl
 rw[e,e,gp,Oh f s h,if_pos h]
 grind
def Oj{P:Int}{f s:List Int}{x:Nat}(hx:x<s.length)(hl:f.length=s.length+1):cg P (aV (gQ P x f) s) (-(gM P (vec f x))*aV f s+(gM P (vec f x)+gM P (vec f x)*vec f x)*vec s x):=by
 generalize hb:gM P (vec f x)=b
 have hv:∀i,cg P (vec (gQ P x f) i) (if i=x then b else -b*vec f i):=λi=>by
  unfold gQ
  rw[hb,FL (by rw[FA];lia),YO]
  split
  ·exact cg.refl
  ·exact qh
 have e:∀g:List Int,aV g s=bK (λi=>vec g i*vec s i) s.length+vec g s.length:=λu=>rfl
 have e2:∀n:Nat,bK (λi=>(if i=x then b else -b*vec f i)*vec s i) n = -b*bK (λi=>vec f i*vec s i) n+(if x<n then (b+b*vec f x)*vec s x else 0):=λn=>by
  induction n with
  | zero=>simp[bK]
  | succ n ih =>
    rw[kq,kq,ih]
    by_cases q:n=x
    ·subst q
     rw[if_pos rfl,if_neg (mB _),if_pos (wV _)]
     grind
    ·rw[if_neg q]
     by_cases q2:x<n
     ·rw[if_pos q2,if_pos (by lia)];grind
     ·rw[if_neg q2,if_neg (by lia)];grind
 rw[e,e]
 have h1:cg P (bK (λi=>vec (gQ P x f) i*vec s i) s.length) (bK (λi=>(if i=x then b else -b*vec f i)*vec s i) s.length):=cg.bK λi _=>(hv i).mul cg.refl
 rw[e2,if_pos hx] at h1
 have h2:=hv s.length
 rw[if_neg (by lia)] at h2
 refine(h1.add h2).trans (cg.of_eq ?_)
 grind
def Ol{s:List Int}{x:Nat}(h:x<s.length):s.set x (vec s x)=s:=by
 refine CO (by simp) λi h1 h2=>?_
 rw[a4x]
 split
 ·rename_i q;subst q;unfold vec;rw[fu h2];rfl
 ·rfl
def YV{P:Int}{f s:List Int}{x:Nat}(p0:0<P)(hb:cg P (gM P (vec f x)*vec f x) 1)(hx:x<s.length)(hl:f.length=s.length+1)(so:dt P s):(s.set x (aV f s%P)).set x (aV (gQ P x f) (s.set x (aV f s%P))%P)=s:=by
 rw[List.set_set]
 have hw:=Oj (P:=P) (f:=f) (s:=s.set x (aV f s%P)) (x:=x) (by rw[gp];exact hx) (by rw[gp];exact hl)
 rw[Oi (f:=f) hx,FL hx,if_pos rfl] at hw
 generalize hB:gM P (vec f x)=b at hb hw
 have key:cg P (aV (gQ P x f) (s.set x (aV f s%P))) (vec s x):=by
  refine hw.trans ?_
  have m1:cg P (aV f s%P) (aV f s):=qh
  have:cg P (-b*(aV f s+vec f x*(aV f s%P-vec s x))+(b+b*vec f x)*(aV f s%P)) (-b*aV f s-(b*vec f x)*(aV f s)+(b*vec f x)*vec s x+(b+b*vec f x)*aV f s):=by
   have h1:cg P (-b*(aV f s+vec f x*(aV f s%P-vec s x))) (-b*(aV f s+vec f x*(aV f s-vec s x))):=(cg.refl).mul (cg.refl.add (cg.refl.mul (m1.sub cg.refl)))
   have h2:cg P ((b+b*vec f x)*(aV f s%P)) ((b+b*vec f x)*aV f s):=cg.refl.mul m1
   refine(h1.add h2).trans (cg.of_eq ?_)
   grind
  refine this.trans ?_
  have h3:cg P ((b*vec f x)*vec s x) (1*vec s x):=hb.mul cg.refl
  refine(cg.of_eq (by grind:-b*aV f s-(b*vec f x)*(aV f s)+(b*vec f x)*vec s x+(b+b*vec f x)*aV f s=(b*vec f x)*vec s x)).trans (h3.trans (cg.of_eq (Int.one_mul _)))
 have vs:=ni p0 so x
 rw[show aV (gQ P x f) (s.set x (aV f s%P))%P=vec s x from(show _%P=_%P from key).trans (sF vs.1 vs.2),Ol hx]
def YW{P:Int}{f s:List Int}{x:Nat}(p0:0<P)(hb:cg P (gM P (vec f x)*vec f x) 1)(hx:x<s.length)(hl:f.length=s.length+1)(so:dt P s):(s.set x (aV (gQ P x f) s%P)).set x (aV f (s.set x (aV (gQ P x f) s%P))%P)=s:=by
 rw[List.set_set]
 have hw:=Oj (P:=P) (f:=f) (s:=s) (x:=x) hx hl
 generalize hB:gM P (vec f x)=b at hb hw
 have m1:cg P (aV (gQ P x f) s%P) (-b*aV f s+(b+b*vec f x)*vec s x):=qh.trans hw
 have key:cg P (aV f (s.set x (aV (gQ P x f) s%P))) (vec s x):=by
  rw[Oi hx]
  have h1:cg P (aV f s+vec f x*(aV (gQ P x f) s%P-vec s x)) (aV f s+vec f x*((-b*aV f s+(b+b*vec f x)*vec s x)-vec s x)):=cg.refl.add (cg.refl.mul (m1.sub cg.refl))
  refine h1.trans ?_
  have e:aV f s+vec f x*((-b*aV f s+(b+b*vec f x)*vec s x)-vec s x)=aV f s-(b*vec f x)*aV f s+(b*vec f x)*vec s x+(b*vec f x)*(vec f x*vec s x)-vec f x*vec s x:=by grind
  rw[e]
  have h2:cg P (aV f s-(b*vec f x)*aV f s+(b*vec f x)*vec s x+(b*vec f x)*(vec f x*vec s x)-vec f x*vec s x) (aV f s-1*aV f s+1*vec s x+1*(vec f x*vec s x)-vec f x*vec s x):=(((cg.refl.sub (hb.mul cg.refl)).add (hb.mul cg.refl)).add (hb.mul cg.refl)).sub cg.refl
  exact h2.trans (cg.of_eq (by grind))
 have vs:=ni p0 so x
 rw[show aV f (s.set x (aV (gQ P x f) s%P))%P=vec s x from(show _%P=_%P from key).trans (sF vs.1 vs.2),Ol hx]
def Bx{P:Int}{m x:Nat}{f s:List Int}(hs:s.length=m)(so:dt P s):dH P ((fe m).set x f) s=s.set x (aV f s%P):=by
 unfold dH
 rw[SQ]
 have:=yd hs so
 unfold dH at this
 rw[this]
def g0(P:Int)(m:Nat)(a b:List (List Int)):Prop:=dP P a b=fe m/\dP P b a=fe m
def g0.YX{P:Int}{m:Nat}{a b:List (List Int)}(hp:1<P)(ha:dG P m a)(hb:dG P m b)(h1:∀s,s.length=m->dt P s->dH P b (dH P a s)=s)(h2:∀s,s.length=m->dt P s->dH P a (dH P b s)=s):g0 P m a b:=by
 refine⟨Oe (by lia) (oa (by lia) ha.1 hb.1) (tx hp m) λs hs=>?_,Oe (by lia) (oa (by lia) hb.1 ha.1) (tx hp m) λs hs=>?_⟩
 ·obtain⟨sl,so⟩:=Od hs
  rw[rL ha.1 sl,yd sl (so P hp),h1 s sl (so P hp)]
 ·obtain⟨sl,so⟩:=Od hs
  rw[rL hb.1 sl,yd sl (so P hp),h2 s sl (so P hp)]
def g0.idle{P:Int}{m:Nat}(hp:1<P):g0 P m (fe m) (fe m):=⟨ye hp (tx hp m),ye hp (tx hp m)⟩
def g0.comp{P:Int}{m:Nat}{a b c d:List (List Int)}(hp:1<P)(ha:dG P m a)(hb:dG P m b)(hc:dG P m c)(hd:dG P m d)(h:g0 P m a b)(g:g0 P m c d):g0 P m (dP P a c) (dP P d b):=by
 have p0:0<P:=by lia
 have key:∀{a b c d:List (List Int)},dG P m a->dG P m b->dG P m c->dG P m d->dP P a b=fe m->dP P c d=fe m->dP P (dP P a c) (dP P d b)=fe m:=λ{a b c d} ha hb hc hd h g=>by
  rw[A9 p0 ha.1 hc.1 (oa p0 hd.1 hb.1).1,<-A9 p0 hc.1 hd.1 hb.1,g,ye hp hb,h]
 exact⟨key ha hb hc hd h.1 g.1,key hd hc hb ha g.2 h.2⟩
def YY{P:Int}{m:Nat}{t:List (List Int)}(hp:1<P)(ht:dG P m t)(k:Nat):cX P m t (k+1)=dP P t (cX P m t k):=by
 rw[Nat.add_comm,Bj hp ht,M_ hp ht]
def g0.pow{P:Int}{m:Nat}{a b:List (List Int)}(hp:1<P)(ha:dG P m a)(hb:dG P m b)(h:g0 P m a b):∀k,g0 P m (cX P m a k) (cX P m b k)
 | 0=>g0.idle hp
 | k+1=>by
   have ih:=g0.pow hp ha hb h k
   rw[YY hp hb]
   show g0 P m (dP P (cX P m a k) a) _
   exact g0.comp hp (lg hp ha k) (lg hp hb k) ha hb ih h
mutual
noncomputable def Item.fZ(P:Int):Item->Item
 | .set x f=>.set x (gQ P x.toNat f)
 | .again n its=>if n=0 then .again 0 [] else .again n (Item.g6 P its)
noncomputable def Item.g6(P:Int):List Item->List Item
 | []=>[]
 | a::r=>Item.g6 P r++[a.fZ P]
end
mutual
def Item.free:Item->Bool
 | .set x f=>vec f x.toNat != 0
 | .again n its=>n==0||Item.frees its
def Item.frees:List Item->Bool
 | []=>true
 | a::r=>a.free&&Item.frees r
end
def Item.Om(P:Int):∀its:List Item,Item.g6 P its=(its.map (Item.fZ P)).reverse
 | []=>rfl
 | a::r=>by rw[Item.g6,Item.Om P r,fN,zI]
def Item.Oo:∀its:List Item,Item.frees its=its.all Item.free
 | []=>rfl
 | a::r=>by rw[Item.frees,Item.Oo r,zQ]
def Item.YZ{a b:List Item}{k:Nat}:Item.bD (a++b)<=k↔Item.bD a<=k/\Item.bD b<=k:=by
 rw[Item.jQ,Item.jQ,Item.jQ]
 exact⟨λh=>⟨λx hx=>h x (kH _ hx),λx hx=>h x (dW _ hx)⟩,λh x hx=>(List.mem_append.mp hx).elim (h.1 x) (h.2 x)⟩
mutual
def Item.Y0(P:Int):∀a:Item,(a.fZ P).deep<=a.deep
 | .set x f=>by simp[Item.fZ,Item.deep]
 | .again n its=>by
   have:=Item.By P its
   simp only[Item.fZ]
   split
   ·simp only[Item.deep,Item.bD];lia
   ·simp only[Item.deep];lia
def Item.By(P:Int):∀its:List Item,Item.bD (Item.g6 P its)<=Item.bD its
 | []=>by simp[Item.g6]
 | a::r=>by
   have h1:=Item.Y0 P a
   have h2:=Item.By P r
   rw[Item.g6]
   refine Item.YZ.mpr ⟨?_,?_⟩
   ·refine fG h2 ?_
    exact Item.jQ.mpr λb hb=>Item.jQ.mp (a9 (Item.bD (a::r))) b (ft _ hb)
   ·refine Item.jQ.mpr λb hb=>?_
    rw[List.mem_singleton.mp hb]
    exact fG h1 (Item.jQ.mp (a9 (Item.bD (a::r))) a gj)
end
mutual
def Item.Y1{P:Int}{m:Nat}(hD:eM P=false)(p1:3<=P)(p2:P<=9973):∀a:Item,a.ok P m->a.free=true->(a.fZ P).ok P m/\g0 P m (a.tab P m) ((a.fZ P).tab P m)
 | .set x f,ho,hf=>by
   have hp:1<P:=by lia
   simp only[Item.ok] at ho
   simp only[Item.free,bne_iff_ne] at hf
   obtain⟨y,rfl⟩:∃y:Nat,x=(y:Int):=⟨x.toNat,by lia⟩
   rw[mG] at hf
   have hv:=ni (show 0<P by lia) ho.2.2.2 y
   obtain⟨b0,b1,b2,b3⟩:=Of hD p1 p2 hv.1 hv.2 hf
   have tO:dt P (gQ P y f):=dt.set (YQ (by lia)) (Int.le_of_lt b1) b2
   have FN:=EG (m:=m) (x:=y) (f:=f) hp ⟨ho.2.2.2,by lia⟩
   have Y2:=EG (m:=m) (x:=y) (f:=gQ P y f) hp ⟨tO,by rw[Og];lia⟩
   refine⟨?_,?_⟩
   ·simp only[Item.fZ,Item.ok,mG]
    exact⟨ho.1,ho.2.1,by rw[Og];exact ho.2.2.1,tO⟩
   ·show g0 P m ((fe m).set (y:Int).toNat f) ((fe m).set (y:Int).toNat (gQ P (y:Int).toNat f))
    rw[mG]
    refine g0.YX hp FN Y2 (λs hs so=>?_) λs hs so=>?_
    ·have w0:=mY (w:=aV f s) (show 0<P by lia)
     have w1:=mZ (w:=aV f s) (show 0<P by lia)
     rw[Bx hs so,Bx (by rw[gp];exact hs) (dt.set so w0 w1)]
     exact YV (by lia) b3 (by lia) (by lia) so
    ·have w0:=mY (w:=aV (gQ P y f) s) (show 0<P by lia)
     have w1:=mZ (w:=aV (gQ P y f) s) (show 0<P by lia)
     rw[Bx hs so,Bx (by rw[gp];exact hs) (dt.set so w0 w1)]
     exact YW (by lia) b3 (by lia) (by lia) so
 | .again n its,ho,hf=>by
   have hp:1<P:=by lia
   simp only[Item.ok] at ho
   simp only[Item.free,CZ,beq_iff_eq] at hf
   by_cases q:n=0
   ·subst q
    simp only[Item.fZ,if_true,Item.ok,Item.bE,Item.tab,Int.toNat_zero,cX]
    exact⟨⟨by lia,by decide,trivial⟩,g0.idle hp⟩
   ·obtain⟨h1,h2⟩:=Item.Bz hD p1 p2 its ho.2.2 (hf.resolve_left q)
    simp only[Item.fZ,if_neg q,Item.ok,Item.tab]
    exact⟨⟨ho.1,ho.2.1,h1⟩,g0.pow hp (Item.tabs_ok hp its ho.2.2) (Item.tabs_ok hp _ h1) h2 _⟩
def Item.Bz{P:Int}{m:Nat}(hD:eM P=false)(p1:3<=P)(p2:P<=9973):∀its:List Item,Item.bE P m its->Item.frees its=true->Item.bE P m (Item.g6 P its)/\g0 P m (Item.tabs P m its) (Item.tabs P m (Item.g6 P its))
 | [],_,_=>⟨trivial,g0.idle (by lia)⟩
 | a::r,ho,hf=>by
   have hp:1<P:=by lia
   simp only[Item.bE] at ho
   simp only[Item.frees,i0] at hf
   obtain⟨a1,a2⟩:=Item.Y1 hD p1 p2 a ho.1 hf.1
   obtain⟨r1,r2⟩:=Item.Bz hD p1 p2 r ho.2 hf.2
   have o1:Item.bE P m [a.fZ P]:=by simp only[Item.bE];exact⟨a1,trivial⟩
   rw[Item.g6,Item.EH hp r1 o1,Item.Nj hp a1]
   exact⟨Item.Ni.mpr ⟨r1,o1⟩,g0.comp hp (Item.vv hp a ho.1) (Item.vv hp _ a1) (Item.tabs_ok hp r ho.2) (Item.tabs_ok hp _ r1) a2 r2⟩
end
end L3
namespace L3
open PySem
local macro_rules | `(tactic| walk_at "evs") => wkL " L3.y2f L3.z6u L3.s_on L3.z4b L3.z7q L3.z7t L3.z7v L3.z5w L3.z6o L3.z7x L3.z4t L3.z7h L3.dInt L3.y8t L3.x0w L3.y4b L3.Item.d L3.Item.ds_map L3.z7a L3.x1m L3.x1n L3.y6x L3.y1g L3.y5q L3.y8s L3.y1c L3.y0i L3.D.isNon L3.gRev L3.z9w L3.z8i L3.y2n"
def vJ{g:G->R D}{Γ:G}{c:Er}(h:g Γ = .er c):aY g Γ = .ok (.ex c Γ):=by unfold aY;rw[h];rfl
def Y3{f:List D->R D}{a:G->R D}{Γ:G}{d:D}(h:a Γ = .ok d):ay f (ae a ao) Γ=f [d]:=by unfold ay ae ao;rw[h];rfl
def Y4{f:List D->R D}{a:G->R D}{Γ:G}{c:Er}(h:a Γ = .er c):ay f (ae a ao) Γ = .er c:=by unfold ay ae ao;rw[h];rfl
def Y5{P:Int}{y m:Nat}{f:List Int}(hD:eM P=false)(p1:3<=P)(p2:P<=9973)(hf:dt P f)(hl:f.length=m+1)(hm:m<=3)(hy:y<m)(hv:vec f y≠0):FE [.int P,.int y,aZ f] = .ok (aZ (gQ P y f)):=by
 have v:0<=vec f y/\vec f y<P:=ni (show 0<P by lia) hf y
 obtain⟨b0,b1,b2,b3⟩:=Of hD p1 p2 v.1 v.2 hv
 have va:=FD (r:=f) (p:=y) (by lia)
 refine b7 rfl ?_
 delta Ob
 refine cu (d:=.int (gM P (vec f y))) (by
  simp only[ku]
  walk_at "evs"
  simp only[aF,va]
  walk_at "evs"
  simp only[b0]
  walk_at "evs") ?_
 have fb:mQ (-(gM P (vec f y))):=DH (by lia)
 have et:=YS (P:=P) (r:=f) (c:=-(gM P (vec f y))) (by lia) fb (by lia)
 have lt:(om P f (-(gM P (vec f y)))).length=m+1:=by rw[FA,hl]
 have nt:=jI (om P f (-(gM P (vec f y))))
 refine iP (ds:=(om P f (-(gM P (vec f y)))).map D.int) (by
  simp only[ku] at et ⊢
  walk_at "evs"
  simp only[et]
  walk_at "evs") ?_
 refine gJ (DX (n:=y) (j:=(y:Int)) (d:=.int (gM P (vec f y))) rfl (by walk_at "evs") (by walk_at "evs") ?_) ?_
 ·rw[aX,lt]
  unfold jr
  simp
  lia
 ·refine bT ?_
  have e:((om P f (-(gM P (vec f y)))).map D.int).set y (.int (gM P (vec f y)))=(gQ P y f).map D.int:=by
   unfold gQ;rw[SQ]
  simp only[ku,<-e]
  walk_at "evs"
def Y6{P:Int}{y m:Nat}{f:List Int}(hD:eM P=false)(p1:3<=P)(p2:P<=9973)(hf:dt P f)(hl:f.length=m+1)(hm:m<=3)(hy:y<m):FG [.int P,.int y,aZ f]=if (Item.set y f).free=true then .ok ((Item.set y f).fZ P).d else .er .gO:=by
 have va:=FD (r:=f) (p:=y) (by lia)
 by_cases q:vec f y=0
 ·rw[if_neg (by simp[Item.free,q])]
  apply mX rfl
  delta FF
  refine sY (gK (by
   simp only[ku]
   walk_at "evs"
   simp only[aF,va,q]
   walk_at "evs"
   try rfl) rfl)
 ·rw[if_pos (by simp[Item.free,q])]
  have ef:=Y5 hD p1 p2 hf hl hm hy q
  have bq:(vec f y==0)=false:=by simp[q]
  refine b7 rfl ?_
  delta FF
  refine c_ (by
   simp only[ku]
   walk_at "evs"
   simp only[aF,va]
   walk_at "evs"
   simp only[bq]) (bT ?_)
  walk_at "evs"
  simp only[ef]
  walk_at "evs"
  simp only[Item.fZ,Item.d,mG]
  try rfl
def Oq{g:Item->Bool}{h:Item->D}{F:D->R (Option D)}:∀{its:List Item} {acc:List D},(∀a∈its,F a.d=if g a=true then .ok (some (h a)) else .er .gO)->j9 F (its.map Item.d) acc=if its.all g=true then .ok (acc++its.map h) else .er .gO
 | [],acc,_=>by simp[j9]
 | a::r,acc,q=>by
   have ha:=q a gj
   have ih:=λacc=>Oq (its:=r) (acc:=acc) λb hb=>q b (ft _ hb)
   rw[fN,j9]
   cases e:g a with
   | false=>rw[e] at ha;simp[ha,e]
   | true =>
     rw[e,if_pos rfl] at ha
     simp only[ha,ih,zQ,e,SU]
     simp
def FO{P:Int}{m:Nat}(hD:eM P=false)(p1:3<=P)(p2:P<=9973)(hm:m<=3):∀(k:Nat) (its:List Item),3*Item.bD its+3<=k->its.length<=1000->Item.aQ its<=1000->Item.bE P m its->oo k [.int P,.int m,.tup (its.map Item.d)]=if Item.frees its=true then .ok (.tup ((Item.g6 P its).map Item.d)) else .er .gO
 | 0,_,h,_,_,_=>by lia
 | 1,_,h,_,_,_=>by lia
 | 2,_,h,_,_,_=>by lia
 | k+3,its,h,hl,Y7,ho=>by
   have one:∀a∈its,lj (k+2) [.int P,.int m,a.d]=if a.free=true then .ok (a.fZ P).d else .er .gO:=λa ha=>by
    have cI:=Item.i9.mp ho a ha
    show bA 3 3 (vI (oo (k+1)) (rW (k+1)) (lj (k+1))) _=_
    cases a with
    | set x f =>
      simp only[Item.ok] at cI
      obtain⟨y,rfl⟩:∃y:Nat,x=(y:Int):=⟨x.toNat,by lia⟩
      have es:=Y6 (y:=y) (m:=m) hD p1 p2 cI.2.2.2 (by lia) hm (by lia)
      by_cases hg:(Item.set (y:Int) f).free=true
      ·rw[if_pos hg] at es ⊢
       generalize ((Item.set (y:Int) f).fZ P).d=dd at es ⊢
       refine b7 rfl ?_
       unfold vI
       refine l8 (gK (by walk_at "evs") (bT ?_))
       walk_at "evs"
       simp only[es]
      ·rw[if_neg hg] at es ⊢
       apply mX rfl
       unfold vI
       refine sY (gK (by walk_at "evs") (vJ ?_))
       walk_at "evs"
       simp only[es]
    | again n i =>
      have h1:=Item.jQ.mp (a9 (Item.bD its)) _ ha
      have h2:=Item.rN ha
      have h3:=Item.oh i
      simp only[Item.deep] at h1
      simp only[Item.many] at h2
      simp only[Item.ok] at cI
      have eg:rW (k+1) [.int P,.int m,.int n,.tup (i.map Item.d)]=if (Item.again n i).free=true then .ok ((Item.again n i).fZ P).d else .er .gO:=by
       show bA 4 4 (yw (oo k) (rW k) (lj k)) _=_
       by_cases q:n=0
       ·subst q
        rw[if_pos (by simp[Item.free])]
        refine b7 rfl ?_
        unfold yw
        refine l8 (gK (by walk_at "evs";try rfl) (bT ?_))
        simp only[Item.fZ,if_true]
        walk_at "evs"
        try rfl
       ·have ih:=FO hD p1 p2 hm k i (by lia) (by lia) (by lia) cI.2.2
        have bq:(n==0)=false:=by simp[q]
        have ef:(Item.again n i).free=Item.frees i:=by simp[Item.free,bq]
        rw[ef]
        by_cases hg:Item.frees i=true
        ·rw[if_pos hg] at ih ⊢
         have nI:=rO (Item.g6 P i)
         refine b7 rfl ?_
         unfold yw
         refine c_ (by walk_at "evs";simp only[bq]) (bT ?_)
         walk_at "evs"
         simp only[ih]
         walk_at "evs"
         simp only[Item.fZ,if_neg q,Item.d,Item.ds_map]
         try rfl
        ·rw[if_neg hg] at ih ⊢
         apply mX rfl
         unfold yw
         refine c_ (by walk_at "evs";simp only[bq]) (vJ ?_)
         walk_at "evs"
         simp only[ih]
         try rfl
      by_cases hg:(Item.again n i).free=true
      ·rw[if_pos hg] at eg ⊢
       generalize ((Item.again n i).fZ P).d=dd at eg ⊢
       refine b7 rfl ?_
       unfold vI
       refine c_ (by walk_at "evs") (bT ?_)
       walk_at "evs"
       simp only[eg]
      ·rw[if_neg hg] at eg ⊢
       apply mX rfl
       unfold vI
       refine c_ (by walk_at "evs") (vJ ?_)
       walk_at "evs"
       simp only[eg]
       try rfl
   show bA 3 3 (Bw (oo (k+2)) (rW (k+2)) (lj (k+2))) _=_
   have nI:=Item.Bh its
   have ec:j9 (λd=>(do let e <-aG (ay (lj (k+2)) (ae (gV 1) (ae (gV 2) (ae (gV 0) ao)))) [.ro d,.ro (.int P),.ro (.int m),.ro (.tup (its.map Item.d))];R.ok (some e))) (its.reverse.map Item.d) []=if its.reverse.all Item.free=true then .ok ([]++its.reverse.map λa=>(a.fZ P).d) else .er .gO:=by
    refine Oq λa ha=>?_
    have e1:=one a (List.mem_reverse.mp ha)
    have nu:=Item.cE (a.fZ P)
    have e2:ay (lj (k+2)) (ae (gV 1) (ae (gV 2) (ae (gV 0) ao))) [.ro a.d,.ro (.int P),.ro (.int m),.ro (.tup (its.map Item.d))]=lj (k+2) [.int P,.int m,a.d]:=rfl
    unfold aG
    rw[e2,e1]
    by_cases hg:a.free=true
    ·rw[if_pos hg,if_pos hg]
     generalize (a.fZ P).d=dd at nu ⊢
     walk_at "evs"
    ·rw[if_neg hg,if_neg hg];rfl
   rw[List.all_reverse,<-Item.Oo] at ec
   have er:(its.map Item.d).reverse=its.reverse.map Item.d:=by rw[S9]
   have gr:gRev (gV 2) [.ro (.int P),.ro (.int m),.ro (.tup (its.map Item.d))] = .ok (its.reverse.map Item.d):=by
    walk_at "evs"
    rw[<-er]
   have gc:z9w (gRev (gV 2)) (dr (aG (ay (lj (k+2)) (ae (gV 1) (ae (gV 2) (ae (gV 0) ao)))))) [.ro (.int P),.ro (.int m),.ro (.tup (its.map Item.d))]=if Item.frees its=true then .ok ([]++its.reverse.map λa=>(a.fZ P).d) else .er .gO:=by
    unfold z9w
    rw[gr,<-ec]
    exact R.guard_pos (by rw[aX,qT];lia)
   have eu:(its.reverse.map λa=>(a.fZ P).d)=(Item.g6 P its).map Item.d:=by
    rw[Item.Om,S9,S9,i4];rfl
   rw[eu] at gc
   by_cases hg:Item.frees its=true
   ·rw[if_pos hg] at gc ⊢
    refine b7 rfl ?_
    delta Bw
    refine bT ?_
    have e3:gL (z9w (gRev (gV 2)) (dr (aG (ay (lj (k+2)) (ae (gV 1) (ae (gV 2) (ae (gV 0) ao))))))) [.ro (.int P),.ro (.int m),.ro (.tup (its.map Item.d))] = .ok (.lst ((Item.g6 P its).map Item.d)):=by
     unfold gL;rw[gc];rfl
    refine(Y3 e3).trans ?_
    try walk_at "evs"
    try rfl
   ·rw[if_neg hg] at gc ⊢
    apply mX rfl
    delta Bw
    refine vJ ?_
    have e3:gL (z9w (gRev (gV 2)) (dr (aG (ay (lj (k+2)) (ae (gV 1) (ae (gV 2) (ae (gV 0) ao))))))) [.ro (.int P),.ro (.int m),.ro (.tup (its.map Item.d))] = .er .gO:=by
     unfold gL;rw[gc];rfl
    exact Y4 e3
mutual
def Item.lp:Item->Option (List Int)
 | .set x f=>if vec f x.toNat=0 then some [] else none
 | .again n i=>if 0<n then Item.f_ 0 i else none
def Item.f_(j:Nat):List Item->Option (List Int)
 | []=>none
 | a::r=>match a.lp with
   | some p=>some ((j:Int)::p)
   | none=>Item.f_ (j+1) r
end
def Item.FP:∀(its:List Item) (j:Nat),Item.f_ j its=(eW its.length).findSome? λ(i:Nat)=>(its[i]?.bind Item.lp).map λp=>(((j+i:Nat)):Int)::p
 | [],j=>rfl
 | a::r,j=>by
   rw[Item.f_,b6,Km,Kw]
   simp only[List.getElem?_cons_zero,S_,SW]
   cases q:a.lp with
   | some p=>rfl
   | none =>
     simp only[Option.map_none]
     rw[Item.FP r (j+1),List.findSome?_map]
     congr 1
     funext i
     show _=((a::r)[i+1]?.bind Item.lp).map λp=>(((j+(i+1):Nat)):Int)::p
     rw[a5l,show j+1+i=j+(i+1) by lia]
mutual
def Item.Y8{P many:Int}:∀a:Item,a.ok P many->(a.lp=none↔a.free=true)
 | .set x f,_=>by
   simp only[Item.lp,Item.free]
   by_cases q:vec f x.toNat=0
   ·simp[q]
   ·simp[q]
 | .again n i,ho=>by
   simp only[Item.ok] at ho
   have ih:=Item.FQ 0 i ho.2.2
   simp only[Item.lp,Item.free]
   by_cases q:n=0
   ·subst q;simp
   ·rw[if_pos (by lia),ih];simp[q]
def Item.FQ{P many:Int}(j:Nat):∀its:List Item,Item.bE P many its->(Item.f_ j its=none↔Item.frees its=true)
 | [],_=>by simp[Item.f_,Item.frees]
 | a::r,ho=>by
   simp only[Item.bE] at ho
   have h1:=Item.Y8 a ho.1
   have h2:=Item.FQ (j+1) r ho.2
   rw[Item.f_,Item.frees]
   cases q:a.lp with
   | some p =>
     rw[q] at h1
     have:¬a.free=true:=λz=>by have:=h1.mpr z;cases this
     simp[this]
   | none =>
     rw[q] at h1
     simp only[h2,h1.mp rfl,SU]
end
def Item.FR{j:Nat}:∀{its:List Item} {q:List Int},Item.f_ j its=some q->q≠[]
 | [],q,h=>by simp[Item.f_] at h
 | a::r,q,h=>by
   rw[Item.f_] at h
   cases e:a.lp with
   | some p=>rw[e] at h;cases h;simp
   | none=>rw[e] at h;exact Item.FR (its:=r) h
def Y9{its:List Item}{j:Nat}{a:Item}(h:its[j]? = some a):c5 (its.map Item.d) (j:Int)=some a.d:=by
 rw[AF (by lia),e8,mG,h];rfl
def Item.Y_{j:Nat}:∀{its:List Item} {q:List Int},Item.f_ j its=some q->q.length<=Item.bD its+1:=by
 suffices h:(∀(a:Item) {q:List Int},a.lp=some q->q.length<=a.deep)/\∀(its:List Item) {j:Nat} {q:List Int},Item.f_ j its=some q->q.length<=Item.bD its+1 from λ{its q}=>h.2 its
 refine⟨?_,?_⟩
 ·intro a
  refine Item.rec (motive_1:=λa=>∀{q:List Int},a.lp=some q->q.length<=a.deep) (motive_2:=λits=>∀{j:Nat} {q:List Int},Item.f_ j its=some q->q.length<=Item.bD its+1) ?_ ?_ ?_ ?_ a
  ·intro x f q h
   simp only[Item.lp] at h
   split at h
   ·cases h;simp
   ·cases h
  ·intro n i ih q h
   simp only[Item.lp] at h
   split at h
   ·have:=ih h;simp only[Item.deep];lia
   ·cases h
  ·intro j q h;simp[Item.f_] at h
  ·intro a r h1 h2 j q h
   rw[Item.f_] at h
   have hd:Item.bD (a::r)=max a.deep (Item.bD r):=rfl
   cases e:a.lp with
   | some p=>rw[e] at h;cases h;have:=h1 e;rw[b6];lia
   | none=>rw[e] at h;have:=h2 h;lia
 ·intro its
  refine Item.rec_1 (motive_1:=λa=>∀{q:List Int},a.lp=some q->q.length<=a.deep) (motive_2:=λits=>∀{j:Nat} {q:List Int},Item.f_ j its=some q->q.length<=Item.bD its+1) ?_ ?_ ?_ ?_ its
  ·intro x f q h
   simp only[Item.lp] at h
   split at h
   ·cases h;simp
   ·cases h
  ·intro n i ih q h
   simp only[Item.lp] at h
   split at h
   ·have:=ih h;simp only[Item.deep];lia
   ·cases h
  ·intro j q h;simp[Item.f_] at h
  ·intro a r h1 h2 j q h
   rw[Item.f_] at h
   have hd:Item.bD (a::r)=max a.deep (Item.bD r):=rfl
   cases e:a.lp with
   | some p=>rw[e] at h;cases h;have:=h1 e;rw[b6];lia
   | none=>rw[e] at h;have:=h2 h;lia
def Ot{P:Int}{m:Nat}:∀(k:Nat) (its:List Item),Item.bD its<k->Item.bD its<=20->Item.aQ its<=1000->Item.bE P m its->tN k [.tup (its.map Item.d)] = .ok (aZ ((Item.f_ 0 its).getD []))
 | 0,_,h,_,_,_=>by lia
 | k+1,its,h,hdp,Y7,ho=>by
   show bA 1 3 (FK (tN k)) _=_
   refine b7 rfl ?_
   delta FK
   have hl:=Item.oh its
   refine YU (eW its.length) (λ(i:Nat)=>D.int (0+(i:Int))) (λ(i:Nat)=>((its[i]?.bind Item.lp).map λp=>(((0+i:Nat)):Int)::p).map aZ) (λΓ=>∃x1 x2,Γ=[.ro (.tup (its.map Item.d)),x1,x2]) ?_ ⟨_,_,rfl⟩ ?_ ?_ ?_
   ·walk_at "evs"
    rfl
   ·rintro j hj Γ ⟨x1,x2,rfl⟩
    have Ou:=List.mem_range.mp hj
    have ea:its[j]? = some its[j]:=fu Ou
    have ha:its[j]∈its:=oS Ou
    generalize its[j]=a at ea ha
    have cI:=Item.i9.mp ho a ha
    have ai:=Y9 ea
    simp only[ea,S_,qS,uE]
    cases a with
    | set x f =>
      simp only[Item.ok] at cI
      obtain⟨y,rfl⟩:∃y:Nat,x=(y:Int):=⟨x.toNat,by lia⟩
      have va:=FD (r:=f) (p:=y) (by lia)
      simp only[Item.lp,mG]
      by_cases q:vec f y=0
      ·rw[if_pos q]
       refine .inr ⟨_,rfl,l8 (gK ?_ (bT ?_))⟩
       ·walk_at "evs"
        simp only[aF,ai,Item.d]
        walk_at "evs"
        simp only[ku,va,q]
        walk_at "evs"
        try rfl
       ·walk_at "evs"
        try rfl
      ·rw[if_neg q]
       have bq:(vec f y==0)=false:=by simp[q]
       refine .inl ⟨rfl,_,c_ ?_ (mW ?_),⟨_,_,rfl⟩⟩
       ·walk_at "evs"
        simp only[aF,ai,Item.d]
        walk_at "evs"
        simp only[ku,va]
        walk_at "evs"
        simp only[bq]
        try walk_at "evs"
       ·walk_at "evs"
        simp only[aF,ai,Item.d]
        walk_at "evs"
    | again n i =>
      have h1:=Item.jQ.mp (a9 (Item.bD its)) _ ha
      have h2:=Item.rN ha
      simp only[Item.deep] at h1
      simp only[Item.many] at h2
      simp only[Item.ok] at cI
      simp only[Item.lp]
      have c1:∀Γ:G,jt (gT (aj cS (aj aF (aj aF (gV 0) (gV 1)) (gC (.int 0))) (gC (.str "set")))) (gT (aj cS (aj aF (aj aF (aj aF (gV 0) (gV 1)) (gC (.int 2))) (aj aF (aj aF (gV 0) (gV 1)) (gC (.int 1)))) (gC (.int 0)))) (.ro (.tup (its.map Item.d)) :: .ro (.int (j:Int))::Γ) = .ok false:=λΓ=>by
       walk_at "evs"
       simp only[aF,ai,Item.d]
       walk_at "evs"
      by_cases q:0<n
      ·have ih:=Ot k i (by lia) (by lia) (by lia) cI.2.2
       have dq:decide (0<n)=true:=decide_eq_true q
       rw[if_pos q]
       have c2:∀Γ:G,jt (gT (aj cS (aj aF (aj aF (gV 0) (gV 1)) (gC (.int 0))) (gC (.str "again")))) (gT (aj o8 (aj aF (aj aF (gV 0) (gV 1)) (gC (.int 1))) (gC (.int 0)))) (.ro (.tup (its.map Item.d)) :: .ro (.int (j:Int))::Γ) = .ok true:=λΓ=>by
        walk_at "evs"
        simp only[aF,ai,Item.d]
        walk_at "evs"
        try simp only[dq]
       have s2:∀x2:En,aG (ay (tN k) (ae (aj aF (aj aF (gV 0) (gV 1)) (gC (.int 2))) ao)) [.ro (.tup (its.map Item.d)),.ro (.int (j:Int)),x2] = .ok (aZ ((Item.f_ 0 i).getD [])):=λx2=>by
        walk_at "evs"
        simp only[aF,ai,Item.d,Item.ds_map]
        walk_at "evs"
        simp only[ih]
        walk_at "evs"
       cases e:Item.f_ 0 i with
       | none =>
         rw[e] at s2
         refine .inl ⟨rfl,_,c_ (c1 _) (gK (c2 _) (cu (s2 _) (mW ?_))),⟨_,_,rfl⟩⟩
         have Za:D.lay 40 (.tup [])=true:=z5w 39 []
         have eq2:bO (.tup []) (.tup [])=true:=by
          have:=z6o [] []
          rw[decide_eq_true rfl] at this
          exact this
         simp only[Ke,ku,pT]
         walk_at "evs"
         rw[eq2]
         try rfl
       | some p =>
         rw[e] at s2
         have bS:=Item.FR e
         have hlp:=Item.Y_ e
         refine .inr ⟨_,rfl,c_ (c1 _) (gK (c2 _) (cu (s2 _) (gK ?_ (bT ?_))))⟩
         ·have:bO (aZ p) (.tup [])=false:=by
           have:=z6o p []
           rw[decide_eq_false bS] at this
           exact this
          have ly:=z5w 39 p
          have Za:D.lay 40 (.tup [])=true:=z5w 39 []
          simp only[CQ]
          walk_at "evs"
          rw[this]
          try rfl
         ·simp only[CQ,ku]
          walk_at "evs"
      ·rw[if_neg q]
       have dq:decide (0<n)=false:=decide_eq_false q
       refine .inl ⟨rfl,_,c_ (c1 _) (mW ?_),⟨_,_,rfl⟩⟩
       walk_at "evs"
       simp only[aF,ai,Item.d]
       walk_at "evs"
       try simp only[dq]
   ·rintro hN Γ ⟨x1,x2,rfl⟩
    refine bT ?_
    have:Item.f_ 0 its=none:=by
     rw[Item.FP]
     rw[List.findSome?_eq_none_iff] at hN ⊢
     intro x hx
     have:=hN x hx
     cases q:(its[x]?.bind Item.lp) with
     | none=>rfl
     | some p=>rw[q] at this;cases this
    rw[this]
    walk_at "evs"
    rfl
   ·intro v hv
    have:(Item.f_ 0 its).map aZ=some v:=by
     rw[Item.FP,<-hv,List.map_findSome?]
     rfl
    cases q:Item.f_ 0 its with
    | none=>rw[q] at this;cases this
    | some p=>rw[q] at this;cases this;rfl
noncomputable section
def FT:G->R Fl :=
 (aC (bU (jJ (gT (aj eG (ay c9 (ae (gV 2) ao)) (gV 1))) (jK (gT (ay n7 (ae (gL (c8 (fQ (gV 2)) (dr (aG (ay (gv pf) (ae (gV 0) (ae (gC (.int 0)) (ae (aj kS (gV 1) (gC (.int 1))) ao)))))))) ao))))) (iw .dZ) cF)
 (aY (ay eK (ae (gV 2) ao))))
def BA:List D->R D:=bA 3 3 FT
def BB:G->R Fl :=
 (aC (a6 3 (aG (ay rV (ae (gV 0) ao))))
 (aC (a6 4 (aG (aj aF (gV 3) (gC (.int 0)))))
 (aC (a6 5 (aG (ay c9 (ae (aj aF (gV 3) (gC (.int 1))) ao))))
 (aY (la " " (gL (gx yj (ae (ay Bg (ae (gV 4) (ae (gV 5) (ae (aj aF (gV 3) (gC (.int 2))) (ae (gV 1) (ae (ay BA (ae (gV 4) (ae (gV 5) (ae (gV 2) ao)))) ao)))))) ao))))))))
def qp:List D->R D:=bA 3 6 BB
def BC:G->R Fl :=
 (aC (a6 1 (aG (ay rV (ae (gV 0) ao))))
 (aC (a6 2 (aG (aj aF (gV 1) (gC (.int 0)))))
 (aC (a6 3 (aG (aj aF (gV 1) (gC (.int 1)))))
 (aY (ay Fj (ae (gV 2) (ae (gV 3) (ae (ay (oo 12) (ae (gV 2) (ae (ay c9 (ae (gV 3) ao)) (ae (aj aF (gV 1) (gC (.int 2))) ao)))) ao))))))))
def vK:List D->R D:=bA 1 4 BC
end
end L3
namespace L3
open PySem
local macro_rules | `(tactic| walk_at "evs") => wkL " L3.y2f L3.z6u L3.s_on L3.z4b L3.z7q L3.z7t L3.z7v L3.z5w L3.z6o L3.z7x L3.z4t L3.z7h L3.dInt L3.y8t L3.x0w L3.y4b L3.Item.d L3.Item.ds_map L3.z7a L3.x1m L3.x1n L3.y6x L3.y1g L3.y5q L3.y8s L3.y1c L3.y0i L3.D.isNon L3.gRev L3.z9w L3.z8i L3.y2n L3.z9c L3.x4r L3.dInS L3.dIxS L3.y3y L3.y0j L3.dIn L3.z9o L3.gNoX L3.y7i"
def BD{x:Str}:dn x=true↔∀z∈x.cps.toList,z<0x110000:=by
 unfold dn
 rw[<-SY,mF]
 exact⟨λh z hz=>by simpa using h z hz,λh z hz=>by simpa using h z hz⟩
def Ov{ws:List Str}(h:∀w∈ws,dn w=true):dn (cG ws)=true:=by
 rw[BD]
 intro z hz
 rw[Bu] at hz
 rcases Bt 32 hz with rfl | ⟨y,hy,oq⟩
 ·decide
 ·exact BD.mp (h y hy) z oq
def Zb{P:Int}{f:List Int}(ho:dt P f):dn (cG (f.map aW))=true:=Ov λw hw=>by
 obtain⟨v,hv,rfl⟩:=List.mem_map.mp hw
 exact yp (ho v hv).1
def Ow{P:Int}{f:List Int}(hP:P<=9999)(ho:dt P f):∀w∈f.map aW,iS w:=λw hw=>by
 obtain⟨v,hv,rfl⟩:=List.mem_map.mp hw
 have:=ho v hv
 exact Br this.1 (by lia)
def Zc{P:Int}{f:List Int}{Γ:G}{g:G->R D}(hP:P<=9999)(ho:dt P f)(hl:f.length<=100)(hg:g Γ = .ok (aZ f)):c8 (fQ g) (dr (aG (ay k_ (ae (gV 0) ao)))) Γ = .ok ((f.map aW).map D.str):=by
 unfold c8
 have nf:D.bC (f.map D.int)=true:=jI f
 rw[show fQ g Γ = .ok (f.map D.int) by unfold fQ;rw[hg];simp only[R.cz,aZ,o9,bH nf]]
 show R.guard _ _=_
 rw[bH (by rw[aX];lia),i4]
 refine j8 λv hv=>?_
 have ov:=ho v hv
 have e:=tJ ov.1 (show v<=10^30 by lia)
 simp only[dr,aG,ay,ae,ao,gV,fP,R.cz,e]
 walk_at "evs"
 try rfl
def Zd{P:Int}{m:Nat}{s:List Int}(l:Bool)(hs:s.length=m)(so:dt P s)(m3:m<=3):BA [.int P,.int m,dh l (s.map D.int)] = .ok (aZ s):=by
 refine b7 rfl ?_
 delta FT
 have el:c9 [dh l (s.map D.int)] = .ok (.int (m:Int)):=by
  unfold dh
  cases l<;>simp only[if_true,if_false,oU,c9,aX,hs]
 have nf:D.bC (s.map D.int)=true:=jI s
 have es:fQ (gV 2) [En.ro (.int P),.ro (.int m),.ro (dh l (s.map D.int))] = .ok (s.map D.int):=by
  unfold dh
  cases l<;>simp only[if_true,if_false,oU,fQ,gV,fP,gY,R.cz,o9,bH nf]
 have ec:c8 (fQ (gV 2)) (dr (aG (ay (gv pf) (ae (gV 0) (ae (gC (.int 0)) (ae (aj kS (gV 1) (gC (.int 1))) ao)))))) [En.ro (.int P),.ro (.int m),.ro (dh l (s.map D.int))] = .ok ((s.map λ_=>true).map D.bl):=by
  unfold c8
  rw[es]
  show R.guard _ _=_
  rw[bH (by rw[aX];lia),i4]
  refine j8 λv hv=>?_
  have ov:=so v hv
  have ef:=vq (d:=.int v) (a:=0) (b:=P-1) rfl
  have Ze:lb (.int v) 0 (P-1)=true:=by simp only[lb,i0,decide_eq_true_eq];lia
  rw[Ze] at ef
  walk_at "evs"
  simp only[ef]
  walk_at "evs"
  try rfl
 refine c_ (pw (fK (cN (a:=.int (m:Int)) (b:=.int (m:Int)) (cV (ds:=[dh l (s.map D.int)]) rfl el) rfl ?_)) (vG (b:=true) (fK (cV (ds:=[.lst ((s.map λ_=>true).map D.bl)]) (bP (gz ec) rfl) ?_)))) (bT (cV (ds:=[dh l (s.map D.int)]) rfl ?_))
 ·walk_at "evs"
  try simp
 ·rw[xO]
  simp
 ·unfold dh
  cases l<;>simp only[if_true,if_false,oU,eK,aZ]
def Zf{P:Int}{ns:List Str}{its:List Item}{n:Nat}{s:List Int}(l:Bool)(N:jy ns)(p1:3<=P)(p2:P<=9973)(hd:eM P=false)(d3:Item.bD its<=3)(hm:Item.aQ its<=30)(ho:Item.bE P ns.length its)(hs:s.length=ns.length)(so:dt P s)(hn:n<2^150) :
 qp [.str (fJ (b8 P ns its)),.int n,dh l (s.map D.int)] = .ok (.str (cG ((dH P (cX P ns.length (Item.tabs P ns.length its) n) s).map aW))):=by
 have l3:=N.l3
 have er:=Fx N p1 p2 hd d3 hm ho
 have ea:=Nm (n:=n) (s:=s) p1 p2 l3 (show Item.bD its<=5 by lia) ho hs hn
 have et:=Zd (P:=P) l hs so l3
 have FN:=Item.tabs_ok (show 1<P by lia) its ho
 have tl:=(lg (show 1<P by lia) FN n).1
 have el:=(tu P (cX P ns.length (Item.tabs P ns.length its) n) s).trans tl
 have eo:=Eh (show 0<P by lia) (cX P ns.length (Item.tabs P ns.length its) n) s
 generalize dH P (cX P ns.length (Item.tabs P ns.length its) n) s=e at *
 have ew:=NU (show P<=9999 by lia) eo (by lia)
 have nN:(bB false ns).cE=true:=by
  show(D.tup (ns.map D.str)).cE=true
  simp[D.cE,iR]
 have nI:=rO its
 have nT:(D.tup [.int P,bB false ns,.tup (its.map Item.d)]).cE=true:=by
  generalize bB false ns=a at *
  generalize D.tup (its.map Item.d)=b at *
  simp[D.cE,D.bC,nN,nI]
 have yx:c9 [bB false ns] = .ok (.int (ns.length:Int)):=by
  show c9 [.tup (ns.map D.str)]=_
  simp only[c9,aX]
 refine b7 rfl ?_
 delta BB
 generalize fJ (b8 P ns its)=T at *
 refine cu (d:=.tup [.int P,bB false ns,.tup (its.map Item.d)]) (eh (cV (ds:=[.str T]) rfl er) nT) ?_
 refine cu (d:=.int P) (eh (cN rfl rfl (Bl ..)) rfl) ?_
 refine cu (d:=.int (ns.length:Int)) (eh (cV (ds:=[bB false ns]) (bP (cN rfl rfl (rR ..)) rfl) yx) rfl) ?_
 refine bT (tK (yr (Ow (show P<=9999 by lia) eo) (by rw[aX];lia)) (gz (tM (ds:=[aZ e]) (bP ?_ rfl) ew)))
 refine cV (ds:=[.int P,.int (ns.length:Int),.tup (its.map Item.d),.int n,aZ s]) ?_ ea
 refine bP rfl (bP rfl (bP (cN rfl rfl (tE ..)) (bP rfl (bP (cV (ds:=[.int P,.int (ns.length:Int),dh l (s.map D.int)]) rfl et) rfl))))
mutual
def Item.Zg(P:Int):∀a:Item,(a.fZ P).many<=a.many
 | .set x f=>by simp[Item.fZ,Item.many]
 | .again n its=>by
   have:=Item.BE P its
   simp only[Item.fZ]
   split
   ·simp only[Item.many,Item.aQ];lia
   ·simp only[Item.many];lia
def Item.BE(P:Int):∀its:List Item,Item.aQ (Item.g6 P its)<=Item.aQ its
 | []=>by simp[Item.g6]
 | a::r=>by
   have h1:=Item.Zg P a
   have h2:=Item.BE P r
   rw[Item.g6,Item.og]
   simp only[Item.aQ]
   lia
end
def BF(ns:List Str):(bB false ns).cE=true:=by
 show(D.tup (ns.map D.str)).cE=true
 simp[D.cE,iR]
def Ox(P:Int)(ns:List Str)(its:List Item):(D.tup [.int P,bB false ns,.tup (its.map Item.d)]).cE=true:=by
 have nN:=BF ns
 have nI:=rO its
 generalize bB false ns=a at *
 generalize D.tup (its.map Item.d)=b at *
 simp[D.cE,D.bC,nN,nI]
def Oy(ns:List Str):c9 [bB false ns] = .ok (.int (ns.length:Int)):=by
 show c9 [.tup (ns.map D.str)]=_
 simp only[c9,aX]
def Oz{φ:List D->R D}{gs:G->R (List D)}{Γ:G}{c:Er}(h:gs Γ = .er c):ay φ gs Γ = .er c:=by unfold ay;rw[h];rfl
def FU{g:G->R D}{gs:G->R (List D)}{Γ:G}{c:Er}(h:g Γ = .er c):ae g gs Γ = .er c:=by unfold ae;rw[h];rfl
def vL{g:G->R D}{gs:G->R (List D)}{Γ:G}{d:D}{c:Er}(h:g Γ = .ok d)(h2:gs Γ = .er c):ae g gs Γ = .er c:=by unfold ae;rw[h,h2];rfl
def BG{g:G->R D}{Γ:G}{c:Er}(h:g Γ = .er c):aG g Γ = .er c:=by unfold aG;rw[h];rfl
def BH{i:Nat}{g:G->R D}{Γ:G}{c:Er}(h:g Γ = .er c):a6 i g Γ = .ok (.ex c Γ):=by unfold a6;rw[h];rfl
def Zh{P:Int}{ns:List Str}{its:List Item}(N:jy ns)(p1:3<=P)(p2:P<=9973)(hd:eM P=false)(d3:Item.bD its<=3)(hm:Item.aQ its<=30)(ho:Item.bE P ns.length its) :
 vK [.str (fJ (b8 P ns its))]=if Item.frees its=true then .ok (.str (fJ (b8 P ns (Item.g6 P its)))) else .er .gO:=by
 have l3:=N.l3
 have er:=Fx N p1 p2 hd d3 hm ho
 have hl:=Item.oh its
 have U:=FO hd p1 p2 l3 12 its (by lia) (by lia) (by lia) ho
 have nT:=Ox P ns its
 have yx:=Oy ns
 have ea:∀T,ae (gV 2) (ae (ay c9 (ae (gV 3) ao)) (ae (aj aF (gV 1) (gC (.int 2))) ao)) [En.ro (.str T),.ro (.tup [.int P,bB false ns,.tup (its.map Item.d)]),.ro (.int P),.ro (bB false ns)] = .ok [.int P,.int (ns.length:Int),.tup (its.map Item.d)]:=λT =>
  bP rfl (bP (cV (ds:=[bB false ns]) rfl yx) (bP (cN rfl rfl (tE ..)) rfl))
 by_cases hf:Item.frees its=true
 ·rw[if_pos hf] at U ⊢
  obtain⟨tO,_⟩:=Item.Bz hd p1 p2 its ho hf
  have dU:=Item.By P its
  have mU:=Item.BE P its
  have es:=Ys (l:=false) N (show 0<=P by lia) (show P<=9999 by lia) (show Item.aQ (Item.g6 P its)<=60 by lia) (show Item.bD (Item.g6 P its)<=4 by lia) tO
  refine b7 rfl ?_
  delta BC
  generalize fJ (b8 P ns its)=T at *
  refine cu (d:=.tup [.int P,bB false ns,.tup (its.map Item.d)]) (eh (cV (ds:=[.str T]) rfl er) nT) ?_
  refine cu (d:=.int P) (eh (cN rfl rfl (Bl ..)) rfl) ?_
  refine cu (d:=bB false ns) (eh (cN rfl rfl (rR ..)) (BF ns)) ?_
  exact bT (cV (ds:=[.int P,bB false ns,.tup ((Item.g6 P its).map Item.d)]) (bP rfl (bP rfl (bP (cV (ea T) U) rfl))) es)
 ·rw[if_neg hf] at U ⊢
  generalize fJ (b8 P ns its)=T at *
  refine mX (Γ:=[En.ro (.str T),.ro (.tup [.int P,bB false ns,.tup (its.map Item.d)]),.ro (.int P),.ro (bB false ns)]) rfl ?_
  delta BC
  refine cu (d:=.tup [.int P,bB false ns,.tup (its.map Item.d)]) (eh (cV (ds:=[.str T]) rfl er) nT) ?_
  refine cu (d:=.int P) (eh (cN rfl rfl (Bl ..)) rfl) ?_
  refine cu (d:=bB false ns) (eh (cN rfl rfl (rR ..)) (BF ns)) ?_
  exact vJ (Oz (vL (d:=.int P) rfl (vL (d:=bB false ns) rfl (FU (cV (ea T) U)))))
def OA(a b:Str):(a++b).cps.toList=a.cps.toList++b.cps.toList:=by rw[CN,a5k]
noncomputable section
end
noncomputable section
def FV:G->R Fl :=
 (aC (a6 1 (aG (gC (.str ""))))
 (aC (e_ 2 (b_ ao))
 (aC (rC 3 (a6 1 (aG (ay vK (ae (gV 0) ao)))) (e_ 2 (b_ (ae (rp 3 [.dZ]) (ae (rp 3 [.gO]) (ae (rp 3 [.xM]) ao))))))
 (aY (d_ (ae (gV 1) (ae (gV 2) ao)))))))
def BI:List D->R D:=bA 1 4 FV
def FW:G->R Fl :=
 (aC (a6 3 (aG (gC (.str ""))))
 (aC (e_ 4 (b_ ao))
 (aC (rC 5 (a6 3 (aG (ay qp (ae (gV 0) (ae (gV 1) (ae (gV 2) ao)))))) (e_ 4 (b_ (ae (rp 5 [.dZ]) (ae (rp 5 [.gO]) (ae (rp 5 [.xM]) ao))))))
 (aY (d_ (ae (gV 3) (ae (gV 4) ao)))))))
def yy:List D->R D:=bA 3 6 FW
def yz:G->R Fl :=
 (aC (a6 3 (aG (aj fV (gV 1) (gC (.int 16)))))
 (aC (a6 4 (aG (aj cM (gV 3) (ay c9 (ae (gV 0) ao)))))
 (aC (bU (gT (aj o8 (aj cM (gV 1) (gC (.int 4))) (gC (.int 0)))) (aY (gV 0)) cF)
 (aC (bU (gT (aj cS (aj cM (aj fV (gV 1) (gC (.int 4))) (gC (.int 4))) (gC (.int 0)))) (aY (gL (kW (gV 0) (gL (b_ (ae (gC (.int 0)) ao)))))) cF)
 (aC (bU (gT (aj cS (aj cM (aj fV (gV 1) (gC (.int 4))) (gC (.int 4))) (gC (.int 1)))) (aY (kU (gV 0) (j7 (gC (.int 1))) kT)) cF)
 (aY (gL (kW (gL (kW (kU (gV 0) kT (j7 (gV 4))) (gL (b_ (ae (aj aF (gL (b_ (ae (aj kS (kR (gC (.int 1))) (aj cM (gV 3) (aj o7 (gC (.int 10)) (gC (.int 20))))) (ae (aj dm (gV 2) (aj cM (gV 3) (aj o7 (gC (.int 10)) (gC (.int 20))))) ao)))) (aj cM (aj fV (gV 1) (gC (.int 4))) (gC (.int 2)))) ao))))) (kU (gV 0) (j7 (aj dm (gV 4) (gC (.int 1)))) kT)))))))))
def FX:List D->R D:=bA 3 5 yz
end
def OB{i:Nat}{t u v:G->R Fl}{Γ Γ' Γ2:G}{c:Er}{r:R Fl}(h:t Γ = .ok (.ex c Γ'))(hu:u (Γ'.set i (.ro (.exc c))) = .ok (.nx Γ2))(h2:v (Γ2.set i .no)=r):aC (rC i t u) v Γ=r:=by
 refine gJ (Γ':=Γ2.set i .no) ?_ h2
 unfold rC
 rw[h]
 show(u (Γ'.set i (.ro (.exc c)))>>=_)=_
 rw[hu]
 rfl
def OC{i:Nat}{t u v:G->R Fl}{Γ Γ':G}{r:R Fl}(h:t Γ = .ok (.nx Γ'))(h2:v Γ'=r):aC (rC i t u) v Γ=r:=by
 refine gJ (Γ':=Γ') ?_ h2
 unfold rC
 rw[h]
 rfl
def OD{a b:G->R Bool}{Γ:G}(h:a Γ = .ok true):jJ a b Γ = .ok true:=by unfold jJ;rw[h];rfl
def tP{φ:List D->R D}{gs:G->R (List D)}{Γ:G}{ds:List D}{d:D}(h:gs Γ = .ok ds)(e:φ ds = .ok d):z8i φ gs Γ = .ok d:=by unfold z8i;rw[h,R.cz,e]
def yA{i j:Nat}{g:G->R D}{Γ:G}{a b:D}(h:g Γ = .ok (.tup [a,b])):y2n [i,j] g Γ = .ok (.nx ((Γ.set i (.ro a)).set j (.ro b))):=by
 unfold y2n
 rw[h]
 show R.guard _ _=_
 rw[bH (by simp)]
 rfl
def Zi{sep:Str}{c:Er}{g:G->R D}{Γ:G}(hg:g Γ = .er c):la sep g Γ = .er c:=by unfold la;rw[hg];rfl
def Zj{gs:G->R (List D)}{Γ:G}{c:Er}(h:gs Γ = .er c):gL gs Γ = .er c:=by unfold gL;rw[h];rfl
def Zk{φ:List D->R (List D)}{gs:G->R (List D)}{Γ:G}{c:Er}(h:gs Γ = .er c):gx φ gs Γ = .er c:=by unfold gx;rw[h];rfl
def Zl{P:Int}{ns:List Str}{its:List Item}:fJ (b8 P ns its)++"\n"=mH (one 10) ((b8 P ns its).map cG++[⟨#[]⟩]):=by
 have e:fJ (b8 P ns its)=jZ (one 10) ((b8 P ns its).map cG):=by unfold fJ;rw[vF];exact zO _ _
 have e2:mH (one 10) ((b8 P ns its).map cG++[⟨#[]⟩])=jZ (one 10) ((b8 P ns its).map cG++[⟨#[]⟩]):=zO _ _
 refine zN (Array.toList_inj.mp ?_)
 rw[e,e2,OA]
 show(jZ (one 10) [cG ["prime",aW P],cG ("boxes"::ns),cG ("do"::Item.bG ns its)]).cps.toList++_=(jZ (one 10) [cG ["prime",aW P],cG ("boxes"::ns),cG ("do"::Item.bG ns its),⟨#[]⟩]).cps.toList
 generalize cG ["prime",aW P]=a
 generalize cG ("boxes"::ns)=b
 generalize cG ("do"::Item.bG ns its)=c
 rw[qk,qk,qk,qk,qk,show("\n":Str).cps.toList=[10] by decide +kernel]
 show(a.cps.toList++10::(b.cps.toList++10::c.cps.toList))++[10]=a.cps.toList++10::(b.cps.toList++10::(c.cps.toList++10::[]))
 simp only[oO,mI,pU]
def Zm{P:Int}{ns:List Str}{its:List Item}(N:jy ns)(h0:0<=P)(hP:P<=9999)(hm:Item.aQ its<=60)(ho:Item.bE P ns.length its):rV [.str (fJ (b8 P ns its)++"\n")] = .er .dZ:=by
 have jz:=yt N h0 hP hm ho
 have tl:=Ft jz (by simp[b8])
 have l1:("\n":Str).length=1:=by decide +kernel
 have lT:(fJ (b8 P ns its)++"\n").length<=100000:=by rw[Kv,l1];lia
 have sp:oQ (fJ (b8 P ns its)++"\n") "\n"=(b8 P ns its).map cG++[⟨#[]⟩]:=by
  rw[Zl,vF]
  refine D7 10 (by simp) λx hx=>?_
  rcases List.mem_append.mp hx with hx | hx
  ·obtain⟨ws,hw,rfl⟩:=List.mem_map.mp hx
   exact N1 (jz ws hw).2
  ·rw[List.mem_singleton.mp hx]
   simp
 generalize fJ (b8 P ns its)++"\n"=T at *
 have Fy:(b8 P ns its).map cG++[⟨#[]⟩]=[cG ["prime",aW P],cG ("boxes"::ns),cG ("do"::Item.bG ns its),⟨#[]⟩]:=rfl
 rw[Fy] at sp
 generalize cG ["prime",aW P]=t1 at *
 generalize cG ("boxes"::ns)=t2 at *
 generalize cG ("do"::Item.bG ns its)=t3 at *
 refine mX (Γ:=[En.ro (.str T),.own [.str t1,.str t2,.str t3,.str ⟨#[]⟩],.no,.no]) rfl ?_
 delta Fg
 refine iP (ds:=[t1,t2,t3,⟨#[]⟩].map D.str) (Fv rfl lT (by decide +kernel) sp) ?_
 exact sY (gK (by walk_at "evs";try rfl) rfl)
def Zn{T:Str}{n:Int}{d:D}(er:rV [.str T] = .er .dZ):qp [.str T,.int n,d] = .er .dZ:=by
 refine mX (Γ:=[En.ro (.str T),.ro (.int n),.ro d,.no,.no,.no]) rfl ?_
 delta BB
 exact sY (BH (BG (cV (ds:=[.str T]) rfl er)))
def Zo{T:Str}(er:rV [.str T] = .er .dZ):vK [.str T] = .er .dZ:=by
 refine mX (Γ:=[En.ro (.str T),.no,.no,.no]) rfl ?_
 delta BC
 exact sY (BH (BG (cV (ds:=[.str T]) rfl er)))
def vM(P:Int)(m:Nat)(o:List Int):Prop:=o.length≠m∨∃v∈o,¬(0<=v/\v<P)
def vM.ne{P:Int}{m:Nat}{o s:List Int}(h:vM P m o)(hs:s.length=m)(so:dt P s):o≠s:=λz=>by
 subst z
 rcases h with h | ⟨v,hv,h⟩
 ·exact h hs
 ·exact h (so v hv)
def Zp{P:Int}{m:Nat}{o:List Int}(l:Bool)(h:vM P m o)(hl:o.length<=100):BA [.int P,.int m,dh l (o.map D.int)] = .er .dZ:=by
 refine mX (Γ:=[En.ro (.int P),.ro (.int m),.ro (dh l (o.map D.int))]) rfl ?_
 delta FT
 have el:c9 [dh l (o.map D.int)] = .ok (.int (o.length:Int)):=by
  unfold dh
  cases l<;>simp only[if_true,if_false,oU,c9,aX]
 have nf:D.bC (o.map D.int)=true:=jI o
 have es:fQ (gV 2) [En.ro (.int P),.ro (.int m),.ro (dh l (o.map D.int))] = .ok (o.map D.int):=by
  unfold dh
  cases l<;>simp only[if_true,if_false,oU,fQ,gV,fP,gY,R.cz,o9,bH nf]
 have c1:gT (aj eG (ay c9 (ae (gV 2) ao)) (gV 1)) [En.ro (.int P),.ro (.int m),.ro (dh l (o.map D.int))] = .ok (!decide ((o.length:Int)=(m:Int))):=by
  refine fK (cN (a:=.int (o.length:Int)) (b:=.int (m:Int)) (cV (ds:=[dh l (o.map D.int)]) rfl el) rfl ?_)
  walk_at "evs"
  try (by_cases q:(o.length:Int)=(m:Int)<;>simp[q])
 have ec:c8 (fQ (gV 2)) (dr (aG (ay (gv pf) (ae (gV 0) (ae (gC (.int 0)) (ae (aj kS (gV 1) (gC (.int 1))) ao)))))) [En.ro (.int P),.ro (.int m),.ro (dh l (o.map D.int))] = .ok ((o.map λv=>lb (.int v) 0 (P-1)).map D.bl):=by
  unfold c8
  rw[es]
  show R.guard _ _=_
  rw[bH (by rw[aX];lia),i4]
  refine j8 λv hv=>?_
  have ef:=vq (d:=.int v) (a:=0) (b:=P-1) rfl
  walk_at "evs"
  simp only[ef]
  walk_at "evs"
  try rfl
 have c2:jK (gT (ay n7 (ae (gL (c8 (fQ (gV 2)) (dr (aG (ay (gv pf) (ae (gV 0) (ae (gC (.int 0)) (ae (aj kS (gV 1) (gC (.int 1))) ao)))))))) ao))) [En.ro (.int P),.ro (.int m),.ro (dh l (o.map D.int))] = .ok (!((o.map λv=>lb (.int v) 0 (P-1)).all λb=>b)):=by
  refine vG (fK (cV (ds:=[.lst ((o.map λv=>lb (.int v) 0 (P-1)).map D.bl)]) (bP (gz ec) rfl) ?_))
  rw[xO]
 refine sY (gK ?_ rfl)
 by_cases q:(o.length:Int)=(m:Int)
 ·rw[decide_eq_true q] at c1
  refine pw c1 (c2.trans ?_)
  rcases h with h | ⟨v,hv,h⟩
  ·exact absurd (by lia) h
  ·have:(o.map λv=>lb (.int v) 0 (P-1)).all (λb=>b)=false:=by
    rw[List.all_eq_false]
    refine⟨_,List.mem_map.mpr ⟨v,hv,rfl⟩,?_⟩
    simp only[lb,i0,decide_eq_true_eq]
    lia
   rw[this]
   rfl
 ·rw[decide_eq_false q] at c1
  exact OD c1
def Zq{P:Int}{ns:List Str}{its:List Item}{n:Nat}{o:List Int}(l:Bool)(N:jy ns)(p1:3<=P)(p2:P<=9973)(hd:eM P=false)(d3:Item.bD its<=3)(hm:Item.aQ its<=30)(ho:Item.bE P ns.length its)(h:vM P ns.length o)(hl:o.length<=100) :
 qp [.str (fJ (b8 P ns its)),.int n,dh l (o.map D.int)] = .er .dZ:=by
 have er:=Fx N p1 p2 hd d3 hm ho
 have et:=Zp l h hl
 have nT:=Ox P ns its
 have yx:=Oy ns
 generalize fJ (b8 P ns its)=T at *
 refine mX (Γ:=[En.ro (.str T),.ro (.int n),.ro (dh l (o.map D.int)),.ro (.tup [.int P,bB false ns,.tup (its.map Item.d)]),.ro (.int P),.ro (.int (ns.length:Int))]) rfl ?_
 delta BB
 refine cu (d:=.tup [.int P,bB false ns,.tup (its.map Item.d)]) (eh (cV (ds:=[.str T]) rfl er) nT) ?_
 refine cu (d:=.int P) (eh (cN rfl rfl (Bl ..)) rfl) ?_
 refine cu (d:=.int (ns.length:Int)) (eh (cV (ds:=[bB false ns]) (bP (cN rfl rfl (rR ..)) rfl) yx) rfl) ?_
 exact vJ (Zi (Zj (Zk (FU (Oz (vL (d:=.int P) rfl (vL (d:=.int (ns.length:Int)) rfl (vL (cN rfl rfl (tE ..)) (vL (d:=.int (n:Int)) rfl (FU (cV (ds:=[.int P,.int (ns.length:Int),dh l (o.map D.int)]) rfl et)))))))))))
def lq(a b c:Bool):D:=.lst [.bl a,.bl b,.bl c]
def FY(a b c:Bool):D.bC [.bl a,.bl b,.bl c]=true:=rfl
def Zr{T x:Str}{n:Int}{d:D}(h:qp [.str T,.int n,d] = .ok (.str x)):yy [.str T,.int n,d] = .ok (.tup [.str x,.lst []]):=by
 refine b7 rfl ?_
 delta FW
 refine cu (d:=.str "") (eh rfl rfl) ?_
 refine iP (ds:=[]) (by walk_at "evs";try rfl) ?_
 refine OC (kZ (d:=.str x) (eh (cV (ds:=[.str T,.int n,d]) rfl h) rfl)) (bT ?_)
 walk_at "evs"
def OE{T:Str}{n:Int}{d:D}(h:qp [.str T,.int n,d] = .er .dZ):yy [.str T,.int n,d] = .ok (.tup [.str "",lq true false true]):=by
 refine b7 rfl ?_
 delta FW
 refine cu (d:=.str "") (eh rfl rfl) ?_
 refine iP (ds:=[]) (by walk_at "evs";try rfl) ?_
 refine OB (c:=.dZ) (Γ':=[.ro (.str T),.ro (.int n),.ro d,.ro (.str ""),.own [],.no]) (Γ2:=[.ro (.str T),.ro (.int n),.ro d,.ro (.str ""),.own [.bl true,.bl false,.bl true],.ro (.exc .dZ)]) ?_ ?_ ?_
 ·exact BH (BG (cV (ds:=[.str T,.int n,d]) rfl h))
 ·refine vf (ds:=[.bl true,.bl false,.bl true]) ?_
  have n3:=FY true false true
  walk_at "evs"
  simp[rn]
  walk_at "evs"
 ·refine bT ?_
  unfold lq
  walk_at "evs"
def Zs{T x:Str}(h:vK [.str T] = .ok (.str x)):BI [.str T] = .ok (.tup [.str x,.lst []]):=by
 refine b7 rfl ?_
 delta FV
 refine cu (d:=.str "") (eh rfl rfl) ?_
 refine iP (ds:=[]) (by walk_at "evs";try rfl) ?_
 refine OC (kZ (d:=.str x) (eh (cV (ds:=[.str T]) rfl h) rfl)) (bT ?_)
 walk_at "evs"
def OF{T:Str}{c:Er}{b:Bool}(hc:c = .dZ/\b=true∨c = .gO/\b=false)(h:vK [.str T] = .er c):BI [.str T] = .ok (.tup [.str "",lq b (!b) true]):=by
 refine b7 rfl ?_
 delta FV
 refine cu (d:=.str "") (eh rfl rfl) ?_
 refine iP (ds:=[]) (by walk_at "evs";try rfl) ?_
 refine OB (c:=c) (Γ':=[.ro (.str T),.ro (.str ""),.own [],.no]) (Γ2:=[.ro (.str T),.ro (.str ""),.own [.bl b,.bl (!b),.bl true],.ro (.exc c)]) ?_ ?_ ?_
 ·exact BH (BG (cV (ds:=[.str T]) rfl h))
 ·refine vf (ds:=[.bl b,.bl (!b),.bl true]) ?_
  have n3:=FY b (!b) true
  rcases hc with ⟨rfl,rfl⟩ | ⟨rfl,rfl⟩
  ·walk_at "evs"
   simp[rn]
   walk_at "evs"
  ·walk_at "evs"
   simp[rn]
   walk_at "evs"
 ·refine bT ?_
  unfold lq
  walk_at "evs"
def FZ{ga gb:G->R D}{Γ:G}{a b:List Int}(h1:ga Γ = .ok (.lst (a.map D.int)))(h2:gb Γ = .ok (.lst (b.map D.int)))(hl:a.length+b.length<=1000):kW ga gb Γ = .ok ((a++b).map D.int):=by
 unfold kW
 rw[h1,h2]
 show R.guard _ _=_
 rw[<-jF,bH ⟨by rw[aX,aX];exact hl,jI _⟩]
def F4{gs:G->R (List D)}{Γ:G}{a:List Int}(h:gs Γ = .ok (a.map D.int))(hl:a.length<=1000):b_ gs Γ = .ok (a.map D.int):=by
 unfold b_
 rw[h,R.cz,bH ⟨by rw[aX];exact hl,jI a⟩]
def Zt{P c:Int}{m:Nat}{s:List Int}(hs:s.length=m)(m1:1<=m)(m3:m<=3)(p1:3<=P)(p2:P<=9973):∃o:List Int,FX [.lst (s.map D.int),.int c,.int P] = .ok (.lst (o.map D.int))/\o.length<=4/\(o=s∨vM P m o):=by
 obtain⟨a,ha,hm⟩:∃a:Nat,c/16%(m:Int)=(a:Int)/\a<m:=by
  have h1:=CM (c/16) (show(m:Int)≠0 by lia)
  have h2:=Kj (c/16) (show(0:Int)<(m:Int) by lia)
  exact⟨(c/16%(m:Int)).toNat,by lia,by lia⟩
 have el:c9 [.lst (s.map D.int)] = .ok (.int (m:Int)):=by simp only[c9,aX,hs]
 have head:∀{u:G->R Fl} {r:R Fl},u [En.ro (.lst (s.map D.int)),.ro (.int c),.ro (.int P),.ro (.int (c/16)),.ro (.int (a:Int))]=r->aC (a6 3 (aG (aj fV (gV 1) (gC (.int 16))))) (aC (a6 4 (aG (aj cM (gV 3) (ay c9 (ae (gV 0) ao))))) u) (fz 5 [.lst (s.map D.int),.int c,.int P])=r:=λ{u r} h=>by
  refine cu (d:=.int (c/16)) (by walk_at "evs") ?_
  refine cu (d:=.int (a:Int)) (eh (cN (a:=.int (c/16)) (b:=.int (m:Int)) rfl (cV (ds:=[.lst (s.map D.int)]) rfl el) ?_) rfl) h
  walk_at "evs"
  rw[ha]
 have nf:∀l:List Int,D.bC (l.map D.int)=true:=jI
 by_cases q1:c%4>0
 ·have d1:decide (c%4>0)=true:=decide_eq_true q1
  refine⟨s,?_,by lia,.inl rfl⟩
  refine b7 rfl ?_
  delta yz
  refine head (l8 (gK (by walk_at "evs";try rw[d1]) (bT rfl)))
 have d1:decide (c%4>0)=false:=decide_eq_false q1
 by_cases q2:c/4%4=0
 ·have d2:(c/4%4==0)=true:=by simpa using q2
  refine⟨s++[0],?_,by rw[dN,hs];simp only[b6,gS];lia,.inr (.inl (by rw[dN,hs];simp))⟩
  refine b7 rfl ?_
  delta yz
  refine head (c_ (by walk_at "evs";try rw[d1]) (l8 (gK (by walk_at "evs";try rw[d2]) (bT ?_))))
  exact gz (FZ rfl (gz (F4 (a:=[0]) rfl (by simp))) (by simp only[b6,gS];lia))
 have d2:(c/4%4==0)=false:=by simpa using q2
 by_cases q3:c/4%4=1
 ·have d3:(c/4%4==1)=true:=by simpa using q3
  refine⟨s.drop 1,?_,by rw[pS];lia,.inr (.inl (by rw[pS];lia))⟩
  refine b7 rfl ?_
  delta yz
  refine head (c_ (by walk_at "evs";try rw[d1]) (c_ (by walk_at "evs";try rw[d2]) (l8 (gK (by walk_at "evs";try rw[d3]) (bT ?_)))))
  have e:=u0 (s.map D.int) 1
  walk_at "evs"
  show R.ok (D.lst (gP (s.map D.int) (some ((1:Nat):Int)) none))=_
  rw[e,wN]
 have d3:(c/4%4==1)=false:=by simpa using q3
 obtain⟨v,hv,bad⟩:∃v:Int,aj aF (gL (b_ (ae (aj kS (kR (gC (.int 1))) (aj cM (gV 3) (aj o7 (gC (.int 10)) (gC (.int 20))))) (ae (aj dm (gV 2) (aj cM (gV 3) (aj o7 (gC (.int 10)) (gC (.int 20))))) ao)))) (aj cM (aj fV (gV 1) (gC (.int 4))) (gC (.int 2))) [En.ro (.lst (s.map D.int)),.ro (.int c),.ro (.int P),.ro (.int (c/16)),.ro (.int (a:Int))] = .ok (.int v)/\¬(0<=v/\v<P):=by
  have h20:(0:Int)<10^20:=by decide
  have w0:=CM (c/16) (show(10^20:Int)≠0 by decide)
  have n2:=nf [-1-c/16%10^20,P+c/16%10^20]
  simp only[fN,pT] at n2
  have eL:gL (b_ (ae (aj kS (kR (gC (.int 1))) (aj cM (gV 3) (aj o7 (gC (.int 10)) (gC (.int 20))))) (ae (aj dm (gV 2) (aj cM (gV 3) (aj o7 (gC (.int 10)) (gC (.int 20))))) ao))) [En.ro (.lst (s.map D.int)),.ro (.int c),.ro (.int P),.ro (.int (c/16)),.ro (.int (a:Int))] = .ok (.lst [.int (-1-c/16%10^20),.int (P+c/16%10^20)]):=by
   walk_at "evs"
  have eI:aj cM (aj fV (gV 1) (gC (.int 4))) (gC (.int 2)) [En.ro (.lst (s.map D.int)),.ro (.int c),.ro (.int P),.ro (.int (c/16)),.ro (.int (a:Int))] = .ok (.int (c/4%2)):=by walk_at "evs"
  have:c/4%2=0∨c/4%2=1:=by lia
  rcases this with q | q
  ·rw[q] at eI
   exact⟨-1-c/16%10^20,cN eL eI rfl,by lia⟩
  ·rw[q] at eI
   exact⟨P+c/16%10^20,cN eL eI rfl,by lia⟩
 refine⟨s.take a++[v]++s.drop (a+1),?_,by simp only[dN,lE,pS,b6,gS];lia,.inr (.inr ⟨v,by simp,bad⟩)⟩
 refine b7 rfl ?_
 delta yz
 refine head (c_ (by walk_at "evs";try rw[d1]) (c_ (by walk_at "evs";try rw[d2]) (c_ (by walk_at "evs";try rw[d3]) (bT (gz ?_)))))
 have e1:=AI (s.map D.int) a
 have e2:=u0 (s.map D.int) (a+1)
 have t1:kU (gV 0) kT (j7 (gV 4)) [En.ro (.lst (s.map D.int)),.ro (.int c),.ro (.int P),.ro (.int (c/16)),.ro (.int (a:Int))] = .ok (.lst ((s.take a).map D.int)):=by
  walk_at "evs"
  rw[e1,zK]
 have t2:kU (gV 0) (j7 (aj dm (gV 4) (gC (.int 1)))) kT [En.ro (.lst (s.map D.int)),.ro (.int c),.ro (.int P),.ro (.int (c/16)),.ro (.int (a:Int))] = .ok (.lst ((s.drop (a+1)).map D.int)):=by
  walk_at "evs"
  show R.ok (D.lst (gP (s.map D.int) (some ((a+1:Nat):Int)) none))=_
  rw[e2,wN]
 exact FZ (gz (FZ t1 (gz (F4 (a:=[v]) (bP hv rfl) (by simp))) (by simp only[lE,b6,gS];lia))) t2 (by simp only[dN,lE,pS,b6,gS];lia)
noncomputable section
def F5:G->R Fl :=
 (aC (a6 1 (aG (ay A4 (ae (ay nc (ae (gV 0) (ae (gC (.int 0)) ao))) ao))))
 (aC (a6 2 (aG (aj dm (gC (.int 1)) (aj cM (ay nc (ae (gV 0) (ae (gC (.int 1)) ao))) (gC (.int 3))))))
 (aC (a6 3 (aG (ay EW (ae (ay nc (ae (gV 0) (ae (gC (.int 2)) ao))) (ae (ay nc (ae (gV 0) (ae (gC (.int 3)) ao))) (ae (gV 2) ao))))))
 (aC (a6 4 (aG (ay Be (ae (kU (gV 0) (j7 (gC (.int 7))) (j7 (gC (.int 37)))) (ae (gV 1) (ae (gV 2) (ae (gC (.int 2)) ao)))))))
 (aC (a6 5 (aG (ay Bd (ae (ay nc (ae (gV 0) (ae (gC (.int 4)) ao))) ao))))
 (aC (a6 6 (gL (ju (ay tq (ae (ay nc (ae (gV 0) (ae (gC (.int 5)) ao))) (ae (gV 1) (ae (gV 2) ao)))))))
 (aC (a6 7 (z8i FX (ae (df 6) (ae (aG (ay nc (ae (gV 0) (ae (gC (.int 6)) ao)))) (ae (df 1) ao)))))
 (aC (a6 8 (aG (aj cS (aj cM (aj fV (ay nc (ae (gV 0) (ae (gC (.int 6)) ao))) (gC (.int 5))) (gC (.int 7))) (gC (.int 1)))))
 (aC (a6 9 (aG (aj y7i (ay Bm (ae (gV 1) (ae (gV 3) (ae (gV 4) ao)))) (aj aF (gL (b_ (ae (gC (.str "")) (ae (gC (.str "\n")) ao)))) (ay dInt (ae (gV 8) ao))))))
 (aC (a6 10 (gL (ju (gV 7))))
 (aC (y2n [11,12] (z8i yy (ae (df 9) (ae (df 5) (ae (df 10) ao)))))
 (aC (bU (gT (aj eG (gV 10) (gV 7))) (aY (gC (.bl false))) cF)
 (aC (bU (jJ (gT (gV 8)) (gT (aj eG (gV 7) (gV 6)))) (bU (jJ (gT (aj eG (gV 12) (gL (b_ (ae (gC (.bl true)) (ae (gC (.bl false)) (ae (gC (.bl true)) ao))))))) (gT (aj eG (aj aF (z8i yy (ae (df 9) (ae (df 5) (ae (ay eK (ae (df 7) ao)) ao)))) (gC (.int 1))) (gV 12)))) (aY (gC (.bl false))) cF) (aC (a6 13 (aG (la " " (gL (c8 (fQ (ay Bg (ae (gV 1) (ae (gV 2) (ae (gV 4) (ae (gV 5) (ae (ay eK (ae (gV 6) ao)) ao))))))) (dr (aG (ay k_ (ae (gV 0) ao)))))))))
 (bU (jJ (gT (aj eG (gV 12) (gL (b_ ao)))) (jJ (jK (gT (u9 u_ (gV 11)))) (jJ (gT (aj eG (gV 11) (gV 13))) (gT (aj eG (ay qp (ae (gV 9) (ae (gV 5) (ae (ay eK (ae (gV 6) ao)) ao)))) (gV 13)))))) (aY (gC (.bl false))) cF)))
 (aC (y2n [11,12] (z8i BI (ae (df 9) ao)))
 (aC (bU (gT (gV 8)) (aY (aj cS (gV 12) (gL (b_ (ae (gC (.bl true)) (ae (gC (.bl false)) (ae (gC (.bl true)) ao))))))) cF)
 (aC (bU (gT (aj eG (ay (tN 12) (ae (gV 4) ao)) (d_ ao))) (aY (aj cS (gV 12) (gL (b_ (ae (gC (.bl false)) (ae (gC (.bl true)) (ae (gC (.bl true)) ao))))))) cF)
 (aY (kQ (aj cS (gV 12) (gL (b_ ao))) (kQ (u9 u_ (gV 11)) (aj cS (gV 11) (ay Bm (ae (gV 1) (ae (gV 3) (ae (ay (oo 12) (ae (gV 1) (ae (gV 2) (ae (gV 4) ao)))) ao))))))))))))))))))))))))
def BJ:List D->R D:=bA 1 14 F5
end
def OG{a b c:G->R Fl}{Γ:G}{r:R Fl}(h:aC (aC a b) c Γ=r):aC a (aC b c) Γ=r:=by
 rw[<-h]
 unfold aC
 cases a Γ with
 | ok f=>cases f<;>rfl
 | no=>rfl
 | er c=>rfl
def Zu{t u:G->R Fl}{Γ:G}{r:R Fl}(I:G->Prop)(h:∃Γ',t Γ = .ok (.nx Γ')/\I Γ')(h2:∀Γ',I Γ'->u Γ'=r):aC t u Γ=r:=by
 obtain⟨Γ',e,i⟩:=h
 exact gJ e (h2 _ i)
def OH{s:List Int}{l:Bool}{g:G->R D}{Γ:G}(h:g Γ = .ok (dh l (s.map D.int))):ju g Γ = .ok (s.map D.int):=by
 unfold ju
 rw[h,R.cz]
 unfold dh
 cases l<;>simp only[if_true,if_false,oU,AL,bH (jI s)]
def F8{d:D}(l:D.lay 40 d=true)(p:bO d d=true):eG d d = .ok (.bl false):=by
 show R.guard _ _=_
 rw[bH ⟨l,l⟩,p]
 rfl
def OI{d:D}(l:D.lay 40 d=true)(p:bO d d=true):cS d d = .ok (.bl true):=by
 show R.guard _ _=_
 rw[bH ⟨l,l⟩,p]
def F9(l:List Int):D.lay 40 (.lst (l.map D.int))=true:=by
 rw[DK,mF]
 intro d hd
 obtain⟨x,_,rfl⟩:=List.mem_map.mp hd
 exact DJ _ _
def F_(l:List Int):D.pl (.lst (l.map D.int))=true:=by
 rw[LU,mF]
 intro d hd
 obtain⟨x,_,rfl⟩:=List.mem_map.mp hd
 exact LR _
def Zv(a b:List Int):eG (.lst (a.map D.int)) (.lst (b.map D.int)) = .ok (.bl (!decide (a=b))):=by
 show R.guard _ _=_
 have inj:∀{a b:List Int},a.map D.int=b.map D.int->a=b:=λ{a b} h=>Eg (show aZ a=aZ b from congrArg D.tup h)
 rw[bH ⟨F9 a,F9 b⟩,DO (F_ a) (F_ b) (p:=a=b) ⟨λh=>inj (D.lst.inj h),λh=>by rw[h]⟩]
def OJ(a b c:Bool):D.lay 40 (lq a b c)=true:=by unfold lq;rw[DK];rfl
def OK(a b c:Bool):bO (lq a b c) (lq a b c)=true:=by cases a<;>cases b<;>cases c<;>decide
def Ga{a b c:Bool}{Γ:G}:gL (b_ (ae (gC (.bl a)) (ae (gC (.bl b)) (ae (gC (.bl c)) ao)))) Γ = .ok (lq a b c):=by
 refine gz ?_
 unfold b_
 rw[bP (d:=.bl a) rfl (bP (d:=.bl b) rfl (bP (d:=.bl c) rfl rfl)),R.cz,bH ⟨by simp,FY a b c⟩]
def OL{Γ:G}:gL (b_ ao) Γ = .ok (.lst []):=gz (F4 (a:=[]) rfl (by simp))
def OM{Γ:G}:d_ ao Γ = .ok (aZ []):=by
 have:d_ ao Γ = .ok (.tup []):=by walk_at "evs"
 exact this
def Zw(a b:List Int):eG (aZ a) (aZ b) = .ok (.bl (!decide (a=b))):=by
 show R.guard _ _=_
 rw[bH ⟨z5w 39 a,z5w 39 b⟩,z6o]
def Zx{P:Int}{nm:List Str}{its:List Item}(N:jy nm)(h0:0<=P)(hP:P<=9999)(ho:Item.bE P nm.length its):dn (fJ (b8 P nm its))=true:=by
 rw[BD]
 intro z hz
 have e:fJ (b8 P nm its)=jZ (one 10) ((b8 P nm its).map cG):=by unfold fJ;rw[vF];exact zO _ _
 rw[e] at hz
 rcases Bt 10 hz with rfl | ⟨x,hx,Zy⟩
 ·decide
 ·obtain⟨ws,hw,rfl⟩:=List.mem_map.mp hx
  exact BD.mp (Ov (YM N h0 hP ho ws hw)) z Zy
def Zz:WM BJ:=by
 intro ns hn
 obtain⟨P,eP,p1,p2,hP⟩:=WH (gy ns 0)
 obtain⟨m,em,m1,m3⟩:=XH (gy ns 1)
 have hp:1<P:=by lia
 have tQ:P<=9999:=by lia
 have h0:0<=P:=by lia
 obtain⟨nm,N,nl,en⟩:=YL (c:=gy ns 2) (m:=gy ns 3) (n:=m) (by lia) (by lia)
 obtain⟨its,ei,ho,hd,hc⟩:=Xo (cs:=gP ns (some 7) (some 37)) (P:=P) (many:=m) (ag:=2) p1 p2 (by lia) (by lia) (fG (XG ns _ _) hn)
 have hl:=Item.oh its
 subst nl
 obtain⟨k,ek,k0,k1⟩:=M7 (gy ns 4)
 obtain⟨n,rfl⟩:=oR k0
 have ON:n<2^150:=by lia
 have sl:=Ee P nm.length (gy ns 5)
 have so:=Ef (P:=P) (by lia) nm.length (gy ns 5)
 have eD:=λΓ=>(by walk_at "evs";rfl:ay tq (ae (ay nc (ae (gV 0) (ae (gC (.int 5)) ao))) (ae (gV 1) (ae (gV 2) ao))) (En.ro (.lst (ns.map D.int)) :: .ro (.int P) :: .ro (.int (nm.length:Nat))::Γ) = .ok (aZ (ng P nm.length (gy ns 5))))
 generalize ng P nm.length (gy ns 5)=s at sl so eD
 obtain⟨o,eo,ol,ZA⟩:=Zt (c:=gy ns 6) sl (by lia) m3 p1 p2
 have et:=N7 N h0 tQ (show Item.aQ its<=60 by lia) (show Item.bD its<=4 by lia) ho
 have jz:=yt N h0 tQ (show Item.aQ its<=60 by lia) ho
 have tl:=Ft jz (by simp[b8])
 have ZC:=Zm N h0 tQ (show Item.aQ its<=60 by lia) ho
 have eU:=Zh N p1 p2 hP hd hc ho
 have ZD:=Item.tabs_ok hp its ho
 have ea:=Nm (n:=n) p1 p2 m3 (show Item.bD its<=5 by lia) ho sl ON
 have eL:=λ(l:Bool)=>Zf (n:=n) (s:=s) l N p1 p2 hP hd hc ho sl so ON
 have eS:=λ(l:Bool) (h:vM P nm.length o)=>Zq (n:=n) l N p1 p2 hP hd hc ho h (by lia)
 have tle:=(tu P (cX P nm.length (Item.tabs P nm.length its) n) s).trans (lg hp ZD n).1
 have te:=Eh (show 0<P by lia) (cX P nm.length (Item.tabs P nm.length its) n) s
 generalize dH P (cX P nm.length (Item.tabs P nm.length its) n) s=e at *
 have nI:=rO its
 generalize hT:fJ (b8 P nm its)=T at *
 obtain⟨X,eX,hX⟩:∃X:Str,(∀Γ,aj aF (gL (b_ (ae (gC (.str "")) (ae (gC (.str "\n")) ao)))) (ay dInt (ae (gV 8) ao)) ([En.ro (.lst (ns.map D.int)),.ro (.int P),.ro (.int (nm.length:Nat)),.ro (bB false nm),.ro (.tup (its.map Item.d)),.ro (.int n),.ro (.lst (s.map D.int)),.ro (.lst (o.map D.int)),.ro (.bl (gy ns 6/5%7==1))]++Γ) = .ok (.str X))/\((gy ns 6/5%7==1)=true/\X="\n"∨(gy ns 6/5%7==1)=false/\X=""):=by
  have n2:D.bC [D.str "",D.str "\n"]=true:=rfl
  cases (gy ns 6/5%7==1) with
  | true=>exact⟨"\n",λΓ=>cN (a:=.lst [.str "",.str "\n"]) (b:=.int 1) (by walk_at "evs") rfl rfl,.inl ⟨rfl,rfl⟩⟩
  | false=>exact⟨"",λΓ=>cN (a:=.lst [.str "",.str "\n"]) (b:=.int 0) (by walk_at "evs") rfl rfl,.inr ⟨rfl,rfl⟩⟩
 have hXl:X.length<=1:=by
  rcases hX with ⟨_,rfl⟩ | ⟨_,rfl⟩<;>decide +kernel
 refine b7 rfl ?_
 unfold F5
 refine cu (d:=.int P) (by walk_at "evs";simp only[eP];walk_at "evs") ?_
 refine cu (d:=.int (nm.length:Nat)) (by walk_at "evs";rw[em]) ?_
 refine cu (d:=bB false nm) (eh (cV (ds:=[.int (gy ns 2),.int (gy ns 3),.int (nm.length:Nat)]) (by walk_at "evs") en) (BF nm)) ?_
 refine cu (d:=.tup (its.map Item.d)) (by walk_at "evs";rw[XF];simp only[ei];walk_at "evs") ?_
 refine cu (d:=.int n) (by walk_at "evs";simp only[ek];walk_at "evs") ?_
 refine cu (d:=.lst (s.map D.int)) (gz (OH (l:=false) (eD _))) ?_
 refine cu (d:=.lst (o.map D.int)) (tP (ds:=[.lst (s.map D.int),.int (gy ns 6),.int P]) (bP rfl (bP (by walk_at "evs") rfl)) eo) ?_
 refine cu (d:=.bl (gy ns 6/5%7==1)) (by walk_at "evs") ?_
 refine cu (d:=.str (T++X)) (eh (cN (cV (ds:=[.int P,bB false nm,.tup (its.map Item.d)]) rfl et) (eX _) (by show R.guard _ _=_;rw[bH (by lia)])) rfl) ?_
 refine cu (d:=.lst (o.map D.int)) (gz (OH (l:=true) rfl)) ?_
 generalize (gy ns 6/5%7==1)=b at *
 show aC _ _ [En.ro (.lst (ns.map D.int)),.ro (.int P),.ro (.int (nm.length:Nat)),.ro (bB false nm),.ro (.tup (its.map Item.d)),.ro (.int n),.ro (.lst (s.map D.int)),.ro (.lst (o.map D.int)),.ro (.bl b),.ro (.str (T++X)),.ro (.lst (o.map D.int)),.no,.no,.no]=_
 have Gb:b=false->T++X=T:=λhb=>by
  rcases hX with ⟨z,_⟩ | ⟨_,rfl⟩
  ·rw[hb] at z;cases z
  ·refine zN (Array.toList_inj.mp ?_)
   rw[OA]
   show _++[]=_
   rw[kJ]
 have OO:b=true->rV [.str (T++X)] = .er .dZ:=λhb=>by
  rcases hX with ⟨_,rfl⟩ | ⟨z,_⟩
  ·exact ZC
  ·rw[hb] at z;cases z
 generalize T++X=Y at *
 refine OG (OG (Zu (λΓ'=>∃OP OQ OR,Γ'=[En.ro (.lst (ns.map D.int)),.ro (.int P),.ro (.int (nm.length:Nat)),.ro (bB false nm),.ro (.tup (its.map Item.d)),.ro (.int n),.ro (.lst (s.map D.int)),.ro (.lst (o.map D.int)),.ro (.bl b),.ro (.str Y),.ro (.lst (o.map D.int)),OP,OQ,OR]) ?_ ?_))
 ·have same:=F8 (F9 o) (sV (F_ o))
  have h3:=λa b c=>F8 (OJ a b c) (OK a b c)
  have ZE:((∀l,qp [.str Y,.int n,dh l (o.map D.int)] = .er .dZ)/\(b=true∨o≠s))∨(b=false/\o=s):=by
   cases hb:b with
   | true=>exact .inl ⟨λl=>Zn (OO hb),.inl rfl⟩
   | false =>
     rcases ZA with h | h
     ·exact .inr ⟨rfl,h⟩
     ·exact .inl ⟨λl=>by rw[Gb hb];exact eS l h,.inr (h.ne sl so)⟩
  rcases ZE with ⟨er,ZF⟩ | ⟨rfl,rfl⟩
  ·refine⟨_,gJ (gJ (yA (tP (ds:=[.str Y,.int n,.lst (o.map D.int)]) rfl (OE (er true)))) (mW (fK (cN rfl rfl same)))) (gK ?_ (mW (pw (fK (cN (a:=lq true false true) rfl Ga (h3 ..))) (fK (cN (a:=lq true false true) (cN (a:=.tup [.str "",lq true false true]) (b:=.int 1) (tP (ds:=[.str Y,.int n,.tup (o.map D.int)]) rfl (OE (er false))) rfl rfl) rfl (h3 ..)))))),⟨_,_,_,rfl⟩⟩
   cases b with
   | true=>exact OD (fK rfl)
   | false =>
     refine pw (fK rfl) (fK (cN rfl rfl ((Zv o s).trans ?_)))
     rw[decide_eq_false (ZF.resolve_left (by decide))]
     rfl
  ·obtain rfl:=Gb rfl
   have kE:=Zb te
   have Gd:=yo kE kE
   rw[decide_eq_true rfl] at Gd
   refine⟨_,gJ (gJ (yA (tP (ds:=[.str Y,.int n,.lst (o.map D.int)]) rfl (Zr (eL true)))) (mW (fK (cN rfl rfl same)))) (AY (pw (fK rfl) (fK (cN rfl rfl same))) (cu (d:=.str (cG (e.map aW))) (eh (tK (yr (Ow tQ te) (by rw[aX];lia)) (gz (Zc tQ te (by lia) (cV (ds:=[.int P,.int (nm.length:Nat),.tup (its.map Item.d),.int n,aZ o]) rfl ea)))) rfl) (mW (pw (fK (cN rfl OL (F8 rfl (sV rfl)))) (pw (vG (b:=true) (fK rfl)) (pw (fK (cN rfl rfl Gd)) (fK (cN (cV (ds:=[.str Y,.int n,.tup (o.map D.int)]) rfl (eL false)) rfl Gd)))))))),⟨_,_,_,rfl⟩⟩
 ·rintro Γ' ⟨OP,OQ,OR,rfl⟩
  have h3:=λa b c=>OI (OJ a b c) (OK a b c)
  cases hb:b with
  | true=>exact gJ (yA (tP (ds:=[.str Y]) rfl (OF (.inl ⟨rfl,rfl⟩) (Zo (OO hb))))) (l8 (gK (fK rfl) (bT (cN (a:=lq true false true) rfl Ga (h3 ..)))))
  | false =>
    obtain rfl:=Gb hb
    have eF:=Ot (P:=P) (m:=nm.length) 12 its (by lia) (by lia) (by lia) ho
    have hF:=Item.FQ 0 its ho
    have eN:=Zw ((Item.f_ 0 its).getD []) []
    have U:=FO hP p1 p2 m3 12 its (by lia) (by lia) (by lia) ho
    by_cases hf:Item.frees its=true
    ·rw[if_pos hf] at eU U
     rw[hF.mpr hf] at eF eN
     obtain⟨tO,hU⟩:=Item.Bz hP p1 p2 its ho hf
     have dU:=Item.By P its
     have mU:=Item.BE P its
     have ZG:=N7 N h0 tQ (show Item.aQ (Item.g6 P its)<=60 by lia) (show Item.bD (Item.g6 P its)<=4 by lia) tO
     have k2:=Zx N h0 tQ tO
     have vN:=vC k2 k2
     rw[decide_eq_true rfl] at vN
     refine gJ (yA (tP (ds:=[.str Y]) rfl (Zs eU))) (c_ (fK rfl) (c_ (fK (cN (cV (ds:=[.tup (its.map Item.d)]) rfl eF) OM eN)) (bT (yn (cN rfl OL (OI rfl (sV rfl))) (yn rfl (cN rfl (cV (bP rfl (bP rfl (bP (cV (ds:=[.int P,.int (nm.length:Nat),.tup (its.map Item.d)]) rfl U) rfl))) ZG) vN))))))
    ·rw[if_neg hf] at eU
     have:(Item.f_ 0 its).getD []≠[]:=by
      cases q:Item.f_ 0 its with
      | none=>exact absurd (hF.mp q) hf
      | some p=>exact Item.FR q
     rw[decide_eq_false this] at eN
     exact gJ (yA (tP (ds:=[.str Y]) rfl (OF (.inr ⟨rfl,rfl⟩) eU))) (c_ (fK rfl) (l8 (gK (fK (cN (cV (ds:=[.tup (its.map Item.d)]) rfl eF) OM eN)) (bT (cN (a:=lq false true true) rfl Ga (h3 ..))))))
end L3
namespace L3
open PySem PySem.Spec PyProof.Rows L2
abbrev St:=L2.St
instance:Monad R where
 pure:=R.ok
 bind:=R.bind
mutual
def Is(K:aE)(H:Hp):D->V->Prop
 | .cQ,v=>v = .cQ
 | .bl b,v=>v = .bl b
 | .int i,v=>v = .int i
 | .str x,v=>v = .str x
 | .tup ds,v=>∃a xs,v = .ref a/\cC K H a xs/\aq K H ds xs
 | .lst ds,v=>∃a xs,v = .ref a/\cA K H a xs/\aq K H ds xs
 | .kn,v=>∃a ob,v = .ref a/\H a=some (.gX ob (.own 0))/\ob.cls = .type "dict"
 | .exc c,v=>∃e oe C,v = .ref e/\H e=some (.gX oe (.own 0))/\oe.cls = .ref C/\ir K dw c.nm=some (some (.ref C))
def aq(K:aE)(H:Hp):List D->List V->Prop
 | [],xs=>xs=[]
 | d::ds,xs=>∃x r,xs=x::r/\Is K H d x/\aq K H ds r
end
structure Sub (K:aE) (H H':Hp):Prop where
 t:∀a xs,cC K H a xs->cC K H' a xs
 l:∀a xs,cA K H a xs->cA K H' a xs
 x:∀a o u,H a=some (.gX o u)->H' a=some (.gX o u)
def qq{K:aE}{H H':Hp}{a:Addr}{xs:List V}(e:aO H H')(h:cC K H a xs):cC K H' a xs:=by
 rcases h with (h | ⟨o,h⟩) | h
 ·exact .inl (.inl (e _ _ h))
 ·exact .inl (.inr ⟨o,e _ _ h⟩)
 ·exact .inr h
def Sub.of_same{K:aE}{H H':Hp}(e:aO H H'):Sub K H H':=⟨λ_ _ h=>qq e h,λ_ _ h=>e.seq h,λ_ _ _ h=>e _ _ h⟩
mutual
def Is.sub{K:aE}{H H':Hp}(s:Sub K H H'):∀(d:D) (v:V),Is K H d v->Is K H' d v
 | .cQ,_,h=>h
 | .bl _,_,h=>h
 | .int _,_,h=>h
 | .str _,_,h=>h
 | .tup ds,v,h=>by
   unfold Is at h ⊢
   obtain⟨a,xs,e,h1,h2⟩:=h
   exact⟨a,xs,e,s.t a xs h1,aq.sub s ds xs h2⟩
 | .lst ds,v,h=>by
   unfold Is at h ⊢
   obtain⟨a,xs,e,h1,h2⟩:=h
   exact⟨a,xs,e,s.l a xs h1,aq.sub s ds xs h2⟩
 | .kn,v,h=>by
   unfold Is at h ⊢
   obtain⟨a,ob,e,h1,h2⟩:=h
   exact⟨a,ob,e,s.x a ob _ h1,h2⟩
 | .exc c,v,h=>by
   unfold Is at h ⊢
   obtain⟨a,oe,C,e,h1,h2⟩:=h
   exact⟨a,oe,C,e,s.x a oe _ h1,h2⟩
def aq.sub{K:aE}{H H':Hp}(s:Sub K H H'):∀(ds:List D) (xs:List V),aq K H ds xs->aq K H' ds xs
 | [],_,h=>h
 | d::ds,xs,h=>by
   unfold aq at h ⊢
   obtain⟨x,r,e,h1,h2⟩:=h
   exact⟨x,r,e,Is.sub s d x h1,aq.sub s ds r h2⟩
end
def Is.same{K:aE}{H H':Hp}{d:D}{v:V}(h:Is K H d v)(e:aO H H'):Is K H' d v:=Is.sub (.of_same e) d v h
def aq.same{K:aE}{H H':Hp}{ds:List D}{xs:List V}(h:aq K H ds xs)(e:aO H H'):aq K H' ds xs:=aq.sub (.of_same e) ds xs h
def Is.bZ{K:aE}{H:Hp}{i:Int}{v:V}:Is K H (.int i) v↔v = .int i:=by unfold Is;rfl
def Is.gD{K:aE}{H:Hp}{b:Bool}{v:V}:Is K H (.bl b) v↔v = .bl b:=by unfold Is;rfl
def Is.iC{K:aE}{H:Hp}{x:Str}{v:V}:Is K H (.str x) v↔v = .str x:=by unfold Is;rfl
def Is.BK{K:aE}{H:Hp}{v:V}:Is K H .cQ v↔v = .cQ:=by unfold Is;rfl
def Is.fB{K:aE}{H:Hp}{ds:List D}{v:V}:Is K H (.tup ds) v↔∃a xs,v = .ref a/\cC K H a xs/\aq K H ds xs:=by conv=>lhs;unfold Is
def Is.fC{K:aE}{H:Hp}{ds:List D}{v:V}:Is K H (.lst ds) v↔∃a xs,v = .ref a/\cA K H a xs/\aq K H ds xs:=by conv=>lhs;unfold Is
def Is.OS{K:aE}{H:Hp}{c:Er}{v:V}:Is K H (.exc c) v↔∃e oe C,v = .ref e/\H e=some (.gX oe (.own 0))/\oe.cls = .ref C/\ir K dw c.nm=some (some (.ref C)):=by conv=>lhs;unfold Is
def aq.jq{K:aE}{H:Hp}{xs:List V}:aq K H [] xs↔xs=[]:=by unfold aq;rfl
def aq.i_{K:aE}{H:Hp}{d:D}{ds:List D}{xs:List V}:aq K H (d::ds) xs↔∃x r,xs=x::r/\Is K H d x/\aq K H ds r:=by conv=>lhs;unfold aq
def aq.nil{K:aE}{H:Hp}:aq K H [] []:=aq.jq.mpr rfl
def aq.cons{K:aE}{H:Hp}{d:D}{ds:List D}{x:V}{xs:List V}(h:Is K H d x)(t:aq K H ds xs):aq K H (d::ds) (x::xs):=aq.i_.mpr ⟨x,xs,rfl,h,t⟩
def aq.length{K:aE}{H:Hp}:∀{ds:List D} {xs:List V},aq K H ds xs->ds.length=xs.length
 | [],xs,h=>by rw[aq.jq.mp h];rfl
 | d::ds,xs,h=>by
   obtain⟨x,r,rfl,_,t⟩:=aq.i_.mp h
   rw[b6,b6,aq.length t]
def aq.get{K:aE}{H:Hp}:∀{ds:List D} {xs:List V} {i:Nat} {d:D},aq K H ds xs->ds[i]? = some d->∃x,xs[i]? = some x/\Is K H d x
 | [],_,_,_,_,e=>by simp at e
 | d::ds,xs,0,d',h,e=>by
   obtain⟨x,r,rfl,hx,t⟩:=aq.i_.mp h
   simp at e;subst e
   exact⟨x,rfl,hx⟩
 | d::ds,xs,i+1,d',h,e=>by
   obtain⟨x,r,rfl,hx,t⟩:=aq.i_.mp h
   obtain⟨y,e1,hy⟩:=aq.get (i:=i) t (by simpa using e)
   exact⟨y,by simpa using e1,hy⟩
def aq.yB{K:aE}{H:Hp}{ds:List D}{xs:List V}{i:Nat}{x:V}(h:aq K H ds xs)(e:xs[i]? = some x):∃d,ds[i]? = some d/\Is K H d x:=by
 have hi:i<xs.length:=(List.getElem?_eq_some_iff.mp e).1
 have hd:i<ds.length:=by rw[h.length];exact hi
 obtain⟨y,e1,hy⟩:=h.get (fu hd)
 rw[e] at e1;cases e1
 exact⟨_,fu hd,hy⟩
def aq.append{K:aE}{H:Hp}:∀{ds es:List D} {xs ys:List V},aq K H ds xs->aq K H es ys->aq K H (ds++es) (xs++ys)
 | [],_,_,_,h,t=>by rw[aq.jq.mp h];exact t
 | d::ds,es,xs,ys,h,t=>by
   obtain⟨x,r,rfl,hx,tr⟩:=aq.i_.mp h
   exact aq.cons hx (aq.append tr t)
def aq.drop{K:aE}{H:Hp}:∀{ds:List D} {xs:List V} (n:Nat),aq K H ds xs->aq K H (ds.drop n) (xs.drop n)
 | _,_,0,h=>h
 | [],xs,n+1,h=>by rw[aq.jq.mp h];exact aq.nil
 | d::ds,xs,n+1,h=>by
   obtain⟨x,r,rfl,hx,tr⟩:=aq.i_.mp h
   exact aq.drop n tr
def aq.take{K:aE}{H:Hp}:∀{ds:List D} {xs:List V} (n:Nat),aq K H ds xs->aq K H (ds.take n) (xs.take n)
 | _,_,0,_=>by rw[a5m,a5m];exact aq.nil
 | [],xs,n+1,h=>by rw[aq.jq.mp h];exact aq.nil
 | d::ds,xs,n+1,h=>by
   obtain⟨x,r,rfl,hx,tr⟩:=aq.i_.mp h
   exact aq.cons hx (aq.take n tr)
def aq.set{K:aE}{H:Hp}{d':D}{x':V}(q:Is K H d' x'):∀{ds:List D} {xs:List V} (n:Nat),aq K H ds xs->aq K H (ds.set n d') (xs.set n x')
 | [],xs,n,h=>by rw[aq.jq.mp h];exact aq.nil
 | d::ds,xs,0,h=>by
   obtain⟨x,r,rfl,hx,tr⟩:=aq.i_.mp h
   exact aq.cons q tr
 | d::ds,xs,n+1,h=>by
   obtain⟨x,r,rfl,hx,tr⟩:=aq.i_.mp h
   exact aq.cons hx (aq.set q n tr)
def aq.ints{K:aE}{H:Hp}:∀ns:List Int,aq K H (ns.map D.int) (ns.map V.int)
 | []=>aq.nil
 | n::ns=>aq.cons (Is.bZ.mpr rfl) (aq.ints ns)
def aq.Ge{K:aE}{H:Hp}:∀{ns:List Int} {xs:List V},aq K H (ns.map D.int) xs->xs=ns.map V.int
 | [],xs,h=>aq.jq.mp h
 | n::ns,xs,h=>by
   obtain⟨x,r,rfl,hx,tr⟩:=aq.i_.mp h
   rw[Is.bZ.mp hx,aq.Ge tr];rfl
def aH(F:List Addr)(H:Hp):Hp:=λb=>if b∈F then none else H b
def rX{F:List Addr}{H:Hp}{b:Addr}(h:b∈F):aH F H b=none:=by unfold aH;rw[if_pos h]
def di{F:List Addr}{H:Hp}{b:Addr}(h:b ∉ F):aH F H b=H b:=by unfold aH;rw[if_neg h]
def ja{F:List Addr}{H:Hp}{b:Addr}{o:HO}(h:aH F H b=some o):b ∉ F/\H b=some o:=by
 unfold aH at h
 by_cases q:b∈F
 ·rw[if_pos q] at h;cases h
 ·rw[if_neg q] at h;exact⟨q,h⟩
def bL(H:Hp)(F:List Addr):Prop:=∀b∈F,∃xs,H b=some (.lst xs)
def bL.same{H H':Hp}{F:List Addr}(h:bL H F)(e:aO H H'):bL H' F:=λb hb=>let ⟨xs,q⟩:=h b hb;⟨xs,e _ _ q⟩
def bL.nil{H:Hp}:bL H []:=λb hb=>by simp at hb
def bL.cons{H:Hp}{F:List Addr}{a:Addr}{xs:List V}(h:bL H F)(e:H a=some (.lst xs)):bL H (a::F):=λb hb=>by
 rcases List.mem_cons.mp hb with z | z
 ·subst z;exact⟨xs,e⟩
 ·exact h b z
def ZH{H:Hp}{F:List Addr}{a:Addr}:aO (aH (a::F) H) (aH F H):=λb o h=>by
 obtain⟨h1,h2⟩:=ja h
 rw[di λz=>h1 (ft _ z)];exact h2
def Gf{H H':Hp}{F:List Addr}{a:Addr}(e:aO H H')(hn:H a=none):aO (aH F H) (aH (a::F) H'):=λb o h=>by
 obtain⟨h1,h2⟩:=ja h
 rw[di λz=>(List.mem_cons.mp z).elim (λq=>by rw[q,hn] at h2;cases h2) h1]
 exact e _ _ h2
def iT{H H':Hp}{F:List Addr}(e:aO H H'):aO (aH F H) (aH F H'):=λb o h=>by
 obtain⟨h1,h2⟩:=ja h
 rw[di h1];exact e _ _ h2
def jA{H:Hp}{F:List Addr}:aO (aH F H) H:=λb o h=>(ja h).2
def OT{K:aE}{H:Hp}{F:List Addr}{a:Addr}{xs:List V}(fo:bL H F)(h:cC K H a xs):cC K (aH F H) a xs:=by
 rcases h with (h1 | ⟨o,h1⟩) | h1
 ·refine .inl (.inl ?_)
  rw[di λq=>by obtain⟨ys,z⟩:=fo a q;rw[h1] at z;cases z];exact h1
 ·refine .inl (.inr ⟨o,?_⟩)
  rw[di λq=>by obtain⟨ys,z⟩:=fo a q;rw[h1] at z;cases z];exact h1
 ·exact .inr h1
mutual
def Is.aH{K:aE}{H:Hp}{F:List Addr}(fo:bL H F):∀(d:D) (v:V),d.cE=true->Is K H d v->Is K (aH F H) d v
 | .cQ,_,_,h=>h
 | .bl _,_,_,h=>h
 | .int _,_,_,h=>h
 | .str _,_,_,h=>h
 | .tup ds,v,n,h=>by
   obtain⟨a,xs,e,h1,h2⟩:=Is.fB.mp h
   exact Is.fB.mpr ⟨a,xs,e,OT fo h1,aq.aH fo ds xs (by simpa [D.cE] using n) h2⟩
 | .lst ds,v,n,h=>by simp[D.cE] at n
 | .kn,v,n,h=>by simp[D.cE] at n
 | .exc c,v,n,h=>by
   unfold Is at h ⊢
   obtain⟨a,oe,C,e,h1,h2⟩:=h
   refine⟨a,oe,C,e,?_,h2⟩
   rw[di λq=>by obtain⟨ys,z⟩:=fo a q;rw[h1] at z;cases z];exact h1
def aq.aH{K:aE}{H:Hp}{F:List Addr}(fo:bL H F):∀(ds:List D) (xs:List V),D.bC ds=true->aq K H ds xs->aq K (aH F H) ds xs
 | [],_,_,h=>h
 | d::ds,xs,n,h=>by
   obtain⟨x,r,e,h1,h2⟩:=aq.i_.mp h
   have n':d.cE=true/\D.bC ds=true:=by simpa [D.bC] using n
   exact aq.i_.mpr ⟨x,r,e,Is.aH fo d x n'.1 h1,aq.aH fo ds r n'.2 h2⟩
end
structure Rel (K:aE) (H:Hp) (F:List Addr) (Γ:G) (σ:St):Prop where
 len:Γ.length=σ.length
 ro:∀(i:Nat) d,Γ[i]? = some (.ro d)->∃v,σ[i]? = some (some v)/\Is K (aH F H) d v
 own:∀(i:Nat) ds,Γ[i]? = some (.own ds)->∃a xs,σ[i]? = some (some (.ref a))/\a∈F/\H a=some (.lst xs)/\aq K (aH F H) ds xs
 inj:∀(i j:Nat) ds es a,Γ[i]? = some (.own ds)->Γ[j]? = some (.own es)->σ[i]? = some (some (.ref a))->σ[j]? = some (some (.ref a))->i=j
def Rel.same{K:aE}{H H':Hp}{F:List Addr}{Γ:G}{σ:St}(r:Rel K H F Γ σ)(e:aO H H'):Rel K H' F Γ σ :=
 ⟨r.len,λi d h=>let ⟨v,h1,h2⟩:=r.ro i d h;⟨v,h1,h2.same (iT e)⟩,λi ds h=>let ⟨a,xs,h1,h2,h3,h4⟩:=r.own i ds h;⟨a,xs,h1,h2,e _ _ h3,h4.same (iT e)⟩,r.inj⟩
def Rel.look{K:aE}{H:Hp}{F:List Addr}{Γ:G}{σ:St}(r:Rel K H F Γ σ){i:Nat}{d:D}(h:lk Γ i = .ok d):∃v,σ[i]? = some (some v)/\Is K H d v:=by
 unfold lk at h
 cases e:Γ[i]? with
 | none=>rw[e] at h;cases h
 | some en =>
   rw[e] at h
   cases en with
   | no=>cases h
   | ro d'=>cases h;obtain⟨v,h1,h2⟩:=r.ro i d e;exact⟨v,h1,h2.same jA⟩
   | own ds =>
     cases h
     obtain⟨a,xs,h1,h2,h3,h4⟩:=r.own i ds e
     exact⟨.ref a,h1,Is.fC.mpr ⟨a,xs,rfl,cA.of h3,h4.same jA⟩⟩
def Rel.ZI{K:aE}{H:Hp}{F:List Addr}{Γ:G}{σ:St}(r:Rel K H F Γ σ){i:Nat}{d:D}(h:o6 Γ i = .ok d):∃v,σ[i]? = some (some v)/\Is K (aH F H) d v:=by
 unfold o6 at h
 cases e:Γ[i]? with
 | none=>rw[e] at h;cases h
 | some en =>
   rw[e] at h
   cases en with
   | no=>cases h
   | ro d'=>cases h;exact r.ro i d e
   | own ds=>cases h
structure Ext (H:Hp) (F:List Addr) (H':Hp) (F':List Addr):Prop where
 keep:∀b o,b ∉ F->H b=some o->H' b=some o
 old:∀b,b∈F'->b∈F∨H b=none
def Ext.refl{H:Hp}{F:List Addr}:Ext H F H F:=⟨λ_ _ _ h=>h,λ_ h=>.inl h⟩
def Ext.of_same{H H':Hp}{F:List Addr}(e:aO H H'):Ext H F H' F:=⟨λ_ _ _ h=>e _ _ h,λ_ h=>.inl h⟩
def Ext.trans{H H1 H2:Hp}{F F1 F2:List Addr}(a:Ext H F H1 F1)(b:Ext H1 F1 H2 F2):Ext H F H2 F2 where
 keep:=λc o hc h=>b.keep c o (λz=>(a.old c z).elim hc λn=>by rw[h] at n;cases n) (a.keep c o hc h)
 old:=λc hc=>by
  rcases b.old c hc with h | h
  ·exact a.old c h
  ·by_cases q:c∈F
   ·exact .inl q
   ·refine .inr ?_
    cases e:H c with
    | none=>rfl
    | some o=>rw[a.keep c o q e] at h;cases h
def Ext.same{H H':Hp}{F':List Addr}(e:Ext H [] H' F'):aO H H':=λb o h=>e.keep b o (by simp) h
def Ext.aH{H H':Hp}{F F':List Addr}(e:Ext H F H' F'):aO (aH F H) (aH F' H'):=λb o h=>by
 obtain⟨h1,h2⟩:=ja h
 have h3:=e.keep b o h1 h2
 rw[di λz=>(e.old b z).elim h1 λn=>by rw[h2] at n;cases n]
 exact h3
def pA(X:Cx)(pins:List (Addr×Obj))(σ:St)(H:Hp)(c:Er)(x:Value)(s:ah):Prop :=
 Inv X pins σ H s/\∃(e C:Addr) (oe:Obj) (vs:Array Value),x = .ref e/\X.mg c.nm=some (.ref C)/\H e=none/\X.s₀.heap.get? e=none/\e≠X.env.locals/\(∀y k,X.env.cells.lookup y=some k->k≠e)/\(∀p∈X.pn++pins,p.1≠e) /\
  s.heap.get? e=some oe/\oe.cls = .ref C/\oe.data = .fields vs/\(∃a0,vs[0]? = some a0) /\
  (vs[1]? = some .none∨∃(T:Addr) (oT:Obj) (ts:Array Value),vs[1]? = some (.ref T)/\H T=none/\X.s₀.heap.get? T=none/\T≠X.env.locals/\(∀y k,X.env.cells.lookup y=some k->k≠T)/\(∀p∈X.pn++pins,p.1≠T)/\T≠e /\
    s.heap.get? T=some oT/\oT.data = .fields ts/\(ts[3]? = some .none∨∃L,X.env.frame=some L/\ts[3]? = some (lB L)))
def du(X:Cx)(pins:List (Addr×Obj))(σ:St)(H:Hp)(r:R D)(u:Value)(s':ah):Prop :=
 ∃d v H',r = .ok d/\Inv X pins σ H' s'/\RelV v u/\aO H H'/\Is X.K H' d v
def cw{α:Type}(X:Cx)(pins:List (Addr×Obj))(σ:St)(H:Hp)(r:R α)(x:Value)(s':ah):Prop :=
 ∃c H',r = .er c/\aO H H'/\pA X pins σ H' c x s'
def cw.bind{α β:Type}{X:Cx}{pins:List (Addr×Obj)}{σ:St}{H:Hp}{r:R α}{x:Value}{s':ah}(h:cw X pins σ H r x s')(k:α->R β):cw X pins σ H (r>>=k) x s':=by
 obtain⟨c,H',e,h1,h2⟩:=h
 exact⟨c,H',R.stop e k,h1,h2⟩
def cw.later{α β:Type}{X:Cx}{pins:List (Addr×Obj)}{σ:St}{H H1:Hp}{r:R α}{a:α}{k:α->R β}{x:Value}{s':ah}(e:r = .ok a)(s:aO H H1)(h:cw X pins σ H1 (k a) x s'):cw X pins σ H (r>>=k) x s':=by
 obtain⟨c,H',e1,h1,h2⟩:=h
 exact⟨c,H',(R.step e k).trans e1,s.trans h1,h2⟩
structure PD (X:Cx) (e:Expr) (g:G->R D):Prop where
 run:∀(pins:List (Addr×Obj)) (s:ah) (σ:St) (H:Hp) (F:List Addr) (Γ:G),Inv X pins σ H s->bL H F->Rel X.K H F Γ σ->g Γ ≠ .no ->
  au (aD X.prog X.w) X.A (eval e X.env) (du X pins σ H (g Γ)) (cw X pins σ H (g Γ)) s
structure ij (X:Cx) (e:Expr) (g:G->R D):Prop where
 run:∀(pins:List (Addr×Obj)) (s:ah) (σ:St) (H:Hp) (F:List Addr) (Γ:G),Inv X pins σ H s->bL H F->Rel X.K H F Γ σ->g Γ ≠ .no ->
  au (aD X.prog X.w) X.A (eval e X.env) (λu s'=>∃d v H',g Γ = .ok d/\Inv X pins σ H' s'/\RelV v u/\aO H H'/\Is X.K (aH F H') d v) (cw X pins σ H (g Γ)) s
structure PF (X:Cx) (e:Expr) (g:G->R (List D)):Prop where
 run:∀(pins:List (Addr×Obj)) (s:ah) (σ:St) (H:Hp) (F:List Addr) (Γ:G),Inv X pins σ H s->bL H F->Rel X.K H F Γ σ->g Γ ≠ .no ->
  au (aD X.prog X.w) X.A (eval e X.env) (λu s'=>∃ds a xs H',g Γ = .ok ds/\Inv X pins σ H' s'/\u = .ref a/\aO H H'/\H a=none/\H' a=some (.lst xs)/\aq X.K (aH (a::F) H') ds xs) (cw X pins σ H (g Γ)) s
structure jB (X:Cx) (e:Expr) (g:G->R Bool):Prop where
 run:∀(pins:List (Addr×Obj)) (s:ah) (σ:St) (H:Hp) (F:List Addr) (Γ:G),Inv X pins σ H s->bL H F->Rel X.K H F Γ σ->g Γ ≠ .no ->
  au (aD X.prog X.w) X.A (nS e X.env (eval e X.env)) (λb s'=>∃H',g Γ = .ok b/\Inv X pins σ H' s'/\aO H H') (cw X pins σ H (g Γ)) s
structure iU (X:Cx) (e:Expr) (g:G->R Bool):Prop where
 run:∀(whole:Sem Value) (pins:List (Addr×Obj)) (s:ah) (σ:St) (H:Hp) (F:List Addr) (Γ:G),Inv X pins σ H s->bL H F->Rel X.K H F Γ σ->g Γ ≠ .no ->
  au (aD X.prog X.w) X.A (nS e X.env whole) (λb s'=>∃H',g Γ = .ok b/\Inv X pins σ H' s'/\aO H H') (cw X pins σ H (g Γ)) s
def iU.pt{X:Cx}{e:Expr}{g:G->R Bool}(h:iU X e g):jB X e g:=⟨h.run _⟩
structure nv (X:Cx) (es:List Expr) (g:G->R (List D)):Prop where
 run:∀(pos:Pos) (pins:List (Addr×Obj)) (s:ah) (σ:St) (H:Hp) (F:List Addr) (Γ:G),Inv X pins σ H s->bL H F->Rel X.K H F Γ σ->g Γ ≠ .no ->
  au (aD X.prog X.w) X.A (e9 (cH pos (aT es X.env))) (λus s'=>∃ds vs H',g Γ = .ok ds/\Inv X pins σ H' s'/\Vals vs us/\aO H H'/\aq X.K H' ds vs) (cw X pins σ H (g Γ)) s
section
variable {X:Cx}{e a b c:Expr}{g ga gb gc:G->R D}{pos:Pos}
def ij.pd(h:ij X e g):PD X e g:=⟨λpins s σ H F Γ I fo rl hg =>
 ic (h.run pins s σ H F Γ I fo rl hg) λ_ _ ⟨d,v,H',e1,I',r,S,i⟩=>⟨d,v,H',e1,I',r,S,i.same jA⟩⟩
def PD.ro(h:PD X e g):ij X e (aG g):=⟨λpins s σ H F Γ I fo rl hg =>
 az (h.run pins s σ H F Γ I fo rl (R.left hg)) (λ_ _ ⟨d,v,H',e1,I',r,S,i⟩=>by
  have fL:=R.next hg e1
  obtain⟨n,e2⟩:=R.cU fL
  exact⟨d,v,H',(R.step e1 _).trans e2,I',r,S,Is.aH (fo.same S) d v n i⟩) λ_ _ x=>x.bind _⟩
def PF.ro{g:G->R (List D)}(h:PF X e g):ij X e (gL g):=⟨λpins s σ H F Γ I fo rl hg =>
 az (h.run pins s σ H F Γ I fo rl (R.left hg)) (λ_ _ ⟨ds,p,xs,H',e1,I',eu,S,hn,hp,i⟩=>by
  have hF:p ∉ F:=λz=>by obtain⟨ys,q⟩:=fo p z;rw[hn] at q;cases q
  exact⟨.lst ds,.ref p,H',(R.step e1 _),I',eu,S,Is.fC.mpr ⟨p,xs,rfl,cA.of (by rw[di hF];exact hp),i.same ZH⟩⟩) λ_ _ x=>x.bind _⟩
def PF.pd{g:G->R (List D)}(h:PF X e g):PD X e (gL g):=h.ro.pd
def PD.of{t:TE}(h:PE X.bY e t)(hq:∀σ H F Γ,bL H F->Rel X.K H F Γ σ->g Γ ≠ .no->t σ H λv H'=>∃d,g Γ = .ok d/\aO H H'/\Is X.K H' d v):PD X e g:=⟨λpins s σ H F Γ I fo rl hg =>
 az (h pins s σ H _ (I.dB _) (hq σ H F Γ fo rl hg)) (λ_ _ ⟨v,H',I',r,d,e1,S,i⟩=>⟨d,v,H',e1,I'.fw,r,S,i⟩) λ_ _ z=>cx z⟩
def af(i:Nat){x:Str}(hN:X.N[i]? = some x:=by rfl)(hv:lI X.env.scope x:=by first | exact gq rfl | exact dX (gq rfl) | exact dX (dX rfl))(hd:(x==("__debug__":Str))=false:=by decide)
 (dY:(x==("__classdict__":Str))=false:=by decide):PD X (.Name x pos) (gV i) :=
 PD.of (t:=Lb i) (p6 (X:=X.bY) hN hv hd dY) λσ H F Γ fo rl hg=>by
  obtain⟨d,e⟩:=VP hg
  obtain⟨v,h1,h2⟩:=rl.look e
  exact⟨v,h1,d,e,.refl _,h2⟩
def fM(i:Nat){x:Str}(hN:X.N[i]? = some x:=by rfl)(hv:lI X.env.scope x:=by first | exact gq rfl | exact dX (gq rfl) | exact dX (dX rfl))(hd:(x==("__debug__":Str))=false:=by decide)
 (dY:(x==("__classdict__":Str))=false:=by decide):ij X (.Name x pos) (df i):=by
 refine⟨λpins s σ H F Γ I fo rl hg=>?_⟩
 obtain⟨d,e⟩:=VQ hg
 obtain⟨v,h1,h2⟩:=rl.ZI e
 exact az (p6 (X:=X.bY) hN hv hd dY pins s σ H (λv' H'=>v'=v/\H'=H) (I.dB _) ⟨v,h1,rfl,rfl⟩) (λ_ _ ⟨v',H',I',r,e1,e2⟩=>by
  subst e1 e2
  exact⟨d,v',H',e,I'.fw,r,.refl _,h2⟩) λ_ _ z=>cx z
def aA{i:Int}{j}:PD X (.Constant (.int i) j pos) (gC (.int i)):=PD.of (t:=tC (.int i)) Ue λ_ _ _ _ _ _ _=>⟨_,rfl,.refl _,Is.bZ.mpr rfl⟩
def ny{b:Bool}{j}:PD X (.Constant (.bool b) j pos) (gC (.bl b)):=PD.of (t:=tC (.bl b)) Ug λ_ _ _ _ _ _ _=>⟨_,rfl,.refl _,Is.gD.mpr rfl⟩
def bI{x:Str}{j}:PD X (.Constant (.str x) j pos) (gC (.str x)):=PD.of (t:=tC (.str x)) Uh λ_ _ _ _ _ _ _=>⟨_,rfl,.refl _,Is.iC.mpr rfl⟩
def OU{x:Str}{d:D}{v:V}{u:Value}(hg:Gl X x)(hm:X.mg x=some u)(r:RelV v u)(i:∀H,Is X.K H d v)(hd:(x==("__debug__":Str))=false:=by decide):PD X (.Name x pos) (gC d) :=
 PD.of (t:=tC v) (Ui (X:=X.bY) hg hm r hd) λ_ H _ _ _ _ _=>⟨_,rfl,.refl _,i H⟩
def gE(X:Cx)(f:Value->Value->Sem Value)(g:D->D->R D):Prop:=∃r:R2,fH X.bY f r/\∀H x y dx dy,Is X.K H dx x->Is X.K H dy y->g dx dy ≠ .no->r x y H λz H'=>∃d,g dx dy = .ok d/\aO H H'/\Is X.K H' d z
def gE.run{f:Value->Value->Sem Value}{g:D->D->R D}(h:gE X f g){pins:List (Addr×Obj)}{s:ah}{σ:St}{H:Hp}{x y:V}{v u:Value}{dx dy:D}(I:Inv X pins σ H s)(rx:RelV x v)(ry:RelV y u)
 (ix:Is X.K H dx x) (iy:Is X.K H dy y) (hg:g dx dy ≠ .no) {E:Value->ah->Prop}:au (aD X.prog X.w) X.A (f v u) (du X pins σ H (g dx dy)) E s:=by
 obtain⟨r,ho,hr⟩:=h
 exact az (ho pins s σ H x y v u _ (I.dB _) rx ry (hr H x y dx dy ix iy hg)) (λ_ _ ⟨z,H',I',rz,d,e,S,i⟩=>⟨d,z,H',e,I'.fw,rz,S,i⟩) λ_ _ z=>cx z
def du.bind{pins:List (Addr×Obj)}{σ:St}{H H1:Hp}{α:Type}{r:R α}{k:α->R D}{a:α}{u:Value}{s':ah}(e:r = .ok a)(S:aO H H1)(h:du X pins σ H1 (k a) u s'):du X pins σ H (r>>=k) u s':=by
 obtain⟨d,v,H',e1,I,rv,S1,i⟩:=h
 exact⟨d,v,H',(R.step e k).trans e1,I,rv,S.trans S1,i⟩
def Gg{g2:D->D->R D}{f:Value->Value->Sem Value}(ho:gE X f g2)(ha:PD X a ga)(hb:PD X b gb){pins:List (Addr×Obj)}{s:ah}{σ:St}{H:Hp}{F:List Addr}{Γ:G}(I:Inv X pins σ H s)(fo:bL H F)(rl:Rel X.K H F Γ σ)(hg:aj g2 ga gb Γ ≠ .no) :
 au (aD X.prog X.w) X.A (eval a X.env) (λv cD=>au (aD X.prog X.w) X.A (eval b X.env) (λu ax=>au (aD X.prog X.w) X.A (f v u) (du X pins σ H (aj g2 ga gb Γ)) (cw X pins σ H (aj g2 ga gb Γ)) ax) (cw X pins σ H (aj g2 ga gb Γ)) cD) (cw X pins σ H (aj g2 ga gb Γ)) s:=by
 refine az (ha.run pins s σ H F Γ I fo rl (R.left hg)) (λv s1 ⟨dx,x,H1,e1,I1,r1,S1,i1⟩=>?_) λ_ _ x=>x.bind _
 have aM:=R.next hg e1
 refine az (hb.run pins s1 σ H1 F Γ I1 (fo.same S1) (rl.same S1) (R.left aM)) (λu s2 ⟨dy,y,H2,e2,I2,r2,S2,i2⟩=>?_) λ_ _ x=>cw.later e1 S1 (x.bind _)
 have dC:=R.next aM e2
 exact ic (ho.run I2 r1 r2 (i1.same S2) i2 dC) λ_ _ q=>du.bind e1 S1 (du.bind e2 S2 q)
def aP{op:Operator}{g2:D->D->R D}(ho:gE X (iI op) g2)(ha:PD X a ga)(hb:PD X b gb):PD X (.BinOp a op b pos) (aj g2 ga gb):=⟨λpins s σ H F Γ I fo rl hg=>Ta (Gg ho ha hb I fo rl hg)⟩
def mi{op:JX}{g2:D->D->R D}(ho:gE X (iY op) g2)(ha:PD X a ga)(hb:PD X b gb)(hm:CH op b=false):PD X (.Compare a [op] [b] pos) (aj g2 ga gb):=⟨λpins s σ H F Γ I fo rl hg=>wpAny_Compare1 (Gg ho ha hb I fo rl hg) hm⟩
def OV{pins:List (Addr×Obj)}{σ:St}{H:Hp}{r:R D}{u:Value}{s':ah}(h:du X pins σ H r u s')(hg:(r>>=rj) ≠ .no):∃b H',u = .bool b/\(r>>=rj) = .ok b/\Inv X pins σ H' s'/\aO H H':=by
 obtain⟨d,v,H',e1,I,rv,S,i⟩:=h
 obtain⟨b,rfl,e2⟩:=DC (R.next hg e1)
 rw[Is.gD.mp i] at rv
 exact⟨b,H',rv,(R.step e1 _).trans e2,I,S⟩
def b9{op:JX}{g2:D->D->R D}(ho:gE X (iY op) g2)(ha:PD X a ga)(hb:PD X b gb)(hm:CH op b=false):jB X (.Compare a [op] [b] pos) (gT (aj g2 ga gb)):=by
 refine⟨λpins s σ H F Γ I fo rl hg=>?_⟩
 refine a5n (az (Gg ho ha hb I fo rl (R.left hg)) (λv s1 h1=>az h1 (λu s2 h2=>az h2 (λz s3 h3=>?_) λ_ _ x=>x.bind _) λ_ _ x=>x.bind _) λ_ _ x=>x.bind _) hm
 obtain⟨b,H',rfl,e,I',S⟩:=OV h3 hg
 exact wW ⟨H',e,I',S⟩
def nA(ha:PD X a ga)(he:∀whole,nS a X.env whole=(do let v <-whole;Tb a.pos;zR [v] (truthy v)):=by intro _;rfl):jB X a (gT ga):=by
 refine⟨λpins s σ H F Γ I fo rl hg=>?_⟩
 refine isTrue_plain (az (ha.run pins s σ H F Γ I fo rl (R.left hg)) (λv s1 h3=>?_) λ_ _ x=>x.bind _) (he _)
 obtain⟨b,H',rfl,e,I',S⟩:=OV h3 hg
 exact wW ⟨H',e,I',S⟩
variable {gA gB:G->R Bool}{rest:List Expr}
def vO(ha:jB X a gA):iU X (.BoolOp .And [a] pos) gA:=by
 refine⟨λwh pins s σ H F Γ I fo rl hg=>?_⟩
 refine isTrue_and (ic (ha.run pins s σ H F Γ I fo rl hg) λc s1 e=>?_)
 cases c with
 | true=>exact isTrue_and_nil e
 | false=>exact e
def vP(ha:jB X a gA):iU X (.BoolOp .Or [a] pos) gA:=by
 refine⟨λwh pins s σ H F Γ I fo rl hg=>?_⟩
 refine isTrue_or (ic (ha.run pins s σ H F Γ I fo rl hg) λc s1 e=>?_)
 cases c with
 | false=>exact isTrue_or_nil e
 | true=>exact e
def tR(ha:jB X a gA)(hb:iU X (.BoolOp .And (b::rest) pos) gB):iU X (.BoolOp .And (a::b::rest) pos) (jt gA gB):=by
 refine⟨λwh pins s σ H F Γ I fo rl hg=>?_⟩
 refine isTrue_and (az (ha.run pins s σ H F Γ I fo rl (R.left hg)) (λc s1 ⟨H1,e1,I1,S1⟩=>?_) λ_ _ x=>x.bind _)
 have aM:=R.next hg e1
 cases c with
 | true=>exact az (hb.run wh pins s1 σ H1 F Γ I1 (fo.same S1) (rl.same S1) aM) (λ_ _ ⟨H2,e2,I2,S2⟩=>⟨H2,(R.step e1 _).trans e2,I2,S1.trans S2⟩) λ_ _ x=>cw.later e1 S1 x
 | false=>exact⟨H1,R.step e1 _,I1,S1⟩
def qr(ha:jB X a gA)(hb:iU X (.BoolOp .Or (b::rest) pos) gB):iU X (.BoolOp .Or (a::b::rest) pos) (jJ gA gB):=by
 refine⟨λwh pins s σ H F Γ I fo rl hg=>?_⟩
 refine isTrue_or (az (ha.run pins s σ H F Γ I fo rl (R.left hg)) (λc s1 ⟨H1,e1,I1,S1⟩=>?_) λ_ _ x=>x.bind _)
 have aM:=R.next hg e1
 cases c with
 | false=>exact az (hb.run wh pins s1 σ H1 F Γ I1 (fo.same S1) (rl.same S1) aM) (λ_ _ ⟨H2,e2,I2,S2⟩=>⟨H2,(R.step e1 _).trans e2,I2,S1.trans S2⟩) λ_ _ x=>cw.later e1 S1 x
 | true=>exact⟨H1,R.step e1 _,I1,S1⟩
def pB(ha:jB X a gA):jB X (.UnaryOp .Not a pos) (jK gA):=⟨λpins s σ H F Γ I fo rl hg =>
 isTrue_not (az (ha.run pins s σ H F Γ I fo rl (R.left hg)) (λc s1 ⟨H1,e1,I1,S1⟩=>⟨H1,R.step e1 _,I1,S1⟩) λ_ _ x=>x.bind _)⟩
def vQ{op}(h:PD X a ga):PD X (.BoolOp op [a] pos) ga:=⟨λpins s σ H F Γ I fo rl hg=>BoolOp_one (h.run pins s σ H F Γ I fo rl hg)⟩
def qt(ha:PD X a ga)(hb:PD X (.BoolOp .And (b::rest) pos) gb):PD X (.BoolOp .And (a::b::rest) pos) (kQ ga gb):=by
 refine⟨λpins s σ H F Γ I fo rl hg=>?_⟩
 refine BoolOp_and (az (ha.run pins s σ H F Γ I fo rl (R.left hg)) (λv s1 ⟨d,x,H1,e1,I1,r1,S1,i1⟩=>?_) λ_ _ x=>x.bind _)
 have aM:=R.next hg e1
 obtain⟨k,rfl,e2⟩:=DC (R.left aM)
 have dC:=R.next aM e2
 rw[Is.gD.mp i1] at r1
 cases r1
 refine wW ?_
 cases k with
 | true=>exact az (hb.run pins s1 σ H1 F Γ I1 (fo.same S1) (rl.same S1) dC) (λ_ _ q=>du.bind e1 S1 (du.bind e2 (.refl _) q)) λ_ _ q=>cw.later e1 S1 (cw.later e2 (.refl _) q)
 | false=>exact du.bind e1 S1 (du.bind e2 (.refl _) ⟨.bl false,.bl false,H1,rfl,I1,rfl,.refl _,Is.gD.mpr rfl⟩)
def ZJ(ha:PD X a ga):PD X (.UnaryOp .Not a pos) (DD ga):=by
 refine⟨λpins s σ H F Γ I fo rl hg=>?_⟩
 refine UnaryOp_ (az (ha.run pins s σ H F Γ I fo rl (R.left hg)) (λv s1 ⟨d,x,H1,e1,I1,r1,S1,i1⟩=>?_) λ_ _ x=>x.bind _)
 have aM:=R.next hg e1
 obtain⟨k,rfl,e2⟩:=DC (R.left aM)
 rw[Is.gD.mp i1] at r1
 cases r1
 exact not_of (wW (du.bind e1 S1 (du.bind e2 (.refl _) ⟨.bl (!k),.bl (!k),H1,rfl,I1,rfl,.refl _,Is.gD.mpr rfl⟩)))
def BL(ha:PD X a ga):PD X (.UnaryOp .USub a pos) (kR ga):=by
 refine⟨λpins s σ H F Γ I fo rl hg=>?_⟩
 refine UnaryOp_ (az (ha.run pins s σ H F Γ I fo rl (R.left hg)) (λv s1 ⟨d,x,H1,e1,I1,r1,S1,i1⟩=>?_) λ_ _ x=>x.bind _)
 have aM:=R.next hg e1
 cases d with
 | int i =>
   rw[Is.bZ.mp i1] at r1
   obtain⟨t,rfl⟩:=r1
   exact neg_int (du.bind e1 S1 ⟨.int (-i),.int (-i),H1,rfl,I1.tok _,⟨_,rfl⟩,.refl _,Is.bZ.mpr rfl⟩)
 | _=>exact absurd rfl aM
def ZK(hc:jB X c gA)(ha:PD X a ga)(hb:PD X b gb):PD X (.IfExp c a b pos) (DE gA ga gb):=by
 refine⟨λpins s σ H F Γ I fo rl hg=>?_⟩
 refine wpAny_IfExp (az (hc.run pins s σ H F Γ I fo rl (R.left hg)) (λk s1 ⟨H1,e1,I1,S1⟩=>?_) λ_ _ x=>x.bind _)
 have aM:=R.next hg e1
 cases k with
 | true=>exact az (ha.run pins s1 σ H1 F Γ I1 (fo.same S1) (rl.same S1) aM) (λ_ _ q=>du.bind e1 S1 q) λ_ _ q=>cw.later e1 S1 q
 | false=>exact az (hb.run pins s1 σ H1 F Γ I1 (fo.same S1) (rl.same S1) aM) (λ_ _ q=>du.bind e1 S1 q) λ_ _ q=>cw.later e1 S1 q
variable {es:List Expr}{gs:G->R (List D)}
def av:nv X [] ao:=⟨λpos pins s σ H F Γ I fo rl hg=>iJ ⟨[],[],H,rfl,I,.nil,.refl _,aq.nil⟩⟩
def ak(ha:PD X e g)(hr:nv X es gs)(hs:aT (e::es) X.env=(false,eval e X.env)::aT es X.env:=by rfl):nv X (e::es) (ae g gs):=by
 refine⟨λpos pins s σ H F Γ I fo rl hg=>?_⟩
 rw[hs]
 show au _ _ (e9 ((false,eval e X.env)::cH pos (aT es X.env))) _ _ s
 refine fT (az (ha.run pins s σ H F Γ I fo rl (R.left hg)) (λu s1 ⟨d,x,H1,e1,I1,r1,S1,i1⟩=>?_) λ_ _ x=>x.bind _)
 have aM:=R.next hg e1
 refine az (hr.run pos pins s1 σ H1 F Γ I1 (fo.same S1) (rl.same S1) (R.left aM)) (λus s2 ⟨ds,vs,H2,e2,I2,r2,S2,i2⟩=>?_) λ_ _ x=>cw.later e1 S1 (x.bind _)
 exact⟨d::ds,x::vs,H2,(R.step e1 _).trans (R.step e2 _),I2,.cons r1 r2,S1.trans S2,aq.cons (i1.same S2) i2⟩
def qu{n:Nat}(h:n<=1000):n<=b5:=JU (VF h)
def g7{H:Hp}{p:Addr}(h:H p=none)(o:HO):aO H (upd H p o):=λb u q=>by rw[bM (ib q h)];exact q
def iV{x1}(h:nv X es gs):PD X (.Tuple es x1 pos) (d_ gs):=by
 refine⟨λpins s σ H F Γ I fo rl hg=>?_⟩
 refine a5o (az (h.run pos pins s σ H F Γ I fo rl (R.left hg)) (λus s1 ⟨ds,vs,H1,e1,I1,r1,S1,i1⟩=>?_) λ_ _ x=>x.bind _)
 have fL:=R.next hg e1
 obtain⟨hl,e2⟩:=R.cU fL
 have hz:vs.length<=b5:=by rw[<-i1.length];exact qu hl
 refine⟨by rw[<-r1.length];exact hz,?_⟩
 have hf:H1 s1.heap.objs.size=none:=I1.aN.fresh (a9 _)
 have S2:=g7 hf (.tup vs)
 refine du.bind e1 S1 ⟨.tup ds,.ref s1.heap.objs.size,upd H1 s1.heap.objs.size (.tup vs),e2,I1.laid (t':=s1.toks) (λb u e=>dE _ e) (a9 _) ?_,rfl,S2,Is.fB.mpr ⟨_,vs,rfl,cC.of dj,i1.same S2⟩⟩
 exact⟨hz,us,r1,⟨_,gf _ rfl,rfl,_,rfl⟩⟩
def dJ(h:nv X es gs):PF X (.List es pos) (b_ gs):=by
 refine⟨λpins s σ H F Γ I fo rl hg=>?_⟩
 refine a5p (az (h.run pos pins s σ H F Γ I fo rl (R.left hg)) (λus s1 ⟨ds,vs,H1,e1,I1,r1,S1,i1⟩=>?_) λ_ _ x=>x.bind _)
 have fL:=R.next hg e1
 obtain⟨⟨hl,hn⟩,e2⟩:=R.cU fL
 have hz:vs.length<=b5:=by rw[<-i1.length];exact qu hl
 refine⟨by rw[<-r1.length];exact hz,?_⟩
 have hf:H1 s1.heap.objs.size=none:=I1.aN.fresh (a9 _)
 have S2:=g7 hf (.lst vs)
 have hH:H s1.heap.objs.size=none:=S1.free hf
 refine⟨ds,s1.heap.objs.size,vs,upd H1 s1.heap.objs.size (.lst vs),(R.step e1 _).trans e2,I1.laid (t':=s1.toks) (λb u e=>dE _ e) (a9 _) ?_,rfl,S1.trans S2,hH,dj,?_⟩
 ·exact⟨hz,us,0,r1,gf _ rfl⟩
 ·exact aq.aH (((fo.same S1).same S2).cons dj) ds vs hn (i1.same S2)
end
section
variable {X:Cx}{e a b c:Expr}{g ga gb gc:G->R D}{pos:Pos}
def BM{f:Value->Value->Sem Value}{C:Int->Int->Prop}[∀i j,Decidable (C i j)]{v:Int->Int->V}{d:Int->Int->D}(hd:∀K H i j,Is K H (d i j) (v i j))(ho:fH X.bY f (rI C v)) :
 gE X f (λx y=>match x,y with | .int i,.int j=>R.guard (C i j) (.ok (d i j)) | _,_=>.no):=by
 refine⟨_,ho,λH x y dx dy ix iy hg=>?_⟩
 cases dx with
 | int i =>
   cases dy with
   | int j =>
     obtain⟨hc,e⟩:=R.cU (show R.guard (C i j) (.ok (d i j)) ≠ .no from hg)
     exact⟨i,j,Is.bZ.mp ix,Is.bZ.mp iy,hc,d i j,e,.refl _,hd _ _ _ _⟩
   | _=>exact absurd rfl hg
 | _=>exact absurd rfl hg
def yC{f:Value->Value->Sem Value}{v:Int->Int->V}{d:Int->Int->D}(hd:∀K H i j,Is K H (d i j) (v i j))(ho:fH X.bY f (p8 v)) :
 gE X f (λx y=>match x,y with | .int i,.int j=>.ok (d i j) | _,_=>.no):=by
 refine⟨_,ho,λH x y dx dy ix iy hg=>?_⟩
 cases dx with
 | int i =>
   cases dy with
   | int j=>exact⟨i,j,Is.bZ.mp ix,Is.bZ.mp iy,d i j,rfl,.refl _,hd _ _ _ _⟩
   | _=>exact absurd rfl hg
 | _=>exact absurd rfl hg
def tS:gE X (iI .Sub) kS:=yC (d:=λi j=>.int (i-j)) (λ_ _ _ _=>Is.bZ.mpr rfl) Uv
def jb:gE X (iI .FloorDiv) fV:=BM (d:=λi j=>.int (i/j)) (λ_ _ _ _=>Is.bZ.mpr rfl) (C:=λi j=>0<j/\j<1073741824) Ux
def fg:gE X (iI .Mod) cM:=BM (d:=λi j=>.int (i%j)) (λ_ _ _ _=>Is.bZ.mpr rfl) (C:=λi j=>0<j) Uy
def BN:gE X (iI .Pow) o7:=BM (d:=λi j=>.int (i^j.toNat)) (λ_ _ _ _=>Is.bZ.mpr rfl) (C:=λi j=>0<=j/\j<=1000000/\i.natAbs<18446744073709551616) Uz
def BO:gE X (iY .Lt) rk:=yC (d:=λi j=>.bl (decide (i<j))) (λ_ _ _ _=>Is.gD.mpr rfl) UB
def yD:gE X (iY .LtE) qd:=yC (d:=λi j=>.bl (decide (i<=j))) (λ_ _ _ _=>Is.gD.mpr rfl) UC
def vR:gE X (iY .Gt) o8:=yC (d:=λi j=>.bl (decide (j<i))) (λ_ _ _ _=>Is.gD.mpr rfl) UD
def Gh:gE X (iY .GtE) xJ:=yC (d:=λi j=>.bl (decide (j<=i))) (λ_ _ _ _=>Is.gD.mpr rfl) UE
def ZL(K:aE):R2:=λx y H Q=>∃a b xs ys,x = .ref a/\y = .ref b/\cC K H a xs/\cC K H b ys/\xs.length+ys.length<=b5 /\
 (xs=[]->Q (.ref b) H)/\(xs≠[]->ys=[]->Q (.ref a) H)/\(xs≠[]->ys≠[]->∀p,H p=none->Q (.ref p) (upd H p (.tup (xs++ys))))
def ZM:fH X (iI .Add) (ZL X.K):=by
 intro pins s σ H x y v u Q I rx ry h
 obtain⟨a,b,xs,ys,rfl,rfl,ha,hb,hz,q0,q1,q2⟩:=h
 by_cases hx:xs=[]
 ·cases rx
  cases ry
  obtain⟨its,r1,p1,_⟩:=I.tuple ha
  obtain⟨o4,r2,p2,_⟩:=I.tuple hb
  have hi:its=[]:=r1.jq.mpr hx
  obtain⟨⟨cls,dd,data,sl⟩,ho,hc,n,hd⟩:=id p1
  obtain⟨⟨UT,Ap,data2,Aq⟩,sQ,n4,n2,hd2⟩:=id p2
  simp only at hc hd n4 hd2
  subst hc hd n4 hd2
  exact J2 ⟨_,ho,rfl⟩ ⟨_,sQ,rfl⟩ Sj Sk Sl Sm (Sn _ _)
   (tuple_addW0 a b its.toArray o4.toArray n n2 dd Ap sl Aq (by rw[hi];rfl)) ⟨ho,sQ,⟨.ref b,H,I,rfl,q0 hx⟩⟩
 ·exact U3 pins s σ H _ _ v u Q I rx ry ⟨a,b,xs,ys,rfl,rfl,ha,hb,hx,hz,q1 hx,q2 hx⟩
def fh:gE X (iI .Add) dm:=by
 refine⟨_,fH.or (Uu (X:=X.bY)) (ZM (X:=X.bY)),λH x y dx dy ix iy hg=>?_⟩
 cases dx with
 | int i =>
   cases dy with
   | int j=>exact .inl ⟨i,j,Is.bZ.mp ix,Is.bZ.mp iy,.int (i+j),rfl,.refl _,Is.bZ.mpr rfl⟩
   | _=>exact absurd rfl hg
 | tup ds =>
   cases dy with
   | tup es =>
     obtain⟨hc,e⟩:=R.cU (show R.guard (ds.length+es.length<=1000) (R.ok (D.tup (ds++es)))≠R.no from hg)
     obtain⟨a,xs,rfl,h1,h2⟩:=Is.fB.mp ix
     obtain⟨b,ys,rfl,h3,h4⟩:=Is.fB.mp iy
     refine .inr ⟨a,b,xs,ys,rfl,rfl,h1,h3,by rw[<-h2.length,<-h4.length];exact qu hc,λz=>?_,λz z'=>?_,λz z' p hp=>?_⟩
     ·refine⟨.tup (ds++es),e,.refl _,Is.fB.mpr ⟨b,ys,rfl,h3,?_⟩⟩
      have:ds=[]:=List.length_eq_zero_iff.mp (by rw[h2.length,z];rfl)
      rw[this];exact h4
     ·refine⟨.tup (ds++es),e,.refl _,Is.fB.mpr ⟨a,xs,rfl,h1,?_⟩⟩
      have:es=[]:=List.length_eq_zero_iff.mp (by rw[h4.length,z'];rfl)
      rw[this,kJ];exact h2
     ·have S:=g7 hp (.tup (xs++ys))
      exact⟨.tup (ds++es),e,S,Is.fB.mpr ⟨p,xs++ys,rfl,cC.of dj,(h2.append h4).same S⟩⟩
   | _=>exact absurd rfl hg
 | _=>exact absurd rfl hg
def ZN(l:Addr)(items:Array Value)(n:Nat)(dd:Option Addr)(sl:Array (Option Value))(k:Int)(u:Tok)(h1:(decide (k < -(2^63))||decide (k≥2^63))=false)(hc:(items.isEmpty||k==1)=true) :
 C0 (Builtin.«tuple.__mul__» ⟨[.ref l,.int k u],[]⟩) (λ_ Q s=>s.heap.get? l=some { cls:=.type "tuple",dict:=dd,data:=.seq items n,slots:=sl }/\Q (.ok (.ret (fF l))) s) :=
 .of_wp λprog w A Q s h=>by obtain⟨hp,g,d,tk,os⟩:=s;obtain⟨hl,h⟩:=h;have f1:=Tc;wp_walk using wpAny_loadPart' hl;refine Kx (by rw[h1];rfl) ?_;wp_walk using wpAny_loadPart' hl;exact⟨_,rfl,h⟩
def ZO(l:Addr)(items:Array Value)(n:Nat)(dd:Option Addr)(sl:Array (Option Value))(k:Int)(u:Tok)(h1:(decide (k < -(2^63))||decide (k≥2^63))=false)(hc:(items.isEmpty||k==1)=false)(n4:(decide (k<=0)||items.isEmpty)=true) :
 C0 (Builtin.«tuple.__mul__» ⟨[.ref l,.int k u],[]⟩) (λ_ Q s=>s.heap.get? l=some { cls:=.type "tuple",dict:=dd,data:=.seq items n,slots:=sl }/\Q (.ok (.ret (fF s.heap.objs.size))) { s with heap:=s.heap.push { cls:=.type "tuple",data:=.seq #[] } }) :=
 .of_wp λprog w A Q s h=>by obtain⟨hp,g,d,tk,os⟩:=s;obtain⟨hl,h⟩:=h;have f1:=Tc;wp_walk using wpAny_loadPart' hl;refine Kx (by rw[h1];rfl) ?_;wp_walk using wpAny_loadPart' hl;exact⟨_,rfl,h⟩
def ZP(l:Addr)(items:Array Value)(n:Nat)(dd:Option Addr)(sl:Array (Option Value))(k:Int)(u:Tok)(h1:(decide (k < -(2^63))||decide (k≥2^63))=false)(hc:(items.isEmpty||k==1)=false)(n4:(decide (k<=0)||items.isEmpty)=false)(ED:¬((items.size:Int)*k>(2^63-1)/8))(hc4:a5q ((items.size:Int)*k)=false)(hc5:¬((gG k.toNat items).foldl (λx1 x2=>x1++x2) #[]).size>b5) :
 C0 (Builtin.«tuple.__mul__» ⟨[.ref l,.int k u],[]⟩) (λ_ Q s=>s.heap.get? l=some { cls:=.type "tuple",dict:=dd,data:=.seq items n,slots:=sl }/\Q (.ok (.ret (fF s.heap.objs.size))) { s with heap:=s.heap.push { cls:=.type "tuple",data:=.seq ((gG k.toNat items).foldl (·++·) #[]) } }) :=
 .of_wp λprog w A Q s h=>by obtain⟨hp,g,d,tk,os⟩:=s;obtain⟨hl,h⟩:=h;have f1:=Tc;wp_walk using wpAny_loadPart' hl;refine Kx (by rw[h1];rfl) ?_;wp_walk using wpAny_loadPart' hl;refine Kx (decide_eq_false ED) ?_;wp_walk using wpAny_loadPart' hl;exact⟨_,rfl,h⟩
def ZQ:fillsNumberSlot (.type "tuple") "mul"=pure false :=
 PySem.fillsNumberSlot_seq (id:="tuple.__mul__") (r:=some (.builtin "tuple.__rmul__")) F.slot_tuple_mul.lookup (by decide +kernel) F.slot_tuple_rmul.lookup (by decide +kernel)
def ZR:seqRepeat? (.type "tuple")=pure (some (.builtin "tuple.__mul__")):=by
 unfold seqRepeat?
 rw[a5r (T:="tuple") (name:="__mul__") (id:="tuple.__mul__") F.slot_tuple_mul.lookup (by decide +kernel),a5r (T:="tuple") (name:="__rmul__") (id:="tuple.__rmul__") F.slot_tuple_rmul.lookup (by decide +kernel)]
 rfl
def ZS(a:Int)(t:Tok)(l:Addr)(items:Array Value)(n:Nat)(dd:Option Addr)(sl:Array (Option Value)) :
 C0 (Builtin.«int.__rmul__» ⟨[.int a t,.ref l],[]⟩) (λ_ Q s=>s.heap.get? l=some { cls:=.type "tuple",dict:=dd,data:=.seq items n,slots:=sl }/\Q (.ok (.ret Value.notImplemented)) s) :=
 .of_wp λprog w A Q s h=>by obtain⟨hp,g,d,tk,os⟩:=s;obtain⟨hl,h⟩:=h;wp_walk;exact⟨_,rfl,h⟩
def ZT(K:aE):R2:=λx y H Q=>∃l k xs,x = .ref l/\y = .int k/\cC K H l xs/\0<=k/\k<1000000/\xs.length*k.toNat<=1000 /\
 ((xs=[]∨k=1)->Q (.ref l) H)/\(xs≠[]->k≠1->∀p,H p=none->Q (.ref p) (upd H p (.tup (gG k.toNat xs).flatten)))
def ZU:fH X (iI .Mult) (ZT X.K):=by
 intro pins s σ H x y v u Q I rx ry h
 obtain⟨l,k,xs,rfl,rfl,hH,h1,h2,hz,q0,q1⟩:=h
 cases rx
 obtain⟨t,rfl⟩:=ry
 obtain⟨its,r,p1,hz2⟩:=I.tuple hH
 have hl:its.length=xs.length:=r.length.symm
 obtain⟨⟨cls,dd,data,sl⟩,ho,hc,n,hd⟩:=id p1
 simp only at hc hd
 subst hc hd
 have hb:(decide (k < -(2^63))||decide (k≥2^63))=false:=by
  rw[decide_eq_false (by lia),decide_eq_false (by lia)];rfl
 refine wpAny_binaryOp_repeat_ref (T:="tuple") (U:="int") (by decide) ⟨_,ho,rfl⟩ (λs'=>typeIs_int s' k t) ZQ F.fills_int_mul a5s ZR F.slot_int_index.lookup
  (qQ a5s (typeIs_int s k t) F.entry_int_rmul (F.args_int_rmul_2 _ _) (ZS k t l its.toArray n dd sl) ⟨ho,rfl,⟨_,ho,rfl⟩,?_⟩)
 by_cases c1:xs=[]∨k=1
 ·have ph:(its.toArray.isEmpty||k==1)=true:=by
   rcases c1 with c | c
   ·have:its=[]:=List.length_eq_zero_iff.mp (by rw[hl,c];rfl)
    rw[this];rfl
   ·rw[c];simp
  exact qQ Td ⟨_,ho,rfl⟩ Tf (Tg _ _) (ZN l its.toArray n dd sl k t hb ph) ⟨ho,⟨.ref l,H,I,rfl,q0 c1⟩⟩
 ·have hx:xs≠[]:=λe=>c1 (.inl e)
  have Gi:k≠1:=λe=>c1 (.inr e)
  have bS:its≠[]:=λe=>hx (List.length_eq_zero_iff.mp (by rw[<-hl,e];rfl))
  have he:its.toArray.isEmpty=false:=by cases its with | nil=>exact absurd rfl bS | cons a b=>rfl
  have ph:(its.toArray.isEmpty||k==1)=false:=by rw[he];simpa using Gi
  by_cases c2:k<=0
  ·have ZV:k=0:=by lia
   refine qQ Td ⟨_,ho,rfl⟩ Tf (Tg _ _) (ZO l its.toArray n dd sl k t hb ph (by rw[decide_eq_true c2];rfl)) ⟨ho,?_⟩
   have e0:(gG k.toNat xs).flatten=[]:=by rw[ZV];rfl
   refine⟨.ref s.heap.objs.size,_,I.laid (t':=s.toks) (o:=.tup (gG k.toNat xs).flatten) (λb ob q=>dE _ q) (a9 _) ?_,rfl,q1 hx Gi _ (I.aN.fresh (a9 _))⟩
   rw[e0]
   exact⟨by decide,[],.nil,⟨_,gf _ rfl,rfl,_,rfl⟩⟩
  ·have f0:∀m:Nat,List.foldl (λx1 x2=>x1++x2) #[] (gG m its.toArray)=(gG m its).flatten.toArray:=λm=>by
    have:=LD its m []
    rw[pU] at this
    exact this
   have ZW:(gG k.toNat its).flatten.length<=1000:=by rw[LH,hl,Ks];exact hz
   have j6:(its.toArray.size:Int)*k<=1000:=by
    rw[de,hl,show k=((k.toNat:Nat):Int) by lia]
    exact_mod_cast hz
   refine qQ Td ⟨_,ho,rfl⟩ Tf (Tg _ _) (ZP l its.toArray n dd sl k t hb ph (by rw[decide_eq_false c2,he];rfl) (by lia) ?_ ?_) ⟨ho,?_⟩
   ·unfold a5q
    have:(1000:Int)<=(b5:Int):=by decide
    exact decide_eq_false (by lia)
   ·rw[f0,de]
    have:=qu ZW
    lia
   ·rw[f0]
    refine⟨.ref s.heap.objs.size,_,I.laid (t':=s.toks) (o:=.tup (gG k.toNat xs).flatten) (λb ob q=>dE _ q) (a9 _) ?_,rfl,q1 hx Gi _ (I.aN.fresh (a9 _))⟩
    exact⟨by rw[LH,Ks];exact qu hz,_,r.rep k.toNat,⟨_,gf _ rfl,rfl,_,rfl⟩⟩
def aq.rep{K:aE}{H:Hp}{ds:List D}{xs:List V}(h:aq K H ds xs):∀n:Nat,aq K H (gG n ds).flatten (gG n xs).flatten
 | 0=>aq.nil
 | n+1=>by rw[wM,zJ,wM,zJ];exact h.append (aq.rep h n)
def nB:gE X (iI .Mult) jL:=by
 refine⟨_,fH.or (Uw (X:=X.bY)) (ZU (X:=X.bY)),λH x y dx dy ix iy hg=>?_⟩
 cases dx with
 | int i =>
   cases dy with
   | int j =>
     obtain⟨hc,e⟩:=R.cU (show R.guard (sU i j) (R.ok (D.int (i*j)))≠R.no from hg)
     refine .inl ⟨i,j,Is.bZ.mp ix,Is.bZ.mp iy,?_,.int (i*j),e,.refl _,Is.bZ.mpr rfl⟩
     unfold sU mQ at hc
     show(-(2^64)<i/\i<2^64)∨(-(2^64)<j/\j<2^64)
     lia
   | _=>exact absurd rfl hg
 | tup ds =>
   cases dy with
   | int j =>
     obtain⟨⟨ph,n4⟩,e⟩:=R.cU (show R.guard (0<=j/\j<1000000/\ds.length*j.toNat<=1000) (R.ok (D.tup (gG j.toNat ds).flatten))≠R.no from hg)
     obtain⟨a,xs,rfl,h1,h2⟩:=Is.fB.mp ix
     have ot:=h2.length
     refine .inr ⟨a,j,xs,rfl,Is.bZ.mp iy,h1,ph,n4.1,by rw[<-ot];exact n4.2,λc=>?_,λz z' p hp=>?_⟩
     ·refine⟨_,e,.refl _,Is.fB.mpr ⟨a,xs,rfl,h1,?_⟩⟩
      rcases c with c | c
      ·have:ds=[]:=List.length_eq_zero_iff.mp (by rw[ot,c];rfl)
       rw[this,c]
       have e2:∀m:Nat,(gG m ([]:List D)).flatten=[]:=λm=>by simp
       rw[e2];exact aq.nil
      ·subst c
       show aq X.K H (gG 1 ds).flatten xs
       rw[show(gG 1 ds).flatten=ds by simp];exact h2
     ·have S:=g7 hp (.tup (gG j.toNat xs).flatten)
      exact⟨_,e,S,Is.fB.mpr ⟨p,_,rfl,cC.of dj,(h2.rep _).same S⟩⟩
   | _=>exact absurd rfl hg
 | _=>exact absurd rfl hg
mutual
def D.py:D->PyData
 | .cQ=>.none
 | .bl b=>.bool b
 | .int i=>.int i
 | .str x=>.str x
 | .tup ds=>.tuple (D.fD ds)
 | .lst ds=>.list (D.fD ds)
 | .kn=>.dict []
 | .exc _=>.dict []
def D.fD:List D->List PyData
 | []=>[]
 | d::ds=>d.py::D.fD ds
end
mutual
def pD:∀(n:Nat) (d:D),D.lay n d=true->d.py.canLay0=true/\d.py.depth<=n
 | n,.cQ,_=>by simp[D.py,sH,zS]
 | n,.bl _,_=>by simp[D.py,sH,zS]
 | n,.int _,_=>by simp[D.py,sH,zS]
 | n,.str x,h=>by
   have h':PyData.strOk x=true:=by have:=h;rw[lQ] at this;exact this
   simp[D.py,sH,zS,h']
 | 0,.tup ds,h=>by simp[D.lay] at h
 | 0,.lst ds,h=>by simp[D.lay] at h
 | n+1,.tup ds,h=>by
   have q:=Gj n ds (by simpa [D.lay] using h)
   constructor
   ·simpa [D.py,sH] using q.1
   ·have:=q.2
    simp only[D.py,zS];lia
 | n+1,.lst ds,h=>by
   have q:=Gj n ds (by simpa [D.lay] using h)
   constructor
   ·simpa [D.py,sH] using q.1
   ·have:=q.2
    simp only[D.py,zS];lia
 | n,.kn,h=>by cases n<;>simp[D.lay] at h
 | n,.exc _,h=>by cases n<;>simp[D.lay] at h
def Gj:∀(n:Nat) (ds:List D),D.mR n ds=true->zT (D.fD ds)=true/\zU (D.fD ds)<=n
 | n,[],_=>by simp[D.fD,zT,zU]
 | n,d::ds,h=>by
   have h':D.lay n d=true/\D.mR n ds=true:=by simpa [D.mR] using h
   have q1:=pD n d h'.1
   have q2:=Gj n ds h'.2
   constructor
   ·simp[D.fD,zT,q1.1,q2.1]
   ·have:=q1.2;have:=q2.2
    simp only[D.fD,zU];lia
end
mutual
def pE{pins:List (Addr×Obj)}{σ:St}{H:Hp}{s:ah}(I:Inv X pins σ H s):∀(n:Nat) (d:D) (v:V) (u:Value),D.lay n d=true->Is X.K H d v->RelV v u->∃as,Reads s.heap u d.py as
 | _,.cQ,v,u,_,i,r=>by
   rw[Is.BK.mp i] at r;cases (show u=qL from r)
   exact⟨_,.none⟩
 | _,.bl b,v,u,_,i,r=>by
   rw[Is.gD.mp i] at r;cases (show u=CF b from r)
   exact⟨_,.bool b⟩
 | _,.int k,v,u,_,i,r=>by
   rw[Is.bZ.mp i] at r
   obtain⟨t,rfl⟩:=(show ∃t,u=nQ k t from r)
   exact⟨_,.int k t⟩
 | _,.str x,v,u,_,i,r=>by
   rw[Is.iC.mp i] at r
   obtain⟨t,rfl⟩:=(show ∃t,u=zD x t from r)
   exact⟨_,.str x t⟩
 | 0,.tup ds,v,u,h,_,_=>by simp[D.lay] at h
 | 0,.lst ds,v,u,h,_,_=>by simp[D.lay] at h
 | n+1,.tup ds,v,u,h,i,r=>by
   obtain⟨a,xs,rfl,h1,h2⟩:=Is.fB.mp i
   cases (show u=fF a from r)
   obtain⟨its,rv,⟨o,ho,hc,m,hd⟩,_⟩:=I.tuple h1
   obtain⟨as,ra⟩:=Gk I n ds xs its (by simpa [D.lay] using h) h2 rv
   exact⟨as,by unfold D.py;exact .tuple ho hc hd (by simpa using ra)⟩
 | n+1,.lst ds,v,u,h,i,r=>by
   obtain⟨a,xs,rfl,h1,h2⟩:=Is.fC.mp i
   cases (show u=fF a from r)
   obtain⟨its,rv,⟨o,m,ho,hc,_,hd⟩,_⟩:=I.list h1
   obtain⟨as,ra⟩:=Gk I n ds xs its (by simpa [D.lay] using h) h2 rv
   exact⟨a::as,by unfold D.py;exact .list ho hc hd (by simpa using ra)⟩
 | n,.kn,v,u,h,_,_=>by cases n<;>simp[D.lay] at h
 | n,.exc _,v,u,h,_,_=>by cases n<;>simp[D.lay] at h
def Gk{pins:List (Addr×Obj)}{σ:St}{H:Hp}{s:ah}(I:Inv X pins σ H s):∀(n:Nat) (ds:List D) (xs:List V) (us:List Value),D.mR n ds=true->aq X.K H ds xs->Vals xs us->∃as,ReadsAll s.heap us (D.fD ds) as
 | n,[],xs,us,_,i,r=>by
   rw[aq.jq.mp i] at r
   cases r
   exact⟨_,by unfold D.fD;exact .nil⟩
 | n,d::ds,xs,us,h,i,r=>by
   obtain⟨x,r',rfl,h1,h2⟩:=aq.i_.mp i
   have h':D.lay n d=true/\D.mR n ds=true:=by simpa [D.mR] using h
   cases r with
   | cons q1 q2 =>
     obtain⟨as,ra⟩:=pE I n d x _ h'.1 h1 q1
     obtain⟨bs,rb⟩:=Gk I n ds r' _ h'.2 h2 q2
     exact⟨as++bs,by unfold D.fD;exact .cons ra rb⟩
end
mutual
def BP:∀x y:D,bO x y=pW x.py y.py
 | .cQ,y=>by cases y<;>simp[bO,D.py,pW]
 | .bl _,y=>by cases y<;>simp[bO,D.py,pW]
 | .int _,y=>by cases y<;>simp[bO,D.py,pW]
 | .str _,y=>by cases y<;>simp[bO,D.py,pW]
 | .kn,y=>by cases y<;>simp[bO,D.py,pW]
 | .exc _,y=>by cases y<;>simp[bO,D.py,pW]
 | .tup xs,y=>by
   cases y with
   | tup ys=>rw[bO,D.py,D.py,pW,Gm xs ys]
   | _=>simp[bO,D.py,pW]
 | .lst xs,y=>by
   cases y with
   | lst ys=>rw[bO,D.py,D.py,pW,Gm xs ys]
   | _=>simp[bO,D.py,pW]
def Gm:∀xs ys:List D,lR xs ys=C1 (D.fD xs) (D.fD ys)
 | [],[]=>by simp[lR,D.fD,C1]
 | [],_::_=>by simp[lR,D.fD,C1]
 | _::_,[]=>by simp[lR,D.fD,C1]
 | x::xs,y::ys=>by rw[lR,D.fD,D.fD,C1,BP x y,Gm xs ys]
end
def fi(hu:X.A.units+64<iZ):gE X (iY .Eq) cS:=by
 refine⟨λx y H Q=>∃dx dy,Is X.K H dx x/\Is X.K H dy y/\D.lay 40 dx=true/\D.lay 40 dy=true/\Q (.bl (bO dx dy)) H,?_,λH x y dx dy ix iy hg=>?_⟩
 ·intro pins s σ H x y v u Q I rx ry h
  obtain⟨dx,dy,ix,iy,l1,l2,q⟩:=h
  obtain⟨as,ra⟩:=pE I 40 dx x v l1 ix rx
  obtain⟨bs,rb⟩:=pE I 40 dy y u l2 iy ry
  have p1:=pD 40 dx l1
  have p2:=pD 40 dy l2
  have Gn:X.A.units+64<iZ:=hu
  refine PySem.SeqAt.compareEq_reads ra rb p1.1 p2.1 (show X.A.units+min dx.py.depth dy.py.depth<iZ by lia) ⟨.bl (bO dx dy),H,I,by rw[BP];rfl,q⟩
 ·obtain⟨⟨l1,l2⟩,e⟩:=R.cU hg
  exact⟨dx,dy,ix,iy,l1,l2,.bl (bO dx dy),e,.refl _,Is.gD.mpr rfl⟩
def je(hu:X.A.units+64<iZ):gE X (iY .NotEq) eG:=by
 refine⟨λx y H Q=>∃dx dy,Is X.K H dx x/\Is X.K H dy y/\D.lay 40 dx=true/\D.lay 40 dy=true/\Q (.bl (!bO dx dy)) H,?_,λH x y dx dy ix iy hg=>?_⟩
 ·intro pins s σ H x y v u Q I rx ry h
  obtain⟨dx,dy,ix,iy,l1,l2,q⟩:=h
  obtain⟨as,ra⟩:=pE I 40 dx x v l1 ix rx
  obtain⟨bs,rb⟩:=pE I 40 dy y u l2 iy ry
  have p1:=pD 40 dx l1
  have p2:=pD 40 dy l2
  have Gn:X.A.units+64<iZ:=hu
  refine PySem.SeqAt.compareNe_reads ra rb p1.1 p2.1 (show X.A.units+min dx.py.depth dy.py.depth<iZ by lia) ⟨.bl (!bO dx dy),H,I,by rw[BP];rfl,q⟩
 ·obtain⟨⟨l1,l2⟩,e⟩:=R.cU hg
  exact⟨dx,dy,ix,iy,l1,l2,.bl (!bO dx dy),e,.refl _,Is.gD.mpr rfl⟩
def aq.c5{K:aE}{H:Hp}{ds:List D}{xs:List V}{i:Int}{d:D}(h:aq K H ds xs)(e:c5 ds i=some d):∃x,L2.c5 xs i=some x/\Is K H d x:=by
 unfold L2.c5
 unfold L3.c5 at e
 rw[<-h.length]
 show ∃x,((L3.jr ds.length i).bind λj=>xs[j]?)=some x/\Is K H d x
 cases q:L3.jr ds.length i with
 | none=>rw[q] at e;cases e
 | some j =>
   rw[q] at e
   exact h.get (by simpa using e)
def a7(ha:PD X a ga)(hb:PD X b gb)(hs:Dt b:=by intro _ _;rfl):PD X (.Subscript a b pos) (aj aF ga gb):=by
 refine⟨λpins s σ H F Γ I fo rl hg=>?_⟩
 refine Ky (az (ha.run pins s σ H F Γ I fo rl (R.left hg)) (λv s1 ⟨dx,x,H1,e1,I1,r1,S1,i1⟩=>?_) λ_ _ x=>x.bind _)
 have aM:=R.next hg e1
 refine az (hb.run pins s1 σ H1 F Γ I1 (fo.same S1) (rl.same S1) (R.left aM)) (λu s2 ⟨dy,y,H2,e2,I2,r2,S2,i2⟩=>?_) λ_ _ x=>cw.later e1 S1 (x.bind _)
 have dC:=R.next aM e2
 have qv:=i1.same S2
 have fin:∀(d:D) (z:V),aF dx dy = .ok d->Is X.K H2 d z->∀(w':Value) (s':ah),EP X.bY pins σ (λz' H'=>z'=z/\H'=H2) w' s'->du X pins σ H (aj aF ga gb Γ) w' s':=λd z ed iz w' s' ⟨z',H',I',rz,ez,eH⟩=>by
  subst ez eH
  exact du.bind e1 S1 (du.bind e2 S2 ⟨d,z',H',ed,I'.fw,rz,.refl _,iz⟩)
 cases dx with
 | tup ds =>
   cases dy with
   | int i =>
     obtain⟨p,xs,rfl,h1,h2⟩:=Is.fB.mp qv
     cases q:c5 ds i with
     | none=>exact absurd (show aF (.tup ds) (.int i) = .no by simp only[aF,q]) dC
     | some d =>
       obtain⟨z,ez,iz⟩:=h2.c5 q
       exact az (LA (X:=X.bY) a b pins s2 σ H2 _ y v u _ (I2.dB _) r1 r2 ⟨p,xs,i,z,rfl,Is.bZ.mp i2,h1,ez,rfl,rfl⟩ (hs _ _)) (λw' s' h=>fin d z (by show aF (.tup ds) (.int i) = .ok d;simp only[aF,q]) iz w' s' h) λ_ _ z=>cx z
   | _=>exact absurd rfl dC
 | lst ds =>
   cases dy with
   | int i =>
     obtain⟨p,xs,rfl,h1,h2⟩:=Is.fC.mp qv
     cases q:c5 ds i with
     | none=>exact absurd (show aF (.lst ds) (.int i) = .no by simp only[aF,q]) dC
     | some d =>
       obtain⟨z,ez,iz⟩:=h2.c5 q
       exact az (Lz (X:=X.bY) a b pins s2 σ H2 _ y v u _ (I2.dB _) r1 r2 ⟨p,xs,i,z,rfl,Is.bZ.mp i2,h1,ez,rfl,rfl⟩ (hs _ _)) (λw' s' h=>fin d z (by show aF (.lst ds) (.int i) = .ok d;simp only[aF,q]) iz w' s' h) λ_ _ z=>cx z
   | _=>exact absurd rfl dC
 | _=>exact absurd rfl dC
variable {x:Str}{p:Pos}{es:List Expr}{gs:G->R (List D)}{OW T:String}
def kx(X:Cx)(f:Value)(g:List D->R D):Prop:=∃r:List V->Hp->VK->Prop,i6 X.bY f r/\∀H xs ds,aq X.K H ds xs->g ds ≠ .no->r xs H λz H'=>∃d,g ds = .ok d/\aO H H'/\Is X.K H' d z
def kx.run{f:Value}{g:List D->R D}(h:kx X f g){pins:List (Addr×Obj)}{s:ah}{σ:St}{H:Hp}{xs:List V}{us:List Value}{ds:List D}(I:Inv X pins σ H s)(r:Vals xs us)(i:aq X.K H ds xs)(hg:g ds ≠ .no){E:Value->ah->Prop} :
 au (aD X.prog X.w) X.A (call f us) (du X pins σ H (g ds)) E s:=by
 obtain⟨r',ho,hr⟩:=h
 exact az (ho pins s σ H xs us _ (I.dB _) r (hr H xs ds i hg)) (λ_ _ ⟨z,H',I',rz,d,e,S,i⟩=>⟨d,z,H',e,I'.fw,rz,S,i⟩) λ_ _ z=>cx z
def eY{g:List D->R D}(hc:kx X (.builtin OW) g)(hm:X.mg x=none)(hv:lA x=some (.builtin OW))(ha:nv X (e::es) gs)(hg:Gl X x:=by rfl)(hn:x≠"__name__":=by decide)(gN:(x==("__debug__":Str))=false:=by decide)
 (he:aT (e::es) X.env=(false,eval e X.env)::aT es X.env:=by rfl) (gu:(cH pos (aT es X.env)).any (·.1)=false:=by rfl):PD X (.Call (.Name x p) (e::es) [] pos) (ay g gs):=by
 refine⟨λpins s σ H F Γ I fo rl bW=>?_⟩
 refine kL (iu I hg hm hv ?_ hn gN)
 refine Kz (az (ha.run pos pins s σ H F Γ I fo rl (R.left bW)) (λus s1 ⟨ds,vs,H1,e1,I1,r1,S1,i1⟩=>?_) λ_ _ x=>x.bind _) he gu
 exact ic (hc.run I1 r1 i1 (R.next bW e1)) λ_ _ q=>du.bind e1 S1 q
def fj{g:List D->R D}(hc:kx X (.type T) g)(hm:X.mg x=none)(hv:lA x=some (.type T))(ha:nv X (e::es) gs)(hg:Gl X x:=by rfl)(hn:x≠"__name__":=by decide)(gN:(x==("__debug__":Str))=false:=by decide)
 (he:aT (e::es) X.env=(false,eval e X.env)::aT es X.env:=by rfl) (gu:(cH pos (aT es X.env)).any (·.1)=false:=by rfl):PD X (.Call (.Name x p) (e::es) [] pos) (ay g gs):=by
 refine⟨λpins s σ H F Γ I fo rl bW=>?_⟩
 refine kL (iu I hg hm hv ?_ hn gN)
 refine oV (az (ha.run pos pins s σ H F Γ I fo rl (R.left bW)) (λus s1 ⟨ds,vs,H1,e1,I1,r1,S1,i1⟩=>?_) λ_ _ x=>x.bind _) he gu
 exact ic (hc.run I1 r1 i1 (R.next bW e1)) λ_ _ q=>du.bind e1 S1 q
def jR{K:aE}{H:Hp}{d:D}{xs:List V}(h:aq K H [d] xs):∃v,xs=[v]/\Is K H d v:=by
 obtain⟨x,r,rfl,h1,h2⟩:=aq.i_.mp h
 rw[aq.jq.mp h2]
 exact⟨x,rfl,h1⟩
def OX{K:aE}{H:Hp}{d d':D}{xs:List V}(h:aq K H [d,d'] xs):∃v v',xs=[v,v']/\Is K H d v/\Is K H d' v':=by
 obtain⟨x,r,rfl,h1,h2⟩:=aq.i_.mp h
 obtain⟨v,rfl,h3⟩:=jR h2
 exact⟨x,v,rfl,h1,h3⟩
def iD:kx X (.builtin "len") c9:=by
 refine⟨_,Ve (X:=X.bY),λH xs ds i hg=>?_⟩
 unfold c9 at hg
 split at hg
 ·rename_i ys
  obtain⟨v,rfl,h⟩:=jR i
  obtain⟨a,zs,rfl,h1,h2⟩:=Is.fB.mp h
  exact⟨a,zs,rfl,.inr h1,.int ys.length,rfl,.refl _,Is.bZ.mpr (by rw[h2.length])⟩
 ·rename_i ys
  obtain⟨v,rfl,h⟩:=jR i
  obtain⟨a,zs,rfl,h1,h2⟩:=Is.fC.mp h
  exact⟨a,zs,rfl,.inl h1,.int ys.length,rfl,.refl _,Is.bZ.mpr (by rw[h2.length])⟩
 ·exact absurd rfl hg
def ik:kx X (.type "tuple") eK:=by
 refine⟨_,LC (X:=X.bY),λH xs ds i hg=>?_⟩
 unfold eK at hg
 split at hg
 ·rename_i ys
  obtain⟨v,rfl,h⟩:=jR i
  obtain⟨a,zs,rfl,h1,h2⟩:=Is.fB.mp h
  exact⟨a,zs,rfl,.inr ⟨h1,.tup ys,rfl,.refl _,h⟩⟩
 ·rename_i ys
  obtain⟨v,rfl,h⟩:=jR i
  obtain⟨a,zs,rfl,h1,h2⟩:=Is.fC.mp h
  refine⟨a,zs,rfl,.inl ⟨h1,λl hl=>?_⟩⟩
  have S:=g7 hl (.tup zs)
  exact⟨.tup ys,rfl,S,Is.fB.mpr ⟨l,zs,rfl,cC.of dj,h2.same S⟩⟩
 ·exact absurd rfl hg
def OY(hc:X.calm=true):kx X (.builtin "min") xN:=by
 refine⟨_,UJ (X:=X.bY) hc,λH xs ds i hg=>?_⟩
 unfold xN at hg
 split at hg
 ·rename_i i' j'
  obtain⟨v,v',rfl,h,h'⟩:=OX i
  exact⟨i',j',by rw[Is.bZ.mp h,Is.bZ.mp h'],_,rfl,.refl _,Is.bZ.mpr rfl⟩
 ·exact absurd rfl hg
def ZX(hc:X.calm=true):i6 X (.builtin "sum") (λxs H Q=>∃(a:Addr) (ns:List Int),xs=[.ref a]/\cA X.K H a (ns.map V.int)/\Q (.int ns.sum) H):=by
 intro pins s σ H xs us Q I r h
 obtain⟨a,ns,rfl,hq,q⟩:=h
 obtain⟨u,rfl,ru⟩:=mM r
 cases ru
 obtain⟨its,rv,pl,_⟩:=I.list hq
 have hi:uC its ns:=Lw rv
 obtain⟨ys,hy⟩:=hi.allInts.items
 have hl:=pl.isList
 rw[hy] at hl
 refine sum_intListG (I.ok.hd hc) hl λh' tk t' hk=>⟨.int ns.sum,H,I.kept hk,⟨t',?_⟩,q⟩
 have hn:numsOf its.toArray.toList=ns:=by rw[show its.toArray.toList=its from rfl,hi.numsOf]
 rw[hy,nums_intItems] at hn
 rw[preSum_eq,zL (by simp),hn]
def OZ(hc:X.calm=true):kx X (.builtin "sum") rq:=by
 refine⟨_,ZX (X:=X.bY) hc,λH xs ds i hg=>?_⟩
 unfold rq at hg
 split at hg
 ·rename_i ys
  obtain⟨v,rfl,h⟩:=jR i
  obtain⟨a,zs,rfl,h1,h2⟩:=Is.fC.mp h
  cases q:mS ys with
  | none=>rw[q] at hg;exact absurd rfl hg
  | some ns =>
    have:=DR q
    subst this
    rw[h2.Ge] at h1
    exact⟨a,ns,rfl,h1,.int ns.sum,by show rq [.lst (ns.map D.int)]=_;simp only[rq,q],.refl _,Is.bZ.mpr rfl⟩
 ·exact absurd rfl hg
def aq.Gp{K:aE}{H:Hp}:∀{ns:List Bool} {xs:List V},aq K H (ns.map D.bl) xs->xs=ns.map V.bl
 | [],xs,h=>aq.jq.mp h
 | n::ns,xs,h=>by
   obtain⟨x,r,rfl,hx,tr⟩:=aq.i_.mp h
   rw[Is.gD.mp hx,aq.Gp tr];rfl
def Gq:∀{bs:List Bool} {us:List Value} {i:Nat} {v:Value},Vals (bs.map V.bl) us->us[i]? = some v->∃b,bs[i]? = some b/\v = .bool b
 | [],us,i,v,r,e=>by cases r;simp at e
 | b::bs,us,0,v,r,e=>by
   cases r with
   | cons r1 r2=>simp at e;subst e;exact⟨b,rfl,r1⟩
 | b::bs,us,i+1,v,r,e=>by
   cases r with
   | cons r1 r2 =>
     obtain⟨b',e1,e2⟩:=Gq (i:=i) r2 (by simpa using e)
     exact⟨b',by simpa using e1,e2⟩
def O0:∀bs:List Bool,((eW bs.length).any λi=>(bs[i]?).getD false)=bs.any (λb=>b)
 | []=>rfl
 | b::bs=>by
   rw[b6,Km,wR,List.any_map,wR,<-O0 bs]
   rfl
def ZY(hc:X.calm=true):i6 X (.builtin "any") (λxs H Q=>∃(a:Addr) (bs:List Bool),xs=[.ref a]/\cA X.K H a (bs.map V.bl)/\Q (.bl (bs.any (λb=>b))) H):=by
 intro pins s σ H xs us Q I r h
 obtain⟨a,bs,rfl,hq,q⟩:=h
 obtain⟨u,rfl,ru⟩:=mM r
 cases ru
 obtain⟨its,rv,pl,_⟩:=I.list hq
 have hl:=pl.isList
 have cW:a<s.heap.objs.size:=by obtain⟨_,e,_⟩:=hl;exact bX e
 have hlen:its.length=bs.length:=by rw[<-rv.length,aX]
 refine call_any_walk (C2 hl ?_)
 refine⟨s.heap.objs.size,[s.heap.objs.size,a],[s.heap.objs.size],its.toArray.size,_,_,λi=>(bs[i]?).getD false,rfl,Th (A:=X.A.in1) (I.ok.hd hc) _ a (dM cW) its.toArray,
  ⟨⟨_,gf _ rfl,rfl,rfl⟩,hl.push _⟩,λi v s' Q' E' hP hQ=>?_,λh' tk hk=>?_⟩
 ·obtain⟨b,e,rfl⟩:=Gq rv (i:=i) (v:=v) (by simpa using hP)
  simp only[e,CQ] at hQ
  exact wW hQ
 ·have e:((eW its.toArray.size).any λi=>(bs[i]?).getD false)=bs.any (λb=>b):=by
   rw[de,hlen];exact O0 bs
  refine⟨.bl (bs.any (λb=>b)),H,I.kept (λb x ex=>hk b x (λhm=>by rw[List.mem_singleton.mp hm] at ex;exact mB _ (bX ex)) (dE _ ex)),by rw[e];rfl,q⟩
def ZZ(hc:X.calm=true):kx X (.builtin "any") qe:=by
 refine⟨_,ZY (X:=X.bY) hc,λH xs ds i hg=>?_⟩
 unfold qe at hg
 split at hg
 ·rename_i ys
  obtain⟨v,rfl,h⟩:=jR i
  obtain⟨a,zs,rfl,h1,h2⟩:=Is.fC.mp h
  cases q:mT ys with
  | none=>rw[q] at hg;exact absurd rfl hg
  | some ns =>
    have:=DS q
    subst this
    rw[h2.Gp] at h1
    exact⟨a,ns,rfl,h1,.bl (ns.any (λb=>b)),by show qe [.lst (ns.map D.bl)]=_;simp only[qe,q],.refl _,Is.gD.mpr rfl⟩
 ·exact absurd rfl hg
end
def nC(P:aS)(w:aR):lO:=λouter H s E x s'=>∃(e C T:Addr) (oe oT:Obj) (vs ts:Array Value) (H':Hp),x = .ref e/\s'.os=s.os/\nR s'.gens/\Un (dA outer) [] H H' s.heap s'.heap/\eB P w H' s'.heap /\
 H' e=none/\s.heap.get? e=none/\s'.heap.get? e=some oe/\oe.cls = .ref C/\oe.data = .fields vs/\(∃a0,vs[0]? = some a0)/\vs[1]? = some (.ref T)/\H' T=none/\s.heap.get? T=none/\T≠e/\s'.heap.get? T=some oT/\oT.data = .fields ts/\ts[3]? = some .none/\E (.ref C) none H'
def yE(K:aE)(mg:Str->Option Value)(φ:List D->R D):Sp:=λvs H Q E=>∃ds,aq K H ds vs/\φ ds ≠ .no/\(∀d v H',φ ds = .ok d->aO H H'->Is K H' d v->Q v H')/\(∀c C H',φ ds = .er c->mg c.nm=some (.ref C)->aO H H'->E (.ref C) none H')
def O1(K:aE)(mg:Str->Option Value)(φ:List D->R (List D)):Sp:=λvs H Q E=>∃ds,aq K H ds vs/\φ ds ≠ .no/\(∀es a xs H',φ ds = .ok es->aO H H'->H a=none->H' a=some (.lst xs)->aq K H' es xs->Q (.ref a) H')/\(∀c C H',φ ds = .er c->mg c.nm=some (.ref C)->aO H H'->E (.ref C) none H')
structure g8 (P:aS) (w:aR) (K:aE) (mg:Str->Option Value) (base:Heap) (k:Nat) (f:Addr) (fd:cB) (ps:List Str) (φ:List D->R D):Prop where
 ok:jH P w K mg base (nC P w) k f fd ps (yE K mg φ)
 binds:km K fd ps []
 kp:wG K (.ref f)=true
structure pF (P:aS) (w:aR) (K:aE) (mg:Str->Option Value) (base:Heap) (k:Nat) (f:Addr) (fd:cB) (ps:List Str) (φ:List D->R (List D)):Prop where
 ok:jH P w K mg base (nC P w) k f fd ps (O1 K mg φ)
 binds:km K fd ps []
 kp:wG K (.ref f)=true
def g8.mono{P:aS}{w:aR}{K:aE}{mg:Str->Option Value}{base:Heap}{j k:Nat}{f:Addr}{fd:cB}{ps:List Str}{φ:List D->R D}(F:g8 P w K mg base j f fd ps φ)(h:j<=k):g8 P w K mg base k f fd ps φ:=⟨F.ok.mono h,F.binds,F.kp⟩
section
variable {X:Cx}{e a b c:Expr}{g ga gb gc:G->R D}{pos p:Pos}{x:Str}{es:List Expr}{gs:G->R (List D)}
def _root_.L2.Inv.gone{pins:List (Addr×Obj)}{σ:St}{H:Hp}{s:ah}{q:Addr}(I:Inv X pins σ H s)(hex:X.ex=[])(hq:s.heap.get? q=none):X.s₀.heap.get? q=none/\q≠X.env.locals/\(∀y k,X.env.cells.lookup y=some k->k≠q)/\(∀p∈X.pn++pins,p.1≠q):=by
 refine⟨?_,λz=>?_,λy k ek z=>?_,λp hp z=>?_⟩
 ·cases e0:X.s₀.heap.get? q with
  | none=>rfl
  | some o =>
    obtain⟨o',e1⟩:=I.base.there q o e0 (by rw[hex];simp)
    rw[hq] at e1;cases e1
 ·obtain⟨m,⟨o,_,_,ho,_⟩,_⟩:=I.loc
  rw[<-z,hq] at ho;cases ho
 ·obtain⟨v,o,ho,_⟩:=I.cell y k ek
  rw[z,hq] at ho;cases ho
 ·have ho:=(I.pin p hp).1
  rw[z,hq] at ho;cases ho
def O2{pins:List (Addr×Obj)}{σ:St}{H:Hp}{s s':ah}{u:Value}{r:R D}{E:XK}(hex:X.ex=[]∨∀C H',¬E (.ref C) none H')(I:Inv X pins σ H s)(h:nC X.prog X.w X.stack H s E u s')
 (hE:∀C H',E (.ref C) none H'->∃c,r = .er c/\X.mg c.nm=some (.ref C)/\aO H H'):cw X pins σ H r u s':=by
 obtain⟨e,C,T,oe,oT,vs,ts,H',rfl,os,bare,un,aN,Gr,Gs,tU,Gu,Gv,Gw,hv,Gx,Gy,vN,Gz,GA,vS,BQ⟩:=h
 have hex:X.ex=[]:=hex.resolve_right λz=>z C H' BQ
 obtain⟨c,er,hm,S⟩:=hE C H' BQ
 obtain⟨hh,gg,dd,tt,nZ⟩:=s'
 obtain rfl:nZ=s.os:=os
 have I':Inv X pins σ H' { s with heap:=hh,gens:=gg,drawn:=dd,toks:=tt }:=I.call (h':=hh) (g':=gg) (d':=dd) (t':=tt) (ch:=[]) un aN bare (λb z=>absurd z (by simp))
 have fr:∀q:Addr,s.heap.get? q=none->X.s₀.heap.get? q=none/\q≠X.env.locals/\(∀y k,X.env.cells.lookup y=some k->k≠q)/\(∀p∈X.pn++pins,p.1≠q):=λq hq=>I.gone hex hq
 obtain⟨f1,f2,f3,f4⟩:=fr e Gs
 obtain⟨g1,g2,g3,g4⟩:=fr T Gy
 exact⟨c,H',er,S,I',e,C,oe,vs,rfl,hm,Gr,f1,f2,f3,f4,tU,Gu,Gv,Gw,.inr ⟨T,oT,ts,hv,Gx,g1,g2,g3,g4,vN,Gz,GA,.inl vS⟩⟩
def O3{k:Nat}{f:Addr}{fd:cB}{ps:List Str}{φ:List D->R D}(Fn:g8 X.prog X.w X.K X.mg X.base k f fd ps φ)(hr:dO k X.A){pins:List (Addr×Obj)}{σ:St}{H:Hp}{s:ah}{us:List Value}{vs:List V}{ds:List D}
 (I:Inv X pins σ H s) (r:Vals vs us) (i:aq X.K H ds vs) (hg:φ ds ≠ .no) (hx:X.ex=[]∨∀c,φ ds ≠ .er c):au (aD X.prog X.w) X.A (call (.ref f) us) (du X pins σ H (φ ds)) (cw X pins σ H (φ ds)) s:=by
 have eE:yE X.K X.mg φ vs H (λv H'=>∃d,φ ds = .ok d/\aO H H'/\Is X.K H' d v) (λC' _ H'=>∃c C,C' = .ref C/\φ ds = .er c/\X.mg c.nm=some (.ref C)/\aO H H') :=
  ⟨ds,i,hg,λd v H' e S iv=>⟨d,e,S,iv⟩,λc C H' e hm S=>⟨c,C,rfl,e,hm,S⟩⟩
 have hl:us.length=ps.length:=by rw[<-r.length];exact Fn.ok.len _ _ _ _ eE
 have hb:=Fn.binds s us I.gH (by rw[kJ];exact hl)
 rw[kJ] at hb
 refine zV (qR (Fn.ok.run X.A X.stack s H ⟨us,[]⟩ us vs _ _ hr I.xA hb r eE) λr' s' hq=>?_)
 cases r' with
 | error u =>
   refine O2 (E:=λC' _ H'=>∃c C,C' = .ref C/\φ ds = .er c/\X.mg c.nm=some (.ref C)/\aO H H') (hx.imp_right λz C H' ⟨c,_,_,q,_⟩=>z c q) I hq λC H' hE=>?_
   obtain⟨c,C',e,h1,h2,h3⟩:=hE
   cases e
   exact⟨c,h1,h2,h3⟩
 | ok fl =>
   cases fl with
   | ret u =>
     obtain⟨v,H',I',rv,d,e,S,iv⟩:=I.after hq
     exact⟨d,v,H',e,I',rv,S,iv⟩
   | next=>exact cx hq
   | brk=>exact cx hq
   | cont=>exact cx hq
def a8{k:Nat}{f:Addr}{fd:cB}{ps:List Str}{φ:List D->R D}(Fn:g8 X.prog X.w X.K X.mg X.base k f fd ps φ)(hr:dO k X.A)(hm:X.mg x=some (.ref f))(ha:nv X (e::es) gs)(hex:X.ex=[]:=by rfl)(hg:Gl X x:=by rfl)(gN:(x==("__debug__":Str))=false:=by decide)
 (he:aT (e::es) X.env=(false,eval e X.env)::aT es X.env:=by rfl) (gu:(cH pos (aT es X.env)).any (·.1)=false:=by rfl):PD X (.Call (.Name x p) (e::es) [] pos) (ay φ gs):=by
 refine⟨λpins s σ H F Γ I fo rl bW=>?_⟩
 refine kL (nX I hg hm ?_ gN)
 refine wX (h₀:=X.base) I.ok.mod.oW Fn.kp (az (ha.run pos pins s σ H F Γ I fo rl (R.left bW)) (λus s1 ⟨ds,vs,H1,e1,I1,r1,S1,i1⟩=>⟨I1.gH,?_⟩) λ_ _ x=>x.bind _) he gu
 exact az (O3 Fn hr I1 r1 i1 (R.next bW e1) (.inl hex)) (λ_ _ q=>du.bind e1 S1 q) λ_ _ q=>cw.later e1 S1 q
def g8.gv{P:aS}{w:aR}{K:aE}{mg:Str->Option Value}{base:Heap}{k:Nat}{f:Addr}{fd:cB}{ps:List Str}{φ:List D->R D}(F:g8 P w K mg base k f fd ps φ):g8 P w K mg base k f fd ps (L3.gv φ):=by
 refine⟨F.ok.imp λvs H Q E h=>?_,F.binds,F.kp⟩
 obtain⟨ds,i,bS,aN,rY⟩:=h
 obtain⟨d,e1,e2⟩:=L7 bS
 exact⟨ds,i,(by rw[e1];exact λz=>nomatch z),λd' v H' e S iv=>aN d' v H' (e2.trans (e1.symm.trans e)) S iv,λc C H' e=>by rw[e1] at e;cases e⟩
def ou{k:Nat}{f:Addr}{fd:cB}{ps:List Str}{φ:List D->R D}(Fn:g8 X.prog X.w X.K X.mg X.base k f fd ps φ)(hr:dO k X.A)(hm:X.mg x=some (.ref f))(ha:nv X (e::es) gs)(hg:Gl X x:=by rfl)(gN:(x==("__debug__":Str))=false:=by decide)
 (he:aT (e::es) X.env=(false,eval e X.env)::aT es X.env:=by rfl) (gu:(cH pos (aT es X.env)).any (·.1)=false:=by rfl):PD X (.Call (.Name x p) (e::es) [] pos) (ay (L3.gv φ) gs):=by
 refine⟨λpins s σ H F Γ I fo rl bW=>?_⟩
 refine kL (nX I hg hm ?_ gN)
 refine wX (h₀:=X.base) I.ok.mod.oW Fn.kp (az (ha.run pos pins s σ H F Γ I fo rl (R.left bW)) (λus s1 ⟨ds,vs,H1,e1,I1,r1,S1,i1⟩=>⟨I1.gH,?_⟩) λ_ _ x=>x.bind _) he gu
 have aM:=R.next bW e1
 obtain⟨d,_,e3⟩:=L7 aM
 exact az (O3 Fn.gv hr I1 r1 i1 aM (.inr λc z=>by rw[e3] at z;cases z)) (λ_ _ q=>du.bind e1 S1 q) λ_ _ q=>cw.later e1 S1 q
def Z0{k:Nat}{f:Addr}{fd:cB}{ps:List Str}{φ:List D->R (List D)}(Fn:pF X.prog X.w X.K X.mg X.base k f fd ps φ)(hr:dO k X.A){pins:List (Addr×Obj)}{σ:St}{H:Hp}{s:ah}{us:List Value}{vs:List V}{ds:List D}
 (I:Inv X pins σ H s) (r:Vals vs us) (i:aq X.K H ds vs) (hg:φ ds ≠ .no) (hx:X.ex=[]∨∀c,φ ds ≠ .er c):au (aD X.prog X.w) X.A (call (.ref f) us) (λu s'=>∃es a xs H',φ ds = .ok es/\Inv X pins σ H' s'/\u = .ref a/\aO H H'/\H a=none/\H' a=some (.lst xs)/\aq X.K H' es xs) (cw X pins σ H (φ ds)) s:=by
 have eE:O1 X.K X.mg φ vs H (λv H'=>∃es a xs,v = .ref a/\φ ds = .ok es/\aO H H'/\H a=none/\H' a=some (.lst xs)/\aq X.K H' es xs) (λC' _ H'=>∃c C,C' = .ref C/\φ ds = .er c/\X.mg c.nm=some (.ref C)/\aO H H') :=
  ⟨ds,i,hg,λes a xs H' e S h1 h2 h3=>⟨es,a,xs,rfl,e,S,h1,h2,h3⟩,λc C H' e hm S=>⟨c,C,rfl,e,hm,S⟩⟩
 have hl:us.length=ps.length:=by rw[<-r.length];exact Fn.ok.len _ _ _ _ eE
 have hb:=Fn.binds s us I.gH (by rw[kJ];exact hl)
 rw[kJ] at hb
 refine zV (qR (Fn.ok.run X.A X.stack s H ⟨us,[]⟩ us vs _ _ hr I.xA hb r eE) λr' s' hq=>?_)
 cases r' with
 | error u =>
   obtain⟨c,H',e1,S,fl⟩:=O2 (r:=φ ds>>=λ_=>.ok D.cQ) (E:=λC' _ H'=>∃c C,C' = .ref C/\φ ds = .er c/\X.mg c.nm=some (.ref C)/\aO H H') (hx.imp_right λz C H' ⟨c,_,_,q,_⟩=>z c q) I hq λC H' hE=>by
    obtain⟨c,C',e,h1,h2,h3⟩:=hE
    cases e
    exact⟨c,R.stop h1 _,h2,h3⟩
   refine⟨c,H',?_,S,fl⟩
   cases q:φ ds with
   | no=>exact absurd q hg
   | ok _=>rw[q] at e1;cases e1
   | er c'=>rw[q] at e1;cases e1;rfl
 | ok fl =>
   cases fl with
   | ret u =>
     obtain⟨v,H',I',rv,es,a,xs,rfl,e,S,h1,h2,h3⟩:=I.after hq
     exact⟨es,a,xs,H',e,I',rv,S,h1,h2,h3⟩
   | next=>exact cx hq
   | brk=>exact cx hq
   | cont=>exact cx hq
def nD{k:Nat}{f:Addr}{fd:cB}{ps:List Str}{φ:List D->R (List D)}(Fn:pF X.prog X.w X.K X.mg X.base k f fd ps φ)(hr:dO k X.A)(hm:X.mg x=some (.ref f))(ha:nv X (e::es) gs)(hex:X.ex=[]:=by rfl)(hg:Gl X x:=by rfl)(gN:(x==("__debug__":Str))=false:=by decide)
 (he:aT (e::es) X.env=(false,eval e X.env)::aT es X.env:=by rfl) (gu:(cH pos (aT es X.env)).any (·.1)=false:=by rfl):PF X (.Call (.Name x p) (e::es) [] pos) (gx φ gs):=by
 refine⟨λpins s σ H F Γ I fo rl bW=>?_⟩
 refine kL (nX I hg hm ?_ gN)
 refine wX (h₀:=X.base) I.ok.mod.oW Fn.kp (az (ha.run pos pins s σ H F Γ I fo rl (R.left bW)) (λus s1 ⟨ds,vs,H1,e1,I1,r1,S1,i1⟩=>⟨I1.gH,?_⟩) λ_ _ x=>x.bind _) he gu
 have aM:=R.next bW e1
 refine az (Z0 Fn hr I1 r1 i1 (R.left aM) (.inl hex)) (λu s' ⟨cT,a,xs,H',e2,I2,eu,S2,h1,h2,h3⟩=>?_) λ_ _ q=>cw.later e1 S1 (q.bind _)
 have fL:=R.next aM e2
 obtain⟨n,e3⟩:=R.cU fL
 exact⟨cT,a,xs,H',(R.step e1 _).trans ((R.step e2 _).trans e3),I2,eu,S1.trans S2,S1.free h1,h2,aq.aH (((fo.same S1).same S2).cons h2) cT xs n h3⟩
def vT{x:Str}(ha:PD X a ga)(hm:X.mg x=none)(hv:lA x=some (.type "list"))(hg:Gl X x:=by rfl)(hn:x≠"__name__":=by decide)(gN:(x==("__debug__":Str))=false:=by decide)
 (he:aT [a] X.env=(false,eval a X.env)::aT [] X.env:=by rfl) (gu:(cH pos (aT [] X.env)).any (·.1)=false:=by rfl):PF X (.Call (.Name x p) [a] [] pos) (ju ga):=by
 refine⟨λpins s σ H F Γ I fo rl bW=>?_⟩
 refine kL (iu I hg hm hv ?_ hn gN)
 refine oV (az ((ak ha av he).run pos pins s σ H F Γ I fo rl (λz=>?_)) (λus s1 ⟨ds,vs,H1,e1,I1,r1,S1,i1⟩=>?_) λ_ _ q=>?_) he gu
 ·unfold ae at z
  cases q:ga Γ with
  | no=>exact absurd (show ju ga Γ = .no by unfold ju;rw[q];rfl) bW
  | ok d=>rw[q] at z;cases z
  | er c=>rw[q] at z;cases z
 ·have e0:∃d,ga Γ = .ok d/\ds=[d]:=by
   unfold ae at e1
   cases q:ga Γ with
   | no=>rw[q] at e1;cases e1
   | ok d=>rw[q] at e1;cases e1;exact⟨d,rfl,rfl⟩
   | er c=>rw[q] at e1;cases e1
  obtain⟨d,ed,rfl⟩:=e0
  obtain⟨v,rfl,iv⟩:=jR i1
  have aM:=R.next bW ed
  have fin:∀(p':Addr) (ys:List V) (cT:List D),v = .ref p'->(cA X.K H1 p' ys∨cC X.K H1 p' ys)->aq X.K H1 cT ys->D.bC cT=true->ju ga Γ = .ok cT ->
   au (aD X.prog X.w) X.A (call (.type "list") us) (λu s'=>∃ds a xs H',ju ga Γ = .ok ds/\Inv X pins σ H' s'/\u = .ref a/\aO H H'/\H a=none/\H' a=some (.lst xs)/\aq X.K (aH (a::F) H') ds xs) (cw X pins σ H (ju ga Γ)) s1:=λp' ys cT ev hq ie gI eg=>by
   subst ev
   refine az (Vf (X:=X.bY) pins s1 σ H1 _ us (λz H'=>∃l,z = .ref l/\H1 l=none/\H'=upd H1 l (.lst ys)) (I1.dB _) r1 ⟨p',ys,rfl,hq,λl hl=>⟨l,rfl,hl,rfl⟩⟩) (λu s' ⟨z,H',I',rz,l,ez,hl,eH⟩=>?_) λ_ _ z=>cx z
   subst ez eH
   have S2:=g7 hl (.lst ys)
   exact⟨cT,l,ys,_,eg,I'.fw,rz,S1.trans S2,S1.free hl,dj,aq.aH (((fo.same S1).same S2).cons dj) cT ys gI (ie.same S2)⟩
  cases d with
  | tup cT =>
    obtain⟨n,e2⟩:=R.cU (show R.guard (D.bC cT=true) (.ok cT) ≠ .no from aM)
    obtain⟨p',ys,ev,h1,h2⟩:=Is.fB.mp iv
    exact fin p' ys cT ev (.inr h1) h2 n ((R.step ed _).trans e2)
  | lst cT =>
    obtain⟨n,e2⟩:=R.cU (show R.guard (D.bC cT=true) (.ok cT) ≠ .no from aM)
    obtain⟨p',ys,ev,h1,h2⟩:=Is.fC.mp iv
    exact fin p' ys cT ev (.inl h1) h2 n ((R.step ed _).trans e2)
  | _=>exact absurd rfl aM
 ·obtain⟨c',H',e1,S,fl⟩:=q
  refine⟨c',H',?_,S,fl⟩
  unfold ae at e1
  cases q:ga Γ with
  | no=>rw[q] at e1;cases e1
  | ok d=>rw[q] at e1;cases e1
  | er c=>rw[q] at e1;cases e1;unfold ju;rw[q];rfl
def pG{ga gb:G->R (List D)}(ha:PF X a ga)(hb:PF X b gb):PF X (.BinOp a .Add b pos) (iM ga gb):=by
 refine⟨λpins s σ H F Γ I fo rl hg=>?_⟩
 refine Ta (az (ha.run pins s σ H F Γ I fo rl (R.left hg)) (λv s1 ⟨dx,a1,xs,H1,e1,I1,r1,S1,n1,h1,i1⟩=>?_) λ_ _ x=>x.bind _)
 have aM:=R.next hg e1
 refine az (hb.run pins s1 σ H1 F Γ I1 (fo.same S1) (rl.same S1) (R.left aM)) (λu s2 ⟨dy,a2,ys,H2,e2,I2,r2,S2,n2,h2,i2⟩=>?_) λ_ _ x=>cw.later e1 S1 (x.bind _)
 have fL:=R.next aM e2
 obtain⟨hc,e3⟩:=R.cU fL
 subst r1 r2
 have hz:xs.length+ys.length<=b5:=by rw[<-i1.length,<-i2.length];exact qu hc
 refine az (Vr (X:=X.bY) pins s2 σ H2 (.ref a1) (.ref a2) _ _ (λz H'=>∃l,z = .ref l/\H2 l=none/\H'=upd H2 l (.lst (xs++ys))) (I2.dB _) rfl rfl ⟨a1,a2,xs,ys,rfl,rfl,S2 _ _ h1,h2,hz,λl hl=>⟨l,rfl,hl,rfl⟩⟩) (λu s' ⟨z,H',I',rz,l,ez,hl,eH⟩=>?_) λ_ _ z=>cx z
 subst ez eH
 have S3:=g7 hl (.lst (xs++ys))
 have up:∀{q:Addr} {Hq:Hp} {zs:List V} {ds:List D},aO Hq H2->Hq q≠none->aq X.K (aH (q::F) Hq) ds zs->aq X.K (aH (l::F) (upd H2 l (.lst (xs++ys)))) ds zs:=λ{q Hq zs ds} Sq hq i=>by
  refine i.same λb o hb=>?_
  obtain⟨z1,z2⟩:=ja hb
  have z3:=Sq _ _ z2
  have gF:b≠l:=ib z3 hl
  rw[di λz=>(List.mem_cons.mp z).elim gF λz'=>z1 (ft _ z'),bM gF]
  exact z3
 exact⟨dx++dy,l,xs++ys,_,(R.step e1 _).trans ((R.step e2 _).trans e3),I'.fw,rz,(S1.trans S2).trans S3,S1.free (S2.free hl),dj,(up S2 (by rw[h1];simp) i1).append (up (.refl _) (by rw[h2];simp) i2)⟩
end
def JD(K:aE)(H:Hp)(F:List Addr)(J:It)(ds:List D):Prop:=∀H1,(∀b o,b ∉ F->H b=some o->H1 b=some o) ->
 (∀i:Nat,i<ds.length->J.go i H1/\∀x H2,J.uQ i H1 x H2->H2=H1/\∃d,ds[i]? = some d/\∀F',(∀b,b∈F'->b∈F∨H b=none)->Is K (aH F' H1) d x)/\J.stop ds.length H1
def JC(K:aE)(H:Hp)(F:List Addr)(J:It)(ds:List D):Prop:=∀H1,aO H H1 ->
 (∀i:Nat,i<ds.length->J.go i H1/\∀x H2,J.uQ i H1 x H2->H2=H1/\∃d,ds[i]? = some d/\Is K (aH F H1) d x)/\J.stop ds.length H1
def JD.jc{K:aE}{H:Hp}{F:List Addr}{J:It}{ds:List D}(h:JD K H F J ds):JC K H F J ds:=λH1 S=>by
 obtain⟨h1,h2⟩:=h H1 λb o _ q=>S b o q
 refine⟨λi hi=>⟨(h1 i hi).1,λx H2 y=>?_⟩,h2⟩
 obtain⟨e,d,ed,iv⟩:=(h1 i hi).2 x H2 y
 exact⟨e,d,ed,iv F λb hb=>.inl hb⟩
structure mj (Jx:aE->Hp->List Addr->It->List D->Prop) (X:Cx) (tg iter:Expr) (g:G->R (List D)):Prop where
 run:∀(pins:List (Addr×Obj)) (s:ah) (σ:St) (H:Hp) (F:List Addr) (Γ:G),Inv X pins σ H s->bL H F->Rel X.K H F Γ σ->g Γ ≠ .no ->
  au (aD X.prog X.w) X.A (eval iter X.env) (λv s1=>au (aD X.prog X.w) X.A (qO v) (λlN s2=>∃(ds:List D) (it:Addr) (fp:List Addr) (tn:Nat->Heap->Prop) (J:It) (H':Hp),g Γ = .ok ds/\lN = .ref it/\Inv X pins σ H' s2/\aO H H' /\
   Turn X.prog X.w X.K tg J fp it tn/\tn 0 s2.heap/\(∀b∈fp,fU X pins H' b)/\Jx X.K H' F J ds) (cw X pins σ H (g Γ)) s1) (cw X pins σ H (g Γ)) s
abbrev vU:=mj JD
abbrev tV:=mj JC
def mj.rZ{X:Cx}{tg iter:Expr}{g:G->R (List D)}(h:vU X tg iter g):tV X tg iter g:=⟨λpins s σ H F Γ I fo rl hg =>
 ic (h.run pins s σ H F Γ I fo rl hg) λv s1 h1=>ic h1 λlN s2 ⟨ds,it,fp,tn,J,H',e,ei,I',S,T,t0,fk,j⟩=>⟨ds,it,fp,tn,J,H',e,ei,I',S,T,t0,fk,j.jc⟩⟩
section
variable {X:Cx}{tg a b:Expr}{ga gb:G->R D}
def O4{K:aE}{H:Hp}{F:List Addr}{p:Addr}{xs:List V}{ds:List D}(h:cA K H p xs)(i:aq K (aH F H) ds xs):JC K H F (Am K p) ds:=λH1 S=>by
 have h1:=S.seq h
 have il:=i.length
 refine⟨λj hj=>⟨⟨xs,xs[j]'(by lia),h1,fu (by lia)⟩,λx H2 y=>⟨y.1,?_⟩⟩,⟨xs,h1,by lia⟩⟩
 exact(i.same (iT S)).yB (y.2 xs h1)
def BR{H H1:Hp}{F F':List Addr}(S:∀b o,b ∉ F->H b=some o->H1 b=some o)(o:∀b,b∈F'->b∈F∨H b=none):aO (aH F H) (aH F' H1):=Ext.aH ⟨S,o⟩
def O5{K:aE}{H:Hp}{F:List Addr}{p:Addr}{xs:List V}{ds:List D}(h:cC K (aH F H) p xs)(i:aq K (aH F H) ds xs):JD K H F (Dn K p) ds:=λH1 S=>by
 have h1:cC K H1 p xs:=qq (jA (F:=F)) (qq (BR S λb hb=>.inl hb) h)
 have il:=i.length
 refine⟨λj hj=>⟨⟨xs,xs[j]'(by lia),h1,fu (by lia)⟩,λx H2 y=>⟨y.1,?_⟩⟩,⟨xs,h1,by lia⟩⟩
 obtain⟨d,ed,iv⟩:=i.yB (y.2 xs h1)
 exact⟨d,ed,λF' hF=>iv.same (BR S hF)⟩
def Z1{K:aE}{H:Hp}{F:List Addr}{p:Addr}{xs:List V}{ds:List D}(h:cA K (aH F H) p xs)(i:aq K (aH F H) ds xs):JD K H F (Am K p) ds:=λH1 S=>by
 have h1:cA K H1 p xs:=(jA (F:=F)).seq ((BR S λb hb=>.inl hb).seq h)
 have il:=i.length
 refine⟨λj hj=>⟨⟨xs,xs[j]'(by lia),h1,fu (by lia)⟩,λx H2 y=>⟨y.1,?_⟩⟩,⟨xs,h1,by lia⟩⟩
 obtain⟨d,ed,iv⟩:=i.yB (y.2 xs h1)
 exact⟨d,ed,λF' hF=>iv.same (BR S hF)⟩
def GB{pins:List (Addr×Obj)}{σ:St}{H:Hp}{s:ah}{p:Addr}{xs:List V}{E:Value->ah->Prop}{Q:Value->ah->Prop}(I:Inv X pins σ H s)(h:cA X.K H p xs)
 (q:∀it s2,Inv X pins σ H s2->Turn X.prog X.w X.K tg (Am X.K p) [it] it (λi h=>h.IsListIter it p i)->s2.heap.IsListIter it p 0->(∀b∈[it],fU X pins H b)->Q (.ref it) s2):au (aD X.prog X.w) X.A (qO (.ref p)) Q E s:=by
 obtain⟨its,rv,pl,hz⟩:=I.list h
 refine C2 pl.isList (q s.heap.objs.size _ (I.kept (t':=s.toks) λb o e=>dE _ e) (Uo p _) ⟨_,gf _ rfl,rfl,rfl⟩ λb hb=>?_)
 have e:b=s.heap.objs.size:=by simpa using hb
 subst e
 exact I.sO (a9 _) (I.aN.fresh (a9 _))
def O6{pins:List (Addr×Obj)}{σ:St}{H:Hp}{s:ah}{p:Addr}{xs:List V}{E:Value->ah->Prop}{Q:Value->ah->Prop}(I:Inv X pins σ H s)(h:cC X.K H p xs)
 (q:∀it s2,Inv X pins σ H s2->Turn X.prog X.w X.K tg (Dn X.K p) [it] it (λi h=>h.IsTupleIter it p i)->s2.heap.IsTupleIter it p 0->(∀b∈[it],fU X pins H b)->Q (.ref it) s2):au (aD X.prog X.w) X.A (qO (.ref p)) Q E s:=by
 obtain⟨its,rv,pl,hz⟩:=I.tuple h
 refine wpAny_pyIter_tuple (show s.heap.IsTuple p its.toArray from pl) (q s.heap.objs.size _ (I.kept (t':=s.toks) λb o e=>dE _ e) (Up p _) ⟨_,gf _ rfl,rfl,rfl⟩ λb hb=>?_)
 have e:b=s.heap.objs.size:=by simpa using hb
 subst e
 exact I.sO (a9 _) (I.aN.fresh (a9 _))
def tW(ha:ij X a ga):vU X tg a (lU ga):=by
 refine⟨λpins s σ H F Γ I fo rl hg=>?_⟩
 refine az (ha.run pins s σ H F Γ I fo rl (R.left hg)) (λv s1 ⟨d,x,H1,e1,I1,r1,S1,i1⟩=>?_) λ_ _ x=>x.bind _
 have aM:=R.next hg e1
 cases d with
 | tup ds =>
   obtain⟨p,xs,rfl,h1,h2⟩:=Is.fB.mp i1
   cases (show v=fF p from r1)
   exact O6 (tg:=tg) I1 (qq (jA (F:=F)) h1) λit s2 I2 T t0 fk=>⟨ds,it,_,_,_,H1,R.step e1 _,rfl,I2,S1,T,t0,fk,O5 h1 h2⟩
 | lst ds =>
   obtain⟨p,xs,rfl,h1,h2⟩:=Is.fC.mp i1
   cases (show v=fF p from r1)
   exact GB (tg:=tg) I1 ((jA (F:=F)).seq h1) λit s2 I2 T t0 fk=>⟨ds,it,_,_,_,H1,R.step e1 _,rfl,I2,S1,T,t0,fk,Z1 h1 h2⟩
 | _=>exact absurd rfl aM
def pH(ha:PD X a ga):tV X tg a (fQ ga):=by
 refine⟨λpins s σ H F Γ I fo rl hg=>?_⟩
 refine az (ha.run pins s σ H F Γ I fo rl (R.left hg)) (λv s1 ⟨d,x,H1,e1,I1,r1,S1,i1⟩=>?_) λ_ _ x=>x.bind _
 have aM:=R.next hg e1
 cases d with
 | tup ds =>
   obtain⟨n,e2⟩:=R.cU (show R.guard (D.bC ds=true) (.ok ds) ≠ .no from aM)
   obtain⟨p,xs,rfl,h1,h2⟩:=Is.fB.mp i1
   cases (show v=fF p from r1)
   exact O6 (tg:=tg) I1 h1 λit s2 I2 T t0 fk=>⟨ds,it,_,_,_,H1,(R.step e1 _).trans e2,rfl,I2,S1,T,t0,fk,(O5 (OT (fo.same S1) h1) (aq.aH (fo.same S1) ds xs n h2)).jc⟩
 | lst ds =>
   obtain⟨n,e2⟩:=R.cU (show R.guard (D.bC ds=true) (.ok ds) ≠ .no from aM)
   obtain⟨p,xs,rfl,h1,h2⟩:=Is.fC.mp i1
   cases (show v=fF p from r1)
   exact GB (tg:=tg) I1 h1 λit s2 I2 T t0 fk=>⟨ds,it,_,_,_,H1,(R.step e1 _).trans e2,rfl,I2,S1,T,t0,fk,O4 h1 (aq.aH (fo.same S1) ds xs n h2)⟩
 | _=>exact absurd rfl aM
def O7{K:aE}{H:Hp}{F:List Addr}(lo:Int)(n:Nat):JD K H F (rg lo n) (iN lo n):=λH1 S=>by
 rw[qf]
 refine⟨λj hj=>⟨hj,λx H2 y=>⟨y.1,.int (lo+(j:Int)),AQ lo n j hj,λF' _=>?_⟩⟩,a9 _⟩
 exact Is.bZ.mpr y.2
def pI{p pos:Pos}(ha:PD X a ga)(hm:X.mg "range"=none)(hg:Gl X "range":=by rfl)(hs:aT [a] X.env=[(false,eval a X.env)]:=by rfl):vU X tg (.Call (.Name "range" p) [a] [] pos) (mV ga):=by
 refine⟨λpins s σ H F Γ I fo rl bW=>?_⟩
 refine wY (iu I hg hm KA (oV ?_ hs rfl))
 rw[hs]
 show au _ _ (e9 ((false,eval a X.env)::cH pos [])) _ _ s
 refine fT (az (ha.run pins s σ H F Γ I fo rl (R.left bW)) (λu s1 ⟨d,v,H1,e1,I1,r1,S1,i1⟩=>iJ ?_) λ_ _ x=>x.bind _)
 have aM:=R.next bW e1
 cases d with
 | int j =>
   obtain⟨⟨h1,h2⟩,e2⟩:=R.cU (show R.guard (-(2^62)<=j/\j<2^62) (.ok (iN 0 j.toNat)) ≠ .no from aM)
   rw[Is.bZ.mp i1] at r1
   obtain⟨t,rfl⟩:=(show ∃t,u=nQ j t from r1)
   refine call_range_1 (ic (Dp (tg:=tg) (R:=λJ H'=>J=rg 0 (j-0).toNat/\H'=H1) I1 (by lia) (by lia) h1 h2 ⟨rfl,rfl⟩) λlN s2 ⟨it,fp,tn,J,H',ei,I2,T,t0,fk,eJ,eH⟩=>?_)
   subst eJ eH
   rw[Int.sub_zero] at T
   exact⟨_,it,fp,tn,_,H',(R.step e1 _).trans e2,ei,I2,S1,T,t0,fk,O7 0 j.toNat⟩
 | _=>exact absurd rfl aM
def Z2{p pos:Pos}(ha:PD X a ga)(hb:PD X b gb)(hm:X.mg "range"=none)(hg:Gl X "range":=by rfl)(hs:aT [a,b] X.env=[(false,eval a X.env),(false,eval b X.env)]:=by rfl)(r0:aT [b] X.env=[(false,eval b X.env)]:=by rfl) :
 vU X tg (.Call (.Name "range" p) [a,b] [] pos) (xP ga gb):=by
 refine⟨λpins s σ H F Γ I fo rl bW=>?_⟩
 refine wY (iu I hg hm KA (oV ?_ (by rw[hs,r0]) (by rw[r0];rfl)))
 rw[hs]
 show au _ _ (e9 ((false,eval a X.env)::cH pos [(false,eval b X.env)])) _ _ s
 refine fT (az (ha.run pins s σ H F Γ I fo rl (R.left bW)) (λu s1 ⟨d,v,H1,e1,I1,r1,S1,i1⟩=>?_) λ_ _ x=>x.bind _)
 have aM:=R.next bW e1
 show au _ _ (e9 ((false,eval b X.env)::cH pos [])) _ _ s1
 refine fT (az (hb.run pins s1 σ H1 F Γ I1 (fo.same S1) (rl.same S1) (R.left aM)) (λu2 s2 ⟨d2,v2,H2,e2,I2,r2,S2,i2⟩=>iJ ?_) λ_ _ x=>cw.later e1 S1 (x.bind _))
 have dC:=R.next aM e2
 cases d with
 | int i =>
   cases d2 with
   | int j =>
     obtain⟨⟨⟨h1,h2⟩,h3,h4⟩,e3⟩:=R.cU (show R.guard ((-(2^62)<=i/\i<2^62) /\ -(2^62)<=j/\j<2^62) (.ok (iN i (j-i).toNat)) ≠ .no from dC)
     rw[Is.bZ.mp i1] at r1
     rw[Is.bZ.mp i2] at r2
     obtain⟨t,rfl⟩:=(show ∃t,u=nQ i t from r1)
     obtain⟨t',rfl⟩:=(show ∃t,u2=nQ j t from r2)
     refine call_range_2 (ic (Dp (tg:=tg) (R:=λJ H'=>J=rg i (j-i).toNat/\H'=H2) I2 h1 h2 h3 h4 ⟨rfl,rfl⟩) λlN s3 ⟨it,fp,tn,J,H',ei,I3,T,t0,fk,eJ,eH⟩=>?_)
     subst eJ eH
     exact⟨_,it,fp,tn,_,H',(R.step e1 _).trans ((R.step e2 _).trans e3),ei,I3,S1.trans S2,T,t0,fk,O7 i (j-i).toNat⟩
   | _=>exact absurd rfl dC
 | _=>exact absurd rfl dC
end
def BS{k:oM}(h:(k==qU)=true):k = .free:=by cases k<;>first | rfl | (exact absurd h (by decide))
def cK(env:Env):List (Str×oM)->List (Str×Addr)->List (Str×Addr)
 | [],cs=>cs
 | (n,k)::r,cs=>if (k == .free)=true then (match env.cells.lookup n with | some a=>cK env r ((n,a)::cs) | none=>cK env r cs) else cK env r cs
def ox{env:Env}{x:Str}{c:Addr}:∀(names:List (Str×oM)) (cs:List (Str×Addr)),(x,c)∈cK env names cs->(x,c)∈cs∨env.cells.lookup x=some c
 | [],cs,h=>.inl h
 | (n,k)::r,cs,h=>by
   unfold cK at h
   split at h
   ·split at h
    ·rename_i a e
     rcases ox r _ h with q | q
     ·rcases List.mem_cons.mp q with z | z
      ·cases z;exact .inr e
      ·exact .inl z
     ·exact .inr q
    ·exact ox r _ h
   ·exact ox r _ h
def BU{env:Env}{p:Str×Addr}:∀(names:List (Str×oM)) (cs:List (Str×Addr)),p∈cs->p∈cK env names cs
 | [],cs,h=>h
 | (n,k)::r,cs,h=>by
   unfold cK
   split
   ·split
    ·exact BU r _ (ft _ h)
    ·exact BU r _ h
   ·exact BU r _ h
def tX{env:Env}{x:Str}{c:Addr}(e:env.cells.lookup x=some c):∀(names:List (Str×oM)) (cs:List (Str×Addr)),(x,qU)∈names->(x,c)∈cK env names cs
 | [],cs,h=>by simp at h
 | (n,k)::r,cs,h=>by
   unfold cK
   rcases List.mem_cons.mp h with z | z
   ·cases z
    rw[if_pos (show(qU==qU)=true by decide),e]
    exact BU r _ gj
   ·split
    ·split
     ·exact tX e r _ z
     ·exact tX e r _ z
    ·exact tX e r _ z
def tY{α:Type}:∀{l:List (Str×α)} {x:Str} {c:α},(x,c)∈l->∃c',l.lookup x=some c'/\(x,c')∈l
 | [],_,_,h=>by simp at h
 | (n,a)::r,x,c,h=>by
   by_cases e:x=n
   ·subst e;exact⟨a,by simp[List.lookup],gj⟩
   ·rcases List.mem_cons.mp h with z | z
    ·cases z;exact absurd rfl e
    ·obtain⟨c',h1,h2⟩:=tY z
     exact⟨c',by rw[List.lookup_cons,beq_eq_false_iff_ne.mpr e];exact h1,ft _ h2⟩
def tZ(N:List Str)(env:Env)(y:Str)(scope:dz):Bool :=
 decide (scope.kind = .function)&&scope.names.all (λp=>decide (p.2 ≠ .cell)&&(decide (p.2 ≠ .local)||decide (scope.names.lookup p.1=some .local))&&(decide (p.2 ≠ .free)||((env.cells.lookup p.1).isSome&&(decide (env.scope.names.lookup p.1=some .cell)||decide (env.scope.names.lookup p.1=some .free)))))
  && decide (scope.names.lookup y=some .local)&&decide (scope.names.lookup (("":Str))=none)&&N.all (λz=>decide (scope.names.lookup z≠some .local)||decide (z=y))&&N.all (λz=>decide (z≠("":Str)))
structure r6 (N:List Str) (env:Env) (y:Str) (scope:dz):Prop where
 kind:scope.kind = .function
 r8:∀p∈scope.names,p.2 ≠ .cell
 names:∀p∈scope.names,p.2 = .local->scope.names.lookup p.1=some .local
 free:∀p∈scope.names,p.2 = .free->(∃c,env.cells.lookup p.1=some c)/\(env.scope.names.lookup p.1=some .cell∨env.scope.names.lookup p.1=some .free)
 loc:scope.names.lookup y=some .local
 nil:scope.names.lookup (("":Str))=none
 only:∀z∈N,scope.names.lookup z=some .local->z=y
 none:∀z∈N,z≠("":Str)
def yF{N:List Str}{env:Env}{y:Str}{scope:dz}(h:tZ N env y scope=true):r6 N env y scope:=by
 unfold tZ at h
 simp only[i0,mF,CZ,decide_eq_true_eq] at h
 obtain⟨⟨⟨⟨⟨h1,h2⟩,h3⟩,h4⟩,h5⟩,h6⟩:=h
 refine⟨h1,λp hp=>(h2 p hp).1.1,λp hp e=>((h2 p hp).1.2).resolve_left λz=>z e,λp hp e=>?_,h3,h4,λz hz e=>(h5 z hz).resolve_left λq=>q e,h6⟩
 have q:=((h2 p hp).2).resolve_left λz=>z e
 exact⟨Option.isSome_iff_exists.mp q.1,q.2⟩
def cY(X:Cx)(y:Str)(scope:dz)(C:Addr)(ax:ah)(aB:Hp)(fp:List Addr)(pn:List (Addr×Obj)):Cx :=
 { X with N:=y::X.N.map (λz=>if z=y then ("":Str) else z),s₀:=ax,H₀:=aB,env:=gU scope (cK X.env scope.names []) C X.env,outer:=X.stack,ex:=fp,fn:=λ_=>false,pn:=pn,xe:=λ_ _=>False }
def Z3{α β:Type}{M:oK}{A:Around}{E E':Value->ah->Prop}{s:ah}{a:α}{t:Sem β}{P:α->ah->Prop}{Q:β->ah->Prop}(h:au M A (pure a) P E s)(k:P a s->au M A t Q E' s):au M A t Q E' s:=λΓ p BV=>k (h Γ p BV) Γ p BV
def GC{P:aS}{w:aR}{H:Hp}{h:Heap}{a:Addr}{o:HO}(x:eB P w H h)(hn:H a=none)(new:jo P w (upd H a o) h a o):eB P w (upd H a o) h:=λb u e=>by
 by_cases hb:b=a
 ·subst hb;rw[dj] at e;cases e;exact new
 ·rw[bM hb] at e
  exact(x b u e).lH (λc v _ q=>q) (λc q=>by rw[bM (ib q hn)];exact q) λc xs q=>by rw[bM (ib q hn)];exact q
def Z4{X:Cx}{y:Str}{scope:dz}{C Dd:Addr}{fp:List Addr}{pins pl:List (Addr×Obj)}{σ aJ:St}{aB H':Hp}{ax s1:ah}{xs:List V}{its:List Value}{n:Nat}(I:Inv X pins σ aB ax)
 (J:Inv (cY X y scope C ax aB fp (X.pn++pins)) pl aJ H' s1) (hD:ax.heap.objs.size<=Dd) (hn:H' Dd=none) (hd:s1.heap.get? Dd=some { cls:=.type "list",data:=.seq its.toArray n }) (rv:Vals xs its) (hz:xs.length<=b5) (hf:∀b∈fp,fU X pins aB b) :
 Inv X pins σ (upd H' Dd (.lst xs)) s1:=by
 have os:s1.os=ax.os:=J.os
 have un:Un (dA X.stack) fp aB H' ax.heap s1.heap:=J.base
 have aN:eB X.prog X.w H' s1.heap:=J.aN
 have bare:nR s1.gens:=J.bare
 clear J
 obtain⟨hh,gg,dd,tt,nZ⟩:=s1
 obtain rfl:nZ=ax.os:=os
 have GD:∀b o,ax.heap.get? b=some o->b≠Dd:=λb o e=>dM (dc (bX e) hD)
 refine I.call (h':=hh) (g':=gg) (d':=dd) (t':=tt) (ch:=fp) ⟨un.keep,un.slot,λb o e n' hx=>?_,un.there,λb ys e=>?_,λb o u e=>?_,λb ps e=>?_⟩ (GC aN hn ⟨hz,its,n,rv,hd⟩) bare λb hb=>?_
 ·rw[bM (GD b o e)];exact un.free b o e n' hx
 ·have q:=un.kM b ys e
  rw[bM (ib q hn)];exact q
 ·have q:=un.kj b o u e
  rw[bM (ib q hn)];exact q
 ·obtain⟨more,q⟩:=un.kN b ps e
  exact⟨more,by rw[bM (ib q hn)];exact q⟩
 ·obtain⟨f0,f1,f2,f3,f4,f5⟩:=hf b hb
  exact⟨f3.imp_right λz=>wF z,f1,f4,f5⟩
def Z5{X:Cx}{y:Str}{scope:dz}{C:Addr}{fp:List Addr}{pins:List (Addr×Obj)}{σ:St}{aB:Hp}{ax:ah}(I:Inv X pins σ aB ax)(c:r6 X.N X.env y scope)(hC:ax.heap.objs.size<=C)(hf:∀b∈fp,fU X pins aB b)(ho:∀b∈fp,b<ax.heap.objs.size) :
 (cY X y scope C ax aB fp (X.pn++pins)).Ok:=by
 have cells:∀x k,(cK X.env scope.names []).lookup x=some k->X.env.cells.lookup x=some k:=λx k e=>by
  rcases ox scope.names [] (kg e) with q | q
  ·simp at q
  ·exact q
 refine⟨I.ok.mod,c.kind,I.ok.glob,I.ok.blt,hC,λx z k h1 h2=>I.ok.inj x z k (cells x k h1) (cells z k h2),λx hx=>?_,λx k h _=>absurd h (by simp[cY]),I.ok.hd,I.ok.frames,.inl rfl,λb hb=>?_,I.bs,fG I.ok.kl I.sz,λb o e hb=>?_,λb hb z=>?_,I.stack,I.Ai⟩
 ·have uZ:(iK scope X.env).names.lookup x=some .cell∨(iK scope X.env).names.lookup x=some .free:=hx
  have hm:∃k,(x,k)∈scope.names/\(k = .free∨k = .cell):=by
   rcases uZ with q | q <;>
   ·have m:=kg q
    unfold iK at m
    simp only[CY] at m
    obtain⟨⟨n,k⟩,hm,e⟩:=m
    by_cases hc:(k==qU&&X.env.scope.kind == .function&&X.env.kindOf n==some .cell)=true
    ·rw[if_pos hc] at e
     have e1:n=x:=congrArg uF e
     subst e1
     rw[i0,i0] at hc
     exact⟨k,hm,.inl (BS hc.1.1)⟩
    ·rw[if_neg hc] at e
     have e1:n=x:=congrArg uF e
     have e2:=congrArg zW e
     dsimp only at e2
     subst e1 e2
     exact⟨_,hm,by first | exact .inr rfl | exact .inl rfl⟩
  obtain⟨k,hm,hk⟩:=hm
  rcases hk with rfl | rfl
  ·obtain⟨⟨a,ea⟩,_⟩:=c.free _ hm rfl
   obtain⟨c',h1,_⟩:=tY (tX ea scope.names [] hm)
   exact⟨c',h1⟩
  ·exact absurd rfl (c.r8 _ hm)
 ·refine⟨dM (dc (ho b hb) hC),λx k e=>(hf b hb).2.2.2.2.1 x k (cells x k e)⟩
 ·rcases(hf b hb).2.2.2.1 with z | z
  ·exact I.ok.p4 b o e z
  ·exact absurd (dc (dc (bX e) I.ok.kl) z) (mB _)
 ·rcases List.mem_cons.mp (I.oX b z) with q | q
  ·exact(hf b hb).2.1 q
  ·exact(hf b hb).2.2.1 q
section
variable {X:Cx}{y:Str}{scope:dz}
def Z6{C Dd:Addr}{fp:List Addr}{pins:List (Addr×Obj)}{σ:St}{aB:Hp}{ax:ah}{dQ:Heap}{tk:Nat}{oD:Obj}{m:Str->Option Value}(I:Inv X pins σ aB ax)(c:r6 X.N X.env y scope)(hC:ax.heap.objs.size<=C)(hD:ax.heap.objs.size<=Dd)(fm:Dd≠C)(hf:∀b∈fp,fU X pins aB b)(ho:∀b∈fp,b<ax.heap.objs.size)
 (old:∀b o,ax.heap.get? b=some o->dQ.get? b=some o) (mO:dQ.Ns C m) (hd:dQ.get? Dd=some oD) (GF:∀v,oD.data ≠ .cell v) :
 Inv (cY X y scope C ax aB fp (X.pn++pins)) [(Dd,oD)] (none::σ) aB { ax with heap:=dQ,toks:=tk }:=by
 have cells:∀x k,(cK X.env scope.names []).lookup x=some k->X.env.cells.lookup x=some k:=λx k e=>by
  rcases ox scope.names [] (kg e) with q | q
  ·simp at q
  ·exact q
 have GG:∀b,ax.heap.objs.size<=b->b ∉ dA X.stack:=λb hb z=>by
  rcases List.mem_cons.mp (I.oX b z) with q | q
  ·exact absurd (dc I.lt (by rw[<-q];exact hb)) (mB _)
  ·exact I.Ah hb q
 refine⟨Z5 I c hC hf ho,rfl,I.bare,Un.kept old,⟨m,mO,λi x v e1 e2 e3=>?_⟩,λx k e=>?_,I.aN.fresh hC,λx k e=>I.j5 x k (cells x k e),λp hp=>?_,I.aN.kept old,?_⟩
 ·cases i with
  | zero=>simp at e2
  | succ i =>
    have yG:σ[i]? = some (some v):=by simpa using e2
    have iE:(X.N.map (λz=>if z=y then ("":Str) else z))[i]? = some x:=by simpa [cY] using e1
    rw[e8] at iE
    cases hz:X.N[i]? with
    | none=>rw[hz] at iE;cases iE
    | some z =>
      rw[hz] at iE
      simp only[CP,wU] at iE
      have t5:lI (iK scope X.env) x:=e3
      have oy:∀{k:oM},(iK scope X.env).names.lookup x=some k->∃k',(x,k')∈scope.names/\(k'=k∨(k' = .free/\k = .cell)):=λ{k} q=>by
       have m':=kg q
       unfold iK at m'
       simp only[CY] at m'
       obtain⟨⟨n,k0⟩,hm,e⟩:=m'
       by_cases hc:(k0==qU&&X.env.scope.kind == .function&&X.env.kindOf n==some .cell)=true
       ·rw[if_pos hc] at e
        have e1:n=x:=congrArg uF e
        have e2:=congrArg zW e
        dsimp only at e2
        subst e1 e2
        rw[i0,i0] at hc
        exact⟨k0,hm,.inr ⟨BS hc.1.1,rfl⟩⟩
       ·rw[if_neg hc] at e
        have e1:n=x:=congrArg uF e
        have e2:=congrArg zW e
        dsimp only at e2
        subst e1 e2
        exact⟨_,hm,.inl rfl⟩
      have GH:∀k',(x,k')∈scope.names->x≠("":Str):=λk' hm z=>by
       subst z
       obtain⟨c',h1,_⟩:=tY hm
       rw[c.nil] at h1;cases h1
      have ne:x≠("":Str):=by
       rcases t5 with q | q | q<;>(obtain⟨k',hm,_⟩:=oy q;exact GH k' hm)
      by_cases oq:z=y
      ·rw[if_pos oq] at iE;exact absurd iE.symm ne
      ·rw[if_neg oq] at iE
       subst iE
       have fr:(z,qU)∈scope.names:=by
        rcases t5 with q | q | q
        ·obtain⟨k',hm,hk⟩:=oy q
         rcases hk with rfl | ⟨_,hk⟩
         ·exact absurd (c.only z (sy hz) (c.names _ hm rfl)) oq
         ·cases hk
        ·obtain⟨k',hm,hk⟩:=oy q
         rcases hk with rfl | ⟨rfl,_⟩
         ·exact absurd rfl (c.r8 _ hm)
         ·exact hm
        ·obtain⟨k',hm,hk⟩:=oy q
         rcases hk with rfl | ⟨_,hk⟩
         ·exact hm
         ·cases hk
       obtain⟨⟨ca,Z7⟩,hv⟩:=c.free _ fr rfl
       obtain⟨m0,Z8,GI⟩:=I.loc
       obtain⟨u,ru,lk⟩:=GI i z v hz yG (.inr hv)
       refine⟨u,ru,?_⟩
       rcases lk with ⟨q,_⟩ | ⟨_,k,ek,hk⟩
       ·exfalso
        have q':X.env.scope.names.lookup z=some .local:=q
        rcases hv with w | w<;>(rw[q'] at w;cases w)
       ·obtain⟨c',h1,_⟩:=tY (tX ek scope.names [] fr)
        have h2:=cells z c' h1
        rw[ek] at h2;cases h2
        refine .inr ⟨?_,k,h1,?_⟩
        ·rcases t5 with q | q | q
         ·exfalso
          obtain⟨k',hm,jP⟩:=oy q
          rcases jP with rfl | ⟨_,jP⟩
          ·exact oq (c.only z (sy hz) (c.names _ hm rfl))
          ·cases jP
         ·exact .inl q
         ·exact .inr q
        ·obtain⟨o,fv,p5⟩:=hk
         exact⟨o,old _ _ fv,p5⟩
 ·obtain⟨v,o,fv,p5⟩:=I.cell x k (cells x k e)
  exact⟨v,o,old _ _ fv,p5⟩
 ·rcases List.mem_append.mp hp with q | q
  ·obtain⟨h1,h2,h3,h4,h5⟩:=I.pin p q
   refine⟨old _ _ h1,h2,dM (dc (bX h1) hC),λz=>?_,h5⟩
   rcases List.mem_cons.mp (I.oX p.1 z) with q' | q'
   ·exact h3 q'
   ·exact h4 q'
  ·have e:p=(Dd,oD):=by simpa using q
   subst e
   exact⟨hd,I.aN.fresh hD,fm,GG Dd hD,GF⟩
 ·show σ.length+1=(y::X.N.map _).length
  rw[b6,aX,I.len]
def Z9(X:Cx)(y:Str)(scope:dz)(ifs:List Expr)(elt:Expr)(r:R (Option D))(C:Addr)(ax:ah)(aB:Hp)(fp:List Addr)(pn pins:List (Addr×Obj))(s:ah)(σ:St)(H:Hp)(F:List Addr):Prop :=
    au (aD X.prog X.w) X.A (forIn ifs true λc r=>if r=true then do let ok <-nS c (gU scope (cK X.env scope.names []) C X.env) (eval c (gU scope (cK X.env scope.names []) C X.env));pure (mJ ok) else pure (mJ r)) (λok dR =>
     if ok=true then au (aD X.prog X.w) X.A (eval elt (gU scope (cK X.env scope.names []) C X.env)) (λu dD=>∃e v H',r = .ok (some e)/\Inv (cY X y scope C ax aB fp pn) pins σ H' dD/\RelV v u/\aO H H'/\Is X.K (aH F H') e v) (λ_ _=>False) dR
     else r = .ok none/\∃H',Inv (cY X y scope C ax aB fp pn) pins σ H' dR/\aO H H') (λ_ _=>False) s
structure yH (X:Cx) (y:Str) (scope:dz) (ifs:List Expr) (elt:Expr) (f:D->G->R (Option D)):Prop where
 run:∀(C:Addr) (ax:ah) (aB:Hp) (fp:List Addr) (pn:List (Addr×Obj)) (pins:List (Addr×Obj)) (s:ah) (σ:St) (H:Hp) (F:List Addr) (Γ:G) (d:D),Inv (cY X y scope C ax aB fp pn) pins σ H s->bL H F->Rel X.K H F (.ro d::Γ) σ->(∃o,f d Γ = .ok o) ->
  au (aD X.prog X.w) X.A (forIn ifs true λc r=>if r=true then do let ok <-nS c (gU scope (cK X.env scope.names []) C X.env) (eval c (gU scope (cK X.env scope.names []) C X.env));pure (mJ ok) else pure (mJ r)) (λok dR =>
   if ok=true then au (aD X.prog X.w) X.A (eval elt (gU scope (cK X.env scope.names []) C X.env)) (λu dD=>∃e v H',f d Γ = .ok (some e)/\Inv (cY X y scope C ax aB fp pn) pins σ H' dD/\RelV v u/\aO H H'/\Is X.K (aH F H') e v) (λ_ _=>False) dR
   else f d Γ = .ok none/\∃H',Inv (cY X y scope C ax aB fp pn) pins σ H' dR/\aO H H') (λ_ _=>False) s
def jf{elt:Expr}{ge:G->R D}(he:∀C ax aB fp pn,ij (cY X y scope C ax aB fp pn) elt ge):yH X y scope [] elt (dr ge):=by
 refine⟨λC ax aB fp pn pins s σ H F Γ d I fo rl ⟨o,eo⟩=>?_⟩
 refine Ti ?_
 rw[if_pos rfl]
 have bS:ge (.ro d::Γ) ≠ .no:=λz=>by unfold dr at eo;rw[z] at eo;cases eo
 refine az ((he C ax aB fp pn).run pins s σ H F (.ro d::Γ) I fo rl bS) (λu s4 ⟨e,v,H',e1,I',rv,S,iv⟩=>⟨e,v,H',R.step e1 _,I',rv,S,iv⟩) λx s' ⟨c,H',e1,_⟩=>?_
 unfold dr at eo;rw[e1] at eo;cases eo
def Z_{elt c:Expr}{gc:G->R Bool}{ge:G->R D}(hc:∀C ax aB fp pn,jB (cY X y scope C ax aB fp pn) c gc)(he:∀C ax aB fp pn,ij (cY X y scope C ax aB fp pn) elt ge):yH X y scope [c] elt (rA gc ge):=by
 refine⟨λC ax aB fp pn pins s σ H F Γ d I fo rl ⟨o,eo⟩=>?_⟩
 have bS:gc (.ro d::Γ) ≠ .no:=λz=>by unfold rA at eo;rw[z] at eo;cases eo
 refine a5t (az ((hc C ax aB fp pn).run pins s σ H F (.ro d::Γ) I fo rl bS) (λk s3 ⟨H1,e1,I1,S1⟩=>?_) λx s' ⟨c',H',e1,_⟩=>?_)
 ·have oz:(if k=true then ge (.ro d::Γ)>>=λe=>R.ok (some e) else .ok none) = .ok o:=by
   unfold rA at eo;rw[e1] at eo;exact eo
  cases k with
  | false =>
    rw[if_neg sC]
    exact⟨R.step e1 _,H1,I1,S1⟩
  | true =>
    rw[if_pos rfl] at oz ⊢
    have GJ:ge (.ro d::Γ) ≠ .no:=λz=>by rw[z] at oz;cases oz
    refine az ((he C ax aB fp pn).run pins s3 σ H1 F (.ro d::Γ) I1 (fo.same S1) (rl.same S1) GJ) (λu s4 ⟨e,v,H',e2,I',rv,S,iv⟩=>⟨e,v,H',(R.step e1 _).trans (R.step e2 _),I',rv,S1.trans S,iv⟩) λx s' ⟨c',H',e2,_⟩=>?_
    rw[e2] at oz;cases oz
 ·unfold rA at eo;rw[e1] at eo;cases eo
def GK{K:aE}{H:Hp}{F:List Addr}{Γ:G}{σ:St}{d:D}{v:V}(r:Rel K H F Γ σ)(i:Is K (aH F H) d v):Rel K H F (.ro d::Γ) (some v::σ) where
 len:=by rw[b6,b6,r.len]
 ro:=λj d' h=>by
  cases j with
  | zero=>simp at h;cases h;exact⟨v,rfl,i⟩
  | succ j=>exact r.ro j d' (by simpa using h)
 own:=λj ds h=>by
  cases j with
  | zero=>simp at h
  | succ j=>exact r.own j ds (by simpa using h)
 inj:=λj k ds es a h1 h2 h3 h4=>by
  cases j with
  | zero=>simp at h1
  | succ j =>
    cases k with
    | zero=>simp at h2
    | succ k=>rw[r.inj j k ds es a (by simpa using h1) (by simpa using h2) (by simpa using h3) (by simpa using h4)]
def BW{n a i:Nat}(e:n=a-i)(h:i<a):a-(i+1)<n:=by lia
def O8{a c d:Nat}(h:c=d+1)(e:a=d):(d≠c/\a<=c/\a<=d)/\∀b,b<a->b≠c/\b≠d:=⟨⟨by lia,by lia,by lia⟩,λb hb=>⟨by lia,by lia⟩⟩
def NX(X:Cx)(scope:dz)(RR:Value->Addr->mE->ah->Prop)(Dd C:Addr):Value->ah->Prop:=wZ (aD X.prog X.w) X.A (gU scope (cK X.env scope.names []) C X.env) λe s'=>RR (.ref Dd) C (.error e) s'
def O9(X:Cx)(scope:dz)(ifs:List Expr)(elt:Expr)(C:Addr)(Q:Value->ah->Prop)(Q0:ah->Prop)(E:Value->ah->Prop)(s:ah):Prop :=
 au (aD X.prog X.w) X.A (forIn ifs true λc r=>if r=true then do let ok <-nS c (gU scope (cK X.env scope.names []) C X.env) (eval c (gU scope (cK X.env scope.names []) C X.env));pure (mJ ok) else pure (mJ r)) (λok dR=>if ok=true then au (aD X.prog X.w) X.A (eval elt (gU scope (cK X.env scope.names []) C X.env)) Q E dR else Q0 dR) E s
def O_{elt iter:Expr}{px pos:Pos}{ifs:List Expr}{pins:List (Addr×Obj)}{σ:St}{aB:Hp}{ax:ah}{n:Nat}{it:Addr}{fp:List Addr}{tn:Nat->Heap->Prop}{J:It}{E:Value->ah->Prop}{RR:Value->Addr->mE->ah->Prop}(P:Nat->Hp->List V->Prop)
 (hP0:P 0 aB []) (hPl:∀i H xs,P i H xs->i<=n->xs.length<=100000) (hgo:∀i H xs,P i H xs->i<n->J.go i H/\∀x H5,J.uQ i H x H5->H5=H) (a0a:∀H xs,P n H xs->J.stop n H)
 (hp:∀(Dd C:Addr) (ps:List (Addr×Obj)) (s:ah) (x:V) (H:Hp) (i:Nat) (xs:List V),ax.heap.objs.size<=C->(∀b∈fp,∃o,(b,o)∈ps)->Inv (cY X y scope C ax aB fp (X.pn++pins)) ps (some x::σ) H s->P i H xs->i<n->J.uQ i H x H ->
   O9 X scope ifs elt C (λu dD=>∃v H',Inv (cY X y scope C ax aB fp (X.pn++pins)) ps (some x::σ) H' dD/\RelV v u/\P (i+1) H' (xs++[v])) (λdR=>∃H',Inv (cY X y scope C ax aB fp (X.pn++pins)) ps (some x::σ) H' dR/\P (i+1) H' xs) (NX X scope RR Dd C) s)
 (c:r6 X.N X.env y scope) (hN:X.N.Nodup) (fq:X.calm=true) (I:Inv X pins σ aB ax) (T:Turn X.prog X.w X.K (.Name y px) J fp it tn) (t0:tn 0 ax.heap) (hf:∀b∈fp,fU X pins aB b)
 (hR:∀(Dd C:Addr) (xs:List V) (H':Hp) (m:Str->Option Value) (s':ah),ax.heap.objs.size<=C->Dd≠C->aB Dd=none->H' Dd=none->H' C=none->ax.heap.objs.size<=Dd->P n H' xs->Inv X pins σ (upd H' Dd (.lst xs)) s'->s'.heap.Ns C m->RR (.ref Dd) C (.ok .next) s') :
 au (aD X.prog X.w) X.A (uG []) (λacc dR=>au (aD X.prog X.w) X.A (w9 scope X.env.globals (cK X.env scope.names []) [] X.env.qual none .none (some X.env)) (λcenv dD=>cenv.frame=X.env.frame /\
  jl (aD X.prog X.w) X.A (.compStart (.ListComp elt [⟨.Name y px,iter,ifs,0⟩] scope pos) 0 (.ref it) acc { cenv with scope:=iK scope X.env }) (RR acc cenv.locals) dD) E dR) E ax:=by
 have ho:∀b∈fp,b<ax.heap.objs.size:=λb hb=>by obtain⟨o,e,_⟩:=T.obj _ _ t0 b hb;exact bX e
 refine sA (a5u c.r8 (by intro y hy;simp at hy) (λdQ qw oA=>?_) c.kind)
 dsimp only at qw oA ⊢
 generalize t6:ax.heap.push { cls:=.type "list",dict:=none,data:=.seq ([]:List Value).toArray }=H2 at qw oA ⊢
 have t7:H2.objs.size=ax.heap.objs.size+1:=by rw[<-t6,zX]
 generalize hCC:H2.objs.size=C at qw oA t7 ⊢
 generalize yI:ax.heap.objs.size=Dd at t7 ⊢
 obtain⟨⟨fm,hC,hD⟩,below⟩:=O8 t7 yI
 have old:∀b o,ax.heap.get? b=some o->dQ.get? b=some o:=λb o e=>by
  refine oA.extBut b o (below b (bX e)).1 ?_
  exact dE _ (t6 ▸ dE _ e)
 have pJ:dQ.get? Dd=some { cls:=.type "list",dict:=none,data:=.seq ([]:List Value).toArray }:=by
  refine oA.extBut _ _ fm ?_
  refine dE _ ?_
  rw[<-t6,<-yI]
  exact gf _ rfl
 have J0:∀tk,Inv (cY X y scope C ax aB fp (X.pn++pins)) [(Dd,{ cls:=.type "list",dict:=none,data:=.seq ([]:List Value).toArray })] (none::σ) aB { ax with heap:=dQ,toks:=tk }:=λtk =>
  Z6 I c hC hD fm hf ho old qw pJ (λv z=>nomatch z)
 have t1:tn 0 dQ:=T.keep _ _ _ t0 λb hb o e=>old b o e
 have t8:∀{H':Hp} {o:Obj},(∀b∈fp,H' b=none)->∀b∈fp,fU (cY X y scope C ax aB fp (X.pn++pins)) [(Dd,o)] H' b:=λ{H' o} hn b hb=>by
  obtain⟨f0,f1,f2,f3,f4,f5⟩:=hf b hb
  have lt:=ho b hb
  refine⟨hn b hb,(below b lt).1,λz=>?_,.inl hb,λx k e=>?_,λp cJ=>?_⟩
  ·rcases List.mem_cons.mp (I.oX b z) with q | q
   ·exact f1 q
   ·exact f2 q
  ·rcases ox scope.names [] (kg e) with q | q
   ·simp at q
   ·exact f4 x k q
  ·rcases List.mem_append.mp cJ with q | q
   ·exact f5 p q
   ·have e:p=(Dd,o):=by simpa using q
    subst e
    exact eA (below b lt).2
 have BX:(cY X y scope C ax aB fp (X.pn++pins)).N.Nodup:=by
  show(y::X.N.map (λz=>if z=y then ("":Str) else z)).Nodup
  refine List.nodup_cons.mpr ⟨λz=>?_,?_⟩
  ·obtain⟨z',hz,e⟩:=List.mem_map.mp z
   by_cases q:z'=y
   ·rw[if_pos q] at e
    subst e
    have:=c.loc;rw[c.nil] at this;cases this
   ·rw[if_neg q] at e;exact q e
  ·have inj:∀a∈X.N,∀b∈X.N,(if a=y then ("":Str) else a)=(if b=y then ("":Str) else b)->a=b:=λa ha b hb e=>by
    by_cases qa:a=y
    ·by_cases qb:b=y
     ·rw[qa,qb]
     ·rw[if_pos qa,if_neg qb] at e;exact absurd e.symm (c.none b hb)
    ·by_cases qb:b=y
     ·rw[if_neg qa,if_pos qb] at e;exact absurd e (c.none a ha)
     ·rw[if_neg qa,if_neg qb] at e;exact e
   have gen:∀l:List Str,(∀a∈l,a∈X.N)->l.Nodup->(l.map (λz=>if z=y then ("":Str) else z)).Nodup:=by
    intro l
    induction l with
    | nil=>intro _ _;exact a5v
    | cons a l ih =>
      intro hs nd
      obtain⟨n1,n2⟩:=List.nodup_cons.mp nd
      rw[fN]
      refine List.nodup_cons.mpr ⟨λz=>?_,ih (λb hb=>hs b (ft _ hb)) n2⟩
      obtain⟨b,hb,e⟩:=List.mem_map.mp z
      exact n1 (inj b (hs b (ft _ hb)) a (hs a gj) e ▸ hb)
   exact gen X.N (λ_ h=>h) hN
 let L:Nat->ah->Prop:=λm s'=>∃(i:Nat) (H':Hp) (o:Option V) (xs:List V) (its:List Value) (k:Nat),m=n-i/\i<=n/\Inv (cY X y scope C ax aB fp (X.pn++pins)) [(Dd,{ cls:=.type "list",dict:=none,data:=.seq its.toArray k })] (o::σ) H' s'/\(∀b∈fp,H' b=none)/\tn i s'.heap/\Vals xs its/\P i H' xs
 have loop:∀dD:ah,L n dD->jl (aD X.prog X.w) X.A (.compLoop (.ListComp elt [⟨.Name y px,iter,ifs,0⟩] scope pos) 0 (.ref it) (.ref Dd) (gU scope (cK X.env scope.names []) C X.env)) (RR (.ref Dd) C) dD:=λdD h4=>by
  refine codeAny_compLoop_tests L (λm s' hL=>az (E:=λ_ _=>False) ?_ (λ_ _ q=>q) λ_ _ z=>z.elim) n h4
  obtain⟨i,H',o,xs,its,k,en,hi,J',yJ,yK,rv,pi⟩:=hL
  have hpD:=J'.pin (Dd,{ cls:=.type "list",dict:=none,data:=.seq its.toArray k }) (dW _ (by simp))
  have ot:=hPl i H' xs pi hi
  have nj:(100000:Nat)<=b5:=by rw[lD];decide
  by_cases cW:i<n
  ·obtain⟨go,yl⟩:=hgo i H' xs pi cW
   refine ic (T.item (cY X y scope C ax aB fp (X.pn++pins)) rfl rfl rfl fq i _ s' _ H' (λ_ _=>False) J' (t8 yJ) yK go) λr s2 ⟨u,hr,h1⟩=>?_
   subst hr
   refine Z3 (a:=()) h1 λ⟨x,H5,J5,r5,y5,nE,yL⟩=>?_
   have e5:=yl x H5 y5
   subst e5
   have GL:=J5.pinned (t8 yL) (T.obj _ _ nE)
   have yM:PG (cY X y scope C ax aB fp (X.pn++pins)).bY (.Name y px) (xw 0):=uP (X:=(cY X y scope C ax aB fp (X.pn++pins)).bY) BX rfl (.inl (w_ c.loc)) (.inr (w_ c.loc))
   refine az (yM _ s2 (o::σ) H5 x u (λaJ H'=>aJ=some x::σ/\H'=H5) (GL.dB _) r5 ⟨rfl,rfl⟩) (λ_ s3 ⟨BY,H6,J6,e6,yN⟩=>?_) λ_ _ z=>z.elim
   subst e6 yN
   have back:∀{s5:ah} {H7:Hp} {dS:St},Inv (cY X y scope C ax aB fp (X.pn++pins)) ([(Dd,{ cls:=.type "list",dict:=none,data:=.seq its.toArray k })]++uS fp s2.heap) dS H7 s5->tn (i+1) s5.heap/\(∀b∈fp,H7 b=none):=λ{s5 H7 dS} J7=>by
    refine⟨T.keep _ _ _ nE λb hb o' e=>(J7.pin (b,o') (dW _ (dW _ (sP hb e)))).1,λb hb=>?_⟩
    obtain⟨o',e,dd⟩:=T.obj _ _ nE b hb
    exact(J7.pin (b,o') (dW _ (dW _ (sP hb e)))).2.1
   refine az (hp Dd C _ s3 x H6 i xs hC (λb hb=>by obtain⟨o',e,_⟩:=T.obj _ _ nE b hb;exact⟨o',dW _ (sP hb e)⟩) J6.fw pi cW y5) (λok s4 h4=>?_) λ_ _ z=>z
   cases ok with
   | false =>
     rw[if_neg sC] at h4 ⊢
     obtain⟨H7,J7,p7⟩:=h4
     obtain⟨t9,t_⟩:=back J7
     exact⟨n-(i+1),BW en cW,i+1,H7,some x,xs,its,k,rfl,cW,J7.rh,t_,t9,rv,p7⟩
   | true =>
     rw[if_pos rfl] at h4 ⊢
     refine az h4 (λu7 s5 ⟨v7,H7,J7,r7,p7⟩=>?_) λ_ _ z=>z
     obtain⟨t9,t_⟩:=back J7
     have J8:=J7.rh
     have qx:=J8.pin (Dd,{ cls:=.type "list",dict:=none,data:=.seq its.toArray k }) (dW _ (by simp))
     refine a5w (l:=Dd) (items:=its.toArray) (x:=u7) ⟨k,qx.1⟩ (λh' ml qy=>?_) (by rw[de,<-rv.length];exact fG ot nj)
     obtain⟨k',jP⟩:=ml
     have GN:its.toArray.push u7=(its++[u7]).toArray:=by simp
     rw[GN] at jP
     have J9:Inv (cY X y scope C ax aB fp (X.pn++pins)) [] (some x::σ) H7 s5:=J8.q_ λp cJ=>by simp at cJ
     have GO:Inv (cY X y scope C ax aB fp (X.pn++pins)) [] (some x::σ) H7 { s5 with heap:=h' }:=J9.turned (t':=s5.toks) (it:=Dd) (λb o' hb e'=>(qy.2 b hb).trans e') qx.2.1 fm (.inr hD) (λx' yO e' z=>by
      rcases ox scope.names [] (kg e') with q | q
      ·simp at q
      ·obtain⟨v',o',fv,_⟩:=I.cell x' yO q
       exact(below yO (bX fv)).2 z) (λp cJ z=>by
      rcases List.mem_append.mp cJ with q | q
      ·obtain⟨iW,_⟩:=I.pin p q
       exact(below p.1 (bX iW)).2 z
      ·simp at q)
     have GP:Inv (cY X y scope C ax aB fp (X.pn++pins)) [(Dd,{ cls:=.type "list",dict:=none,data:=.seq (its++[u7]).toArray k' })] (some x::σ) H7 { s5 with heap:=h' }:=GO.q_ λp cJ=>by
      have e':p=(Dd,{ cls:=.type "list",dict:=none,data:=.seq (its++[u7]).toArray k' }):=by simpa using cJ
      subst e'
      exact⟨jP,qx.2.1,fm,qx.2.2.2.1,λv z=>nomatch z⟩
     exact⟨n-(i+1),BW en cW,i+1,H7,some x,xs++[v7],its++[u7],k',rfl,cW,GP,t_,T.keep _ _ _ t9 λb hb o' e'=>(qy.2 b (below b (ho b hb)).2).trans e',rv.append (.cons r7 .nil),p7⟩
  ·have yP:i=n:=a5x hi (SD cW)
   subst yP
   refine ic (T.done (cY X y scope C ax aB fp (X.pn++pins)) rfl rfl rfl fq _ _ s' _ H' (λ_ _=>False) J' (t8 yJ) yK (a0a H' xs pi)) λr s1 ⟨hr,J1⟩=>?_
   subst hr
   have ua:=J1.pin (Dd,{ cls:=.type "list",dict:=none,data:=.seq its.toArray k }) (dW _ (by simp))
   obtain⟨mC,jg,_⟩:=J1.loc
   exact hR Dd C xs H' mC s1 hC fm (I.aN.fresh hD) ua.2.1 J1.free hD pi (Z4 I J1 hD ua.2.1 ua.1 rv (fG ot nj) hf) jg
 have L0:∀tk,L n { ax with heap:=dQ,toks:=tk }:=λtk=>⟨0,aB,none,[],[],_,rfl,pV _,J0 tk,λb hb=>(hf b hb).1,t1,.nil,hP0⟩
 exact⟨rfl,a5y (loop _ (L0 _)) (T.self _ 0 _ _ _ t1 (loop _ (L0 _)))⟩
def Pa{elt iter:Expr}{px pos:Pos}{ifs:List Expr}{f:D->G->R (Option D)}{pins:List (Addr×Obj)}{σ:St}{aB:Hp}{ax:ah}{F:List Addr}{Γ:G}{items:List D}{it:Addr}{fp:List Addr}{tn:Nat->Heap->Prop}{J:It}{E:Value->ah->Prop}{res:R (List D)}{RR:Value->Addr->mE->ah->Prop}
 (hp:∀(Dd C:Addr) (ps:List (Addr×Obj)) (s:ah) (x:V) (H:Hp) (d:D),ax.heap.objs.size<=C->(∀b∈fp,∃o,(b,o)∈ps)->Inv (cY X y scope C ax aB fp (X.pn++pins)) ps (some x::σ) H s->aO aB H->bL H F->Rel X.K H F (.ro d::Γ) (some x::σ)->f d Γ ≠ .no->(∀c,f d Γ = .er c->res = .er c) ->
   O9 X scope ifs elt C (λu dD=>∃e v H',f d Γ = .ok (some e)/\Inv (cY X y scope C ax aB fp (X.pn++pins)) ps (some x::σ) H' dD/\RelV v u/\aO H H'/\Is X.K (aH F H') e v) (λdR=>f d Γ = .ok none/\∃H',Inv (cY X y scope C ax aB fp (X.pn++pins)) ps (some x::σ) H' dR/\aO H H') (NX X scope RR Dd C) s)
 (c:r6 X.N X.env y scope) (hN:X.N.Nodup) (fq:X.calm=true) (I:Inv X pins σ aB ax) (fo:bL aB F) (rl:Rel X.K aB F Γ σ) (T:Turn X.prog X.w X.K (.Name y px) J fp it tn) (t0:tn 0 ax.heap) (hf:∀b∈fp,fU X pins aB b) (hj:JC X.K aB F J items)
 (ht:j9 (λd=>f d Γ) items []=res) (n6:res ≠ .no) (hl:items.length<=100000)
 (hR:∀(total:List D) (Dd C:Addr) (xs:List V) (H':Hp) (m:Str->Option Value) (s':ah),res = .ok total->ax.heap.objs.size<=C->Dd≠C->aB Dd=none->H' Dd=none->H' C=none->ax.heap.objs.size<=Dd->aO aB H'->aq X.K (aH F H') total xs->Inv X pins σ (upd H' Dd (.lst xs)) s'->s'.heap.Ns C m->RR (.ref Dd) C (.ok .next) s') :
 au (aD X.prog X.w) X.A (uG []) (λacc dR=>au (aD X.prog X.w) X.A (w9 scope X.env.globals (cK X.env scope.names []) [] X.env.qual none .none (some X.env)) (λcenv dD=>cenv.frame=X.env.frame /\
  jl (aD X.prog X.w) X.A (.compStart (.ListComp elt [⟨.Name y px,iter,ifs,0⟩] scope pos) 0 (.ref it) acc { cenv with scope:=iK scope X.env }) (RR acc cenv.locals) dD) E dR) E ax:=by
 refine O_ (n:=items.length) (λi H xs=>aO aB H/\∃acc:List D,acc.length<=i/\aq X.K (aH F H) acc xs/\j9 (λd=>f d Γ) (items.drop i) acc=res) ⟨.refl _,[],a9 _,aq.nil,by rw[zM];exact ht⟩ (λi H xs ⟨_,acc,h1,h2,_⟩ hi=>by rw[<-h2.length];exact fG h1 (fG hi hl))
  (λi H xs ⟨S,_⟩ hi=>⟨((hj H S).1 i hi).1,λx H5 y5=>(((hj H S).1 i hi).2 x H5 y5).1⟩) (λH xs ⟨S,_⟩=>(hj H S).2) (λDd C ps s x H i xs hC kc J ⟨S,acc,h1,h2,h3⟩ hi y5=>?_) c hN fq I T t0 hf λDd C xs H' m s' hC fm hn gI jg hD ⟨S,acc,h1,h2,h3⟩ I' mO=>?_
 ·obtain⟨_,d,ed,iv⟩:=((hj H S).1 i hi).2 x H y5
  have yQ:items.drop i=d::items.drop (i+1):=by
   rw[KC hi,mD ((fu hi).symm.trans ed)]
  rw[yQ] at h3
  unfold j9 at h3
  refine az (hp Dd C ps s x H d hC kc J S (fo.same S) (GK (rl.same S) iv) (λz=>by simp only[z] at h3;exact n6 h3.symm) λc z=>by simp only[z] at h3;exact h3.symm) (λok s4 h4=>?_) λ_ _ z=>z
  cases ok with
  | false =>
    rw[if_neg sC] at h4 ⊢
    obtain⟨ef,H7,J7,S7⟩:=h4
    simp only[ef] at h3
    exact⟨H7,J7,S.trans S7,acc,a5z h1,h2.same (iT S7),h3⟩
  | true =>
    rw[if_pos rfl] at h4 ⊢
    refine az h4 (λu7 s5 ⟨e,v7,H7,ef,J7,r7,S7,yR⟩=>?_) λ_ _ z=>z
    simp only[ef] at h3
    exact⟨v7,H7,J7,r7,S.trans S7,acc++[e],by rw[dN,Sz];exact a6a h1,(h2.same (iT S7)).append (aq.cons yR aq.nil),h3⟩
 ·rw[Kg] at h3
  unfold j9 at h3
  exact hR acc Dd C xs H' m s' h3.symm hC fm hn gI jg hD S h2 I' mO
def Pb(f:D->R (Option D)):∀{l acc:List D} {t:List D},dF f l acc = .ok t->j9 f l acc = .ok t
 | [],acc,t,h=>h
 | d::l,acc,t,h=>by
   unfold dF at h
   unfold j9
   cases q:f d with
   | no=>simp only[q] at h;cases h
   | er c=>simp only[q] at h;cases h
   | ok o=>cases o<;>(simp only[q] at h ⊢;exact Pb f h)
def GQ{elt iter:Expr}{px pos:Pos}{ifs:List Expr}{f:D->G->R (Option D)}{pins:List (Addr×Obj)}{σ:St}{aB:Hp}{ax:ah}{F:List Addr}{Γ:G}{items:List D}{it:Addr}{fp:List Addr}{tn:Nat->Heap->Prop}{J:It}{E:Value->ah->Prop}{total:List D}
 (hp:∀(C:Addr) (ps:List (Addr×Obj)) (s:ah) (x:V) (H:Hp) (d:D),Inv (cY X y scope C ax aB fp (X.pn++pins)) ps (some x::σ) H s->aO aB H->bL H F->Rel X.K H F (.ro d::Γ) (some x::σ)->(∃o,f d Γ = .ok o)->Z9 X y scope ifs elt (f d Γ) C ax aB fp (X.pn++pins) ps s (some x::σ) H F)
 (c:r6 X.N X.env y scope) (hN:X.N.Nodup) (fq:X.calm=true) (I:Inv X pins σ aB ax) (fo:bL aB F) (rl:Rel X.K aB F Γ σ) (T:Turn X.prog X.w X.K (.Name y px) J fp it tn) (t0:tn 0 ax.heap) (hf:∀b∈fp,fU X pins aB b) (hj:JC X.K aB F J items)
 (ht:dF (λd=>f d Γ) items [] = .ok total) (hl:items.length<=100000) {RR:Value->Addr->mE->ah->Prop}
 (hR:∀(Dd C:Addr) (xs:List V) (H':Hp) (m:Str->Option Value) (s':ah),ax.heap.objs.size<=C->Dd≠C->aB Dd=none->H' Dd=none->H' C=none->ax.heap.objs.size<=Dd->aO aB H'->aq X.K (aH F H') total xs->Inv X pins σ (upd H' Dd (.lst xs)) s'->s'.heap.Ns C m->RR (.ref Dd) C (.ok .next) s') :
 au (aD X.prog X.w) X.A (uG []) (λacc dR=>au (aD X.prog X.w) X.A (w9 scope X.env.globals (cK X.env scope.names []) [] X.env.qual none .none (some X.env)) (λcenv dD =>
  jl (aD X.prog X.w) X.A (.compStart (.ListComp elt [⟨.Name y px,iter,ifs,0⟩] scope pos) 0 (.ref it) acc { cenv with scope:=iK scope X.env }) (RR acc cenv.locals) dD) E dR) E ax:=by
 refine az (Pa (f:=f) (Γ:=Γ) (F:=F) (RR:=RR) (res:=.ok total) (λDd C ps s x H d _ _ J S fo rl bS rY=>?_) c hN fq I fo rl T t0 hf hj (Pb _ ht) (λz=>nomatch z) hl λt Dd C xs H' m s' e=>by cases e;exact hR Dd C xs H' m s') (λ_ _ h=>az h (λ_ _ h=>h.2) λ_ _ e=>e) λ_ _ e=>e
 have ho:∃o,f d Γ = .ok o:=by
  cases q:f d Γ with
  | no=>exact absurd q bS
  | er c=>cases rY c q
  | ok o=>exact⟨o,rfl⟩
 refine az (hp C ps s x H d J S fo rl ho) (λok s4 h4=>?_) λ_ _ z=>z.elim
 cases ok with
 | false=>exact h4
 | true=>exact az h4 (λ_ _ q=>q) λ_ _ z=>z.elim
def jC{elt iter:Expr}{px pos:Pos}{ifs:List Expr}{f:D->G->R (Option D)}{gi:G->R (List D)}(hi:tV X (.Name y px) iter gi)(hp:yH X y scope ifs elt f)(hN:X.N.Nodup)(fq:X.calm=true)
 (oB:tZ X.N X.env y scope=true:=by rfl) (mq:xc scope X.env=pure (cK X.env scope.names []):=by rfl) (hs:∀x,uH iter X.env x=pure x:=by intro _;rfl) :
 PF X (.ListComp elt [⟨.Name y px,iter,ifs,0⟩] scope pos) (c8 gi f):=by
 refine⟨λpins s σ H F Γ I fo rl hg=>?_⟩
 have c:=yF oB
 rw[KD]
 refine C3 (use:=none) rfl hs mq c.kind c.names (az (hi.run pins s σ H F Γ I fo rl (R.left hg)) (λxv cD dQ=>az dQ (λlN ax mr=>?_) λ_ _ x=>x.bind _) λ_ _ x=>x.bind _)
 obtain⟨items,it,fp,tn,J,aB,e1,rfl,I2,S2,T,t0,fk,jc⟩:=mr
 have fL:=R.next hg e1
 obtain⟨hl,e2⟩:=R.cU fL
 have bS:dF (λd=>f d Γ) items [] ≠ .no:=by
  have:=R.next hg e1
  rw[e2] at this;exact this
 obtain⟨total,et⟩:=xQ bS
 refine GQ (RR:=λacc C=>C4 (aD X.prog X.w) X.A _ none _ acc C) (λC ps s x H d J _ fo rl e=>hp.run C ax aB fp (X.pn++pins) ps s _ H F Γ d J fo rl e) c hN fq I2 (fo.same S2) (rl.same S2) T t0 fk jc et hl ?_
 intro Dd C xs H' m s' hC fm hn gI jg hD S' ia I' oE
 refine⟨m,oE,λjS kd=>?_⟩
 have ip:∀{b:Addr} {o:Obj},ax.heap.get? b=some o->b≠C:=λe=>dM (dc (bX e) hC)
 have qz:Inv X pins σ (upd H' Dd (.lst xs)) { s' with heap:=jS }:=I'.turned (t':=s'.toks) (it:=C) (λb o hb e=>kd.extBut b o hb e) (by rw[bM (eA fm)];exact jg) (nV (dc I2.lt hC)) (.inr (fG I2.sz hC))
  (λx k e=>by obtain⟨v,o,ho,_⟩:=I2.cell x k e;exact ip ho) (λp cJ=>ip (I2.pin p cJ).1)
 have S3:=g7 gI (.lst xs)
 refine⟨total,Dd,xs,_,(R.step e1 _).trans (e2.trans et),qz,rfl,(S2.trans S').trans S3,S2.free hn,dj,ia.same λb o hb=>?_⟩
 obtain⟨z1,z2⟩:=ja hb
 have gF:b≠Dd:=ib z2 gI
 rw[di λz=>(List.mem_cons.mp z).elim gF z1,bM gF]
 exact z2
end
def GR(X:Cx)(pins:List (Addr×Obj))(H:Hp)(F:List Addr)(Γ:G)(s':ah):Prop:=∃aJ H' F',Inv X pins aJ H' s'/\bL H' F'/\Rel X.K H' F' Γ aJ/\Ext H F H' F'
def nG(X:Cx)(pins:List (Addr×Obj))(H:Hp)(F:List Addr)(r:R Fl)(u:Value)(s':ah):Prop:=∃v aJ H' F',Inv X pins aJ H' s'/\RelV v u/\Ext H F H' F' /\
 ((∃d,r = .ok (.rt d)/\Is X.K H' d v)∨∃ds a xs,r = .ok (.fW ds)/\v = .ref a/\(a∈F∨H a=none)/\H' a=some (.lst xs)/\aq X.K H' ds xs)
def nG.map{X:Cx}{pins rd:List (Addr×Obj)}{H H1:Hp}{F F1:List Addr}{r r':R Fl}{u:Value}{s':ah}(h:nG X pins H1 F1 r u s')(E:Ext H F H1 F1)(hI:∀aJ H',Inv X pins aJ H' s'->Inv X rd aJ H' s')
 (h1:∀d,r = .ok (.rt d)->r' = .ok (.rt d)) (h2:∀ds,r = .ok (.fW ds)->r' = .ok (.fW ds)):nG X rd H F r' u s':=by
 obtain⟨v,aJ,H',F',I,rv,E',q⟩:=h
 refine⟨v,aJ,H',F',hI _ _ I,rv,E.trans E',?_⟩
 rcases q with ⟨d,e,i⟩ | ⟨ds,a,xs,e,ev,hn,ha,i⟩
 ·exact .inl ⟨d,h1 d e,i⟩
 ·refine .inr ⟨ds,a,xs,h2 ds e,ev,?_,ha,i⟩
  rcases hn with z | z
  ·exact E.old a z
  ·by_cases c:a∈F
   ·exact .inl c
   ·refine .inr ?_
    cases q:H a with
    | none=>rfl
    | some o=>rw[E.keep a o c q] at z;cases z
def r9(X:Cx)(pins:List (Addr×Obj))(H:Hp)(F:List Addr)(r:R Fl)(fl:Flow)(s':ah):Prop:=match fl with
 | .next=>∃Γ',r = .ok (.nx Γ')/\GR X pins H F Γ' s'
 | .brk=>∃Γ',r = .ok (.bk Γ')/\GR X pins H F Γ' s'
 | .cont=>∃Γ',r = .ok (.ct Γ')/\GR X pins H F Γ' s'
 | .ret u=>nG X pins H F r u s'
def nH(X:Cx)(pins:List (Addr×Obj))(H:Hp)(F:List Addr)(r:R Fl)(x:Value)(s':ah):Prop:=∃c Γ' aJ H' F',r = .ok (.ex c Γ')/\pA X pins aJ H' c x s'/\bL H' F'/\Rel X.K H' F' Γ' aJ/\Ext H F H' F'
structure PQ (X:Cx) (st:Stmt) (g:G->R Fl):Prop where
 run:∀(pins:List (Addr×Obj)) (s:ah) (σ:St) (H:Hp) (F:List Addr) (Γ:G),Inv X pins σ H s->bL H F->Rel X.K H F Γ σ->g Γ ≠ .no ->
  au (aD X.prog X.w) X.A (exec st X.env) (r9 X pins H F (g Γ)) (nH X pins H F (g Γ)) s
structure jT (X:Cx) (st:List Stmt) (g:G->R Fl):Prop where
 run:∀(pins:List (Addr×Obj)) (s:ah) (σ:St) (H:Hp) (F:List Addr) (Γ:G),Inv X pins σ H s->bL H F->Rel X.K H F Γ σ->g Γ ≠ .no ->
  au (aD X.prog X.w) X.A (sv st X.env) (r9 X pins H F (g Γ)) (nH X pins H F (g Γ)) s
def r9.later{X:Cx}{pins:List (Addr×Obj)}{H H1:Hp}{F F1:List Addr}{r:R Fl}{fl:Flow}{s':ah}(E:Ext H F H1 F1)(h:r9 X pins H1 F1 r fl s'):r9 X pins H F r fl s':=by
 cases fl with
 | next=>obtain⟨Γ',e,aJ,H',F',h1,h2,h3,h4⟩:=h;exact⟨Γ',e,aJ,H',F',h1,h2,h3,E.trans h4⟩
 | brk=>obtain⟨Γ',e,aJ,H',F',h1,h2,h3,h4⟩:=h;exact⟨Γ',e,aJ,H',F',h1,h2,h3,E.trans h4⟩
 | cont=>obtain⟨Γ',e,aJ,H',F',h1,h2,h3,h4⟩:=h;exact⟨Γ',e,aJ,H',F',h1,h2,h3,E.trans h4⟩
 | ret u=>exact nG.map h E (λ_ _ I=>I) (λ_ e=>e) λ_ e=>e
def nH.later{X:Cx}{pins:List (Addr×Obj)}{H H1:Hp}{F F1:List Addr}{r:R Fl}{x:Value}{s':ah}(E:Ext H F H1 F1)(h:nH X pins H1 F1 r x s'):nH X pins H F r x s':=by
 obtain⟨c,Γ',aJ,H',F',e,h1,h2,h3,h4⟩:=h
 exact⟨c,Γ',aJ,H',F',e,h1,h2,h3,E.trans h4⟩
def cw.lift{α:Type}{X:Cx}{pins:List (Addr×Obj)}{σ:St}{H:Hp}{F:List Addr}{Γ:G}{r:R α}{x:Value}{s':ah}(fo:bL H F)(rl:Rel X.K H F Γ σ)(h:cw X pins σ H r x s')(k:α->R Fl):nH X pins H F (lift r Γ k) x s':=by
 obtain⟨c,H',e,S,fl⟩:=h
 exact⟨c,Γ,σ,H',F,by rw[e];rfl,fl,fo.same S,rl.same S,.of_same S⟩
def Rel.yS{K:aE}{H:Hp}{F:List Addr}{Γ:G}{σ:St}{i:Nat}{d:D}{v:V}(r:Rel K H F Γ σ)(iv:Is K (aH F H) d v):Rel K H F (Γ.set i (.ro d)) (σ.set i (some v)) where
 len:=by rw[gp,gp,r.len]
 ro:=λj d' h=>by
  by_cases e:i=j
  ·subst e
   by_cases hi:i<Γ.length
   ·rw[iq hi] at h;cases h
    exact⟨v,iq (by rw[<-r.len];exact hi),iv⟩
   ·rw[jY (by rw[gp];lia)] at h;cases h
  ·rw[eZ e] at h
   rw[eZ e]
   exact r.ro j d' h
 own:=λj ds h=>by
  by_cases e:i=j
  ·subst e
   by_cases hi:i<Γ.length
   ·rw[iq hi] at h;cases h
   ·rw[jY (by rw[gp];lia)] at h;cases h
  ·rw[eZ e] at h
   rw[eZ e]
   exact r.own j ds h
 inj:=λj k ds es a h1 h2 h3 h4=>by
  by_cases ej:i=j
  ·subst ej
   by_cases hi:i<Γ.length
   ·rw[iq hi] at h1;cases h1
   ·rw[jY (by rw[gp];lia)] at h1;cases h1
  ·by_cases ek:i=k
   ·subst ek
    by_cases hi:i<Γ.length
    ·rw[iq hi] at h2;cases h2
    ·rw[jY (by rw[gp];lia)] at h2;cases h2
   ·rw[eZ ej] at h1 h3
    rw[eZ ek] at h2 h4
    exact r.inj j k ds es a h1 h2 h3 h4
def Rel.set_own{K:aE}{H H':Hp}{F:List Addr}{Γ:G}{σ:St}{i:Nat}{ds:List D}{xs:List V}{a:Addr}(r:Rel K H F Γ σ)(fo:bL H F)(S:aO H H')(hn:H a=none)(ha:H' a=some (.lst xs))(iv:aq K (aH (a::F) H') ds xs):Rel K H' (a::F) (Γ.set i (.own ds)) (σ.set i (some (.ref a))) where
 len:=by rw[gp,gp,r.len]
 ro:=λj d' h=>by
  by_cases e:i=j
  ·subst e
   by_cases hi:i<Γ.length
   ·rw[iq hi] at h;cases h
   ·rw[jY (by rw[gp];lia)] at h;cases h
  ·rw[eZ e] at h
   rw[eZ e]
   obtain⟨v,h1,h2⟩:=r.ro j d' h
   exact⟨v,h1,h2.same (Gf S hn)⟩
 own:=λj ds' h=>by
  by_cases e:i=j
  ·subst e
   by_cases hi:i<Γ.length
   ·rw[iq hi] at h;cases h
    exact⟨a,xs,iq (by rw[<-r.len];exact hi),gj,ha,iv⟩
   ·rw[jY (by rw[gp];lia)] at h;cases h
  ·rw[eZ e] at h
   rw[eZ e]
   obtain⟨b,ys,h1,h2,h3,h4⟩:=r.own j ds' h
   exact⟨b,ys,h1,ft _ h2,S _ _ h3,h4.same (Gf S hn)⟩
 inj:=λj k ds' es b h1 h2 h3 h4=>by
  have nF:∀(l:Nat) (cT:List D),i≠l->Γ[l]? = some (.own cT)->σ[l]? ≠ some (some (.ref a)):=λl cT _ h z=>by
   obtain⟨b',ys,q1,q2,q3,_⟩:=r.own l cT h
   rw[z] at q1;cases q1
   rw[hn] at q3;cases q3
  by_cases ej:i=j
  ·by_cases ek:i=k
   ·rw[<-ej,<-ek]
   ·exfalso
    subst ej
    have hi:i<σ.length:=by
     by_cases hi:i<σ.length
     ·exact hi
     ·rw[jY (by rw[gp];lia)] at h3;cases h3
    rw[iq hi] at h3;cases h3
    rw[eZ ek] at h2 h4
    exact nF k es ek h2 h4
  ·by_cases ek:i=k
   ·exfalso
    subst ek
    have hi:i<σ.length:=by
     by_cases hi:i<σ.length
     ·exact hi
     ·rw[jY (by rw[gp];lia)] at h4;cases h4
    rw[iq hi] at h4;cases h4
    rw[eZ ej] at h1 h3
    exact nF j ds' ej h1 h3
   ·rw[eZ ej] at h1 h3
    rw[eZ ek] at h2 h4
    exact r.inj j k ds' es b h1 h2 h3 h4
def Rel.put{K:aE}{H:Hp}{F:List Addr}{Γ:G}{σ:St}{i:Nat}{ds ds':List D}{xs':List V}{a:Addr}(r:Rel K H F Γ σ)(e:Γ[i]? = some (.own ds))(ea:σ[i]? = some (some (.ref a)))(iv:aq K (aH F H) ds' xs'):Rel K (upd H a (.lst xs')) F (Γ.set i (.own ds')) σ/\a∈F:=by
 obtain⟨a',xs,h1,hF,h3,h4⟩:=r.own i ds e
 rw[ea] at h1;cases h1
 have hh:aH F (upd H a (.lst xs'))=aH F H:=by
  funext b
  by_cases hb:b∈F
  ·rw[rX hb,rX hb]
  ·rw[di hb,di hb,bM (λz=>hb (by rw[z];exact hF))]
 have hi:i<Γ.length:=(List.getElem?_eq_some_iff.mp e).1
 refine⟨⟨by rw[gp,r.len],λj d' h=>?_,λj es h=>?_,λj k eO vV b h1 h2 GS GU=>?_⟩,hF⟩
 ·by_cases ej:i=j
  ·subst ej;rw[iq hi] at h;cases h
  ·rw[eZ ej] at h
   rw[hh];exact r.ro j d' h
 ·by_cases ej:i=j
  ·subst ej;rw[iq hi] at h;cases h
   exact⟨a,xs',ea,hF,dj,by rw[hh];exact iv⟩
  ·rw[eZ ej] at h
   obtain⟨b,ys,q1,q2,q3,q4⟩:=r.own j es h
   refine⟨b,ys,q1,q2,?_,by rw[hh];exact q4⟩
   rw[bM (λz=>ej (r.inj i j ds es a e h ea (by rw[<-z];exact q1)))];exact q3
 ·have old:∀(l:Nat) (cT:List D),(Γ.set i (En.own ds'))[l]? = some (En.own cT)->∃GV,Γ[l]? = some (En.own GV):=λl cT h=>by
   by_cases el:i=l
   ·subst el;exact⟨ds,e⟩
   ·rw[eZ el] at h;exact⟨cT,h⟩
  obtain⟨e1,q1⟩:=old j eO h1
  obtain⟨e2,q2⟩:=old k vV h2
  exact r.inj j k e1 e2 b q1 q2 GS GU
section
variable {X:Cx}{st:Stmt}{rest:List Stmt}{t u:G->R Fl}{e a b c:Expr}{g ga gb:G->R D}{pos p pos':Pos}
def da:jT X [] cF:=⟨λpins s σ H F Γ I fo rl _=>pX ⟨Γ,rfl,σ,H,F,I,fo,rl,.refl⟩⟩
def aK(h1:PQ X st t)(h2:jT X rest u):jT X (st::rest) (aC t u):=by
 refine⟨λpins s σ H F Γ I fo rl hg=>?_⟩
 refine uI (az (h1.run pins s σ H F Γ I fo rl (R.left hg)) (λfl s1 q=>?_) λx s1 q=>?_)
 ·cases fl with
  | next =>
    obtain⟨Γ',e,aJ,H',F',I',BZ,mw,E⟩:=q
    have e2:aC t u Γ=u Γ':=R.step e _
    rw[e2] at hg ⊢
    exact az (h2.run pins s1 aJ H' F' Γ' I' BZ mw hg) (λ_ _ q=>q.later E) λ_ _ q=>q.later E
  | ret v=>exact nG.map q .refl (λ_ _ I=>I) (λ_ e=>R.step e _) λ_ e=>R.step e _
  | brk=>obtain⟨Γ',e,r⟩:=q;exact⟨Γ',R.step e _,r⟩
  | cont=>obtain⟨Γ',e,r⟩:=q;exact⟨Γ',R.step e _,r⟩
 ·obtain⟨c,Γ',aJ,H',F',e,r⟩:=q
  exact⟨c,Γ',aJ,H',F',R.step e _,r⟩
def aL(h1:PQ X st t):jT X [st] t:=by
 refine⟨λpins s σ H F Γ I fo rl hg=>?_⟩
 refine uI (ic (h1.run pins s σ H F Γ I fo rl hg) λfl s1 q=>?_)
 cases fl with
 | next=>exact pX q
 | ret v=>exact q
 | brk=>exact q
 | cont=>exact q
def bF(he:PD X e g):PQ X (.Return (some e) pos) (aY g):=⟨λpins s σ H F Γ I fo rl hg =>
 zY (az (he.run pins s σ H F Γ I fo rl (jM hg)) (λu s1 ⟨d,v,H',e1,I',rv,S,i⟩=>⟨v,σ,H',F,I',rv,.of_same S,.inl ⟨d,jv e1,i⟩⟩) λ_ _ x=>x.lift fo rl _)⟩
def yT{g:G->R (List D)}(he:PF X e g):PQ X (.Return (some e) pos) (qg g):=⟨λpins s σ H F Γ I fo rl hg =>
 zY (az (he.run pins s σ H F Γ I fo rl (jM hg)) (λu s1 ⟨ds,a,xs,H',e1,I',eu,S,hn,ha,i⟩=>⟨.ref a,σ,H',F,I',eu,.of_same S,.inr ⟨ds,a,xs,jv e1,rfl,.inr hn,ha,i.same jA⟩⟩) λ_ _ x=>x.lift fo rl _)⟩
def GW(i:Nat){x:Str}{p:Pos}(hN:X.N[i]? = some x:=by rfl)(hv:lI X.env.scope x:=by first | exact gq rfl | exact dX (gq rfl) | exact dX (dX rfl))(hd:(x==("__debug__":Str))=false:=by decide)
 (dY:(x==("__classdict__":Str))=false:=by decide):PQ X (.Return (some (.Name x p)) pos) (rB i):=by
 refine⟨λpins s σ H F Γ I fo rl hg=>?_⟩
 unfold rB at hg ⊢
 cases q:Γ[i]? with
 | none=>rw[q] at hg;exact absurd rfl hg
 | some en =>
   cases en with
   | own ds =>
     obtain⟨a,xs,h1,h2,h3,h4⟩:=rl.own i ds q
     refine zY (az (p6 (X:=X.bY) hN hv hd dY pins s σ H (λv' H'=>v' = .ref a/\H'=H) (I.dB _) ⟨.ref a,h1,rfl,rfl⟩) (λu s1 ⟨v',H',I',r,e1,e2⟩=>?_) λ_ _ z=>cx z)
     subst e1 e2
     exact⟨.ref a,σ,H',F,I'.fw,r,.refl,.inr ⟨ds,a,xs,rfl,rfl,.inl h2,h3,h4.same jA⟩⟩
   | _=>rw[q] at hg;exact absurd rfl hg
def cZ{cs ds:List Stmt}{gc:G->R Bool}(hc:jB X c gc)(ha:jT X cs t)(hb:jT X ds u):PQ X (.If c cs ds pos) (bU gc t u):=by
 refine⟨λpins s σ H F Γ I fo rl hg=>?_⟩
 refine KG (az (hc.run pins s σ H F Γ I fo rl (jM hg)) (λk s1 ⟨H1,e1,I1,S1⟩=>?_) λ_ _ x=>x.lift fo rl _)
 have e2:bU gc t u Γ=if k=true then t Γ else u Γ:=jv e1
 rw[e2] at hg ⊢
 cases k with
 | true=>exact az (ha.run pins s1 σ H1 F Γ I1 (fo.same S1) (rl.same S1) hg) (λ_ _ q=>q.later (.of_same S1)) λ_ _ q=>q.later (.of_same S1)
 | false=>exact az (hb.run pins s1 σ H1 F Γ I1 (fo.same S1) (rl.same S1) hg) (λ_ _ q=>q.later (.of_same S1)) λ_ _ q=>q.later (.of_same S1)
def bV(i:Nat){x:Str}(he:ij X e g)(hN:X.N.Nodup)(hi:X.N[i]? = some x:=by rfl)(hx:Loc X.env.scope x:=by first | exact gq rfl | exact dX rfl)(hs:pY e (some (.Name x pos')) pos.line X.env=pure false:=by rfl)(hf:X.fn x=true∨X.env.scope.names.lookup x=some .local:=by first | exact .inl rfl | exact .inr rfl | assumption) :
 PQ X (.Assign [.Name x pos'] e pos) (a6 i g):=by
 refine⟨λpins s σ H F Γ I fo rl hg=>?_⟩
 refine KH (az (he.run pins s σ H F Γ I fo rl (jM hg)) (λv s1 ⟨d,y,H1,e1,I1,r1,S1,i1⟩=>?_) λ_ _ x=>x.lift fo rl _) hs
 exact uO I1 hN hi hx r1 (λs2 I2=>⟨_,jv e1,_,H1,F,I2,fo.same S1,(rl.same S1).yS i1,.of_same S1⟩) hf
def iF(i:Nat){x:Str}{g:G->R (List D)}(he:PF X e g)(hN:X.N.Nodup)(hi:X.N[i]? = some x:=by rfl)(hx:Loc X.env.scope x:=by first | exact gq rfl | exact dX rfl)(hs:pY e (some (.Name x pos')) pos.line X.env=pure false:=by rfl)(hf:X.fn x=true∨X.env.scope.names.lookup x=some .local:=by first | exact .inl rfl | exact .inr rfl | assumption) :
 PQ X (.Assign [.Name x pos'] e pos) (e_ i g):=by
 refine⟨λpins s σ H F Γ I fo rl hg=>?_⟩
 refine KH (az (he.run pins s σ H F Γ I fo rl (jM hg)) (λv s1 ⟨ds,a,xs,H1,e1,I1,eu,S1,hn,ha,i1⟩=>?_) λ_ _ x=>x.lift fo rl _) hs
 subst eu
 exact uO (v:=.ref a) I1 hN hi hx rfl (λs2 I2=>⟨_,jv e1,_,H1,a::F,I2,(fo.same S1).cons ha,rl.set_own fo S1 hn ha i1,⟨λb o _ h=>S1 _ _ h,λb hb=>(List.mem_cons.mp hb).elim (λz=>.inr (z ▸ hn)) .inl⟩⟩) hf
def x3q(i:Nat){x y:Str}{elt iter:Expr}{px:Pos}{ifs:List Expr}{scope:dz}{f:D->G->R (Option D)}{gi:G->R (List D)}(yP:tV X (.Name y px) iter gi)(hp:yH X y scope ifs elt f)(hN:X.N.Nodup)(fq:X.calm=true)(hi:X.N[i]? = some x:=by rfl)(hx:Loc X.env.scope x:=by first | exact gq rfl | exact dX rfl)
 (oF:pY (.ListComp elt [⟨.Name y px,iter,ifs,0⟩] scope p) (some (.Name x pos')) pos.line X.env=pure true:=by rfl) (hf:X.fn x=true∨X.env.scope.names.lookup x=some .local:=by first | exact .inl rfl | exact .inr rfl | assumption)
 (oB:tZ X.N X.env y scope=true:=by rfl) (mq:xc scope X.env=pure (cK X.env scope.names []):=by rfl) (hs:∀x,uH iter X.env x=pure x:=by intro _;rfl) :
 PQ X (.Assign [.Name x pos'] (.ListComp elt [⟨.Name y px,iter,ifs,0⟩] scope p) pos) (e_ i (c8 gi f)):=by
 refine⟨λpins s σ H F Γ I fo rl hg=>?_⟩
 have c:=yF oB
 rw[a6b _ _ _ _ oF]
 refine aI (zZ (aI ?_))
 show au _ X.A (do let _ <-KI (.ListComp elt [⟨.Name y px,iter,ifs,0⟩] scope p) scope X.env _ (uG []) false (eval iter X.env) (some (kI (.Name x pos') X.env))) _ _ s
 have GX:=jM hg
 refine aI (az (C3 (use:=some (kI (.Name x pos') X.env)) (Q:=λ_ s'=>r9 X pins H F (e_ i (c8 gi f) Γ) .next s') rfl hs mq c.kind c.names
  (az (yP.run pins s σ H F Γ I fo rl (R.left GX)) (λxv cD dQ=>az dQ (λlN ax mr=>?_) λ_ _ x=>(x.bind _).lift fo rl _) λ_ _ x=>(x.bind _).lift fo rl _)) (λ_ s' hq=>bR (bR hq)) λ_ _ e=>e)
 obtain⟨items,it,fp,tn,J,aB,e1,rfl,I2,S2,T,t0,fk,jc⟩:=mr
 have fL:=R.next GX e1
 obtain⟨hl,e2⟩:=R.cU fL
 have bS:dF (λd=>f d Γ) items [] ≠ .no:=by
  have:=R.next GX e1
  rw[e2] at this;exact this
 obtain⟨total,et⟩:=xQ bS
 have eT:c8 gi f Γ = .ok total:=(R.step e1 _).trans (e2.trans et)
 refine GQ (RR:=λacc C=>C4 (aD X.prog X.w) X.A _ (some (kI (.Name x pos') X.env)) _ acc C) (λC ps s x H d J _ fo rl e=>hp.run C ax aB fp (X.pn++pins) ps s _ H F Γ d J fo rl e) c hN fq I2 (fo.same S2) (rl.same S2) T t0 fk jc et hl ?_
 intro Dd C xs H' m s' hC fm hn gI jg hD S' ia I' oE
 have ip:∀{b:Addr} {o:Obj},ax.heap.get? b=some o->b≠C:=λe=>dM (dc (bX e) hC)
 have S3:=g7 gI (.lst xs)
 have sT:aO H (upd H' Dd (.lst xs)):=(S2.trans S').trans S3
 have hH:H Dd=none:=S2.free hn
 have yU:aq X.K (aH (Dd::F) (upd H' Dd (.lst xs))) total xs:=ia.same λb o hb=>by
  obtain⟨z1,z2⟩:=ja hb
  have gF:b≠Dd:=ib z2 gI
  rw[di λz=>(List.mem_cons.mp z).elim gF z1,bM gF]
  exact z2
 show au _ X.A (kI (.Name x pos') X.env (.ref Dd)) _ _ s'
 refine R_ (Di (v:=.ref Dd) I' hN hi hx rfl (λs3 I3 ub=>?_) hf)
 obtain⟨aa,ub,GY⟩:=ub
 have GZ:aa≠C:=by
  rcases GY with z | z
  ·subst z;exact dM (dc I2.lt hC)
  ·obtain⟨v,o,ho,_⟩:=I2.cell x aa z;exact ip ho
 refine⟨m,oE.sameBut ub (eA GZ),λjS kd=>?_⟩
 have I4:Inv X pins (σ.set i (some (.ref Dd))) (upd H' Dd (.lst xs)) { s3 with heap:=jS }:=I3.turned (t':=s3.toks) (it:=C) (λb o hb e=>kd.extBut b o hb e) (by rw[bM (eA fm)];exact jg) (nV (dc I2.lt hC)) (.inr (fG I2.sz hC))
  (λx k e=>by obtain⟨v,o,ho,_⟩:=I2.cell x k e;exact ip ho) (λp cJ=>ip (I2.pin p cJ).1)
 exact⟨_,jv eT,_,_,Dd::F,I4,(fo.same sT).cons dj,rl.set_own fo sT hH dj yU,⟨λb o _ h=>sT _ _ h,λb hb=>(List.mem_cons.mp hb).elim (λz=>.inr (z ▸ hH)) .inl⟩⟩
def yV(i:Nat){x:Str}{apos cL:Pos}(he:ij X e g)(hN:X.N[i]? = some x:=by rfl)(hv:lI X.env.scope x:=by first | exact gq rfl | exact dX (gq rfl) | exact dX (dX rfl))(hd:(x==("__debug__":Str))=false:=by decide)(dY:(x==("__classdict__":Str))=false:=by decide)
 (oF:pY (.Call (.Attribute (.Name x p) "append" apos) [e] [] cL) none pos.line X.env=pure false:=by rfl)
 (ky:uJ (.Name x p) "append" X.env (eval (.Name x p) X.env)=eval (.Name x p) X.env:=by rfl)
 (mx:((cH cL (aT [e] X.env)).all (λx=>!x.1)&&(uw cL (ux [] X.env)).all (λx=>x.1.isSome)
   && decide ([e].length+([]:List kK).length+(if ([]:List kK).isEmpty then 0 else 1)<30))=true:=by rfl)
 (kz:(apos.endLine==cL.line)=true:=by rfl) (hs:aT [e] X.env=(false,eval e X.env)::aT [] X.env:=by rfl) :
 PQ X (.Expr (.Call (.Attribute (.Name x p) "append" apos) [e] [] cL) pos) (l0 i g):=by
 refine⟨λpins s σ H F Γ I fo rl hg=>?_⟩
 refine C5 ?_ I.quiet oF
 have yW:∃ds,Γ[i]? = some (.own ds):=by
  unfold l0 at hg
  split at hg
  ·rename_i ds e1;exact⟨ds,e1⟩
  ·exact absurd rfl hg
 obtain⟨ds,eo⟩:=yW
 have yX:l0 i g Γ=lift (g Γ) Γ λd=>R.guard (ds.length<=100000) (.ok (.nx (Γ.set i (.own (ds++[d]))))):=by unfold l0;rw[eo]
 rw[yX] at hg ⊢
 obtain⟨a',xs,h1,hF,h3,h4⟩:=rl.own i ds eo
 refine xf ky mx kz rfl (az (p6 (X:=X.bY) hN hv hd dY pins s σ H (λv' H'=>v' = .ref a'/\H'=H) (I.dB _) ⟨.ref a',h1,rfl,rfl⟩) (λv s1 ⟨v',H',I1,r1,e1,e2⟩=>?_) λ_ _ z=>cx z)
 subst e1 e2
 have r_:=I1.fw
 obtain⟨t1,t2⟩:=As (T:="list") r_ r1 (.inl ⟨rfl,xs,cA.of h3⟩)
 refine⟨"list",_,KJ,a6c,a6d,t1,t2,?_⟩
 rw[hs]
 refine uK rfl (xg ?_)
 show au _ _ (e9 ((false,eval e X.env)::cH cL [])) _ _ s1
 refine fT (az (he.run pins s1 σ H' F Γ r_ fo rl (jM hg)) (λu s2 ⟨d,y,H2,e3,I2,r2,S2,i2⟩=>iJ ?_) λ_ _ x=>x.lift fo rl _)
 have fL:=xS hg e3
 obtain⟨hl,e4⟩:=R.cU fL
 have B0:=S2 _ _ h3
 have nj:(100001:Nat)<=b5:=by rw[lD];decide
 have ot:=h4.length
 refine az (LG (X:=X.bY) pins s2 σ H2 (.ref a') [y] v [u] (λz my=>z = .cQ/\my=upd H2 a' (.lst (xs++[y]))) (I2.dB _) r1 (.cons r2 .nil) ⟨a',xs,y,rfl,rfl,B0,by lia,rfl,rfl⟩) (λw' s3 ⟨z,my,I3,rz,ez,eH⟩=>?_) λ_ _ z=>cx z
 subst ez eH
 obtain⟨mw,yY⟩:=(rl.same S2).put eo h1 (xs':=xs++[y]) (ds':=ds++[d]) ((h4.same (iT S2)).append (aq.cons i2 aq.nil))
 refine⟨_,(jv e3).trans e4,σ,_,F,I3.fw,λb hb=>?_,mw,⟨λb o hb h=>?_,λb hb=>.inl hb⟩⟩
 ·by_cases oG:b=a'
  ·exact⟨xs++[y],by rw[oG];exact dj⟩
  ·obtain⟨ys,q⟩:=fo b hb
   exact⟨ys,by rw[bM oG];exact S2 _ _ q⟩
 ·rw[bM (λz=>hb (by rw[z];exact hF))];exact S2 _ _ h
def G0(i:Nat){x:Str}{k:Expr}{gk:G->R D}{sd:Pos}(hk:PD X k gk)(he:ij X e g)(hN:X.N[i]? = some x:=by rfl)(hv:lI X.env.scope x:=by first | exact gq rfl | exact dX (gq rfl) | exact dX (dX rfl))(hd:(x==("__debug__":Str))=false:=by decide)(dY:(x==("__classdict__":Str))=false:=by decide)
 (ha:∀v,kI (.Subscript (.Name x p) k sd) X.env v=(do
   let ov <-zR [v] (eval (.Name x p) X.env)
   let iv <-zR [v,ov] (eval k X.env)
   Tb sd
   zR [v,ov,iv] (setItem ov iv v)
   release [v,ov,iv] []):=by intro _;rfl)
 (hs:Tj [.Subscript (.Name x p) k sd] e pos.line X.env=pure false:=by rfl) (hw:Tn [.Subscript (.Name x p) k sd] e X.env=pure none:=by rfl)
 (iW:(nU [.Subscript (.Name x p) k sd] X.env).map (·.2)=[kI (.Subscript (.Name x p) k sd) X.env]:=by rfl) :
 PQ X (.Assign [.Subscript (.Name x p) k sd] e pos) (o_ i gk g):=by
 refine⟨λpins s σ H F Γ I fo rl hg=>?_⟩
 have yW:∃ds,Γ[i]? = some (.own ds):=by
  unfold o_ at hg
  split at hg
  ·rename_i ds e1;exact⟨ds,e1⟩
  ·exact absurd rfl hg
 obtain⟨ds,eo⟩:=yW
 have yX:o_ i gk g Γ=lift (g Γ) Γ λd=>lift (gk Γ) Γ λk=>(match k with
  | .int j=>(match jr ds.length j with | some j'=>.ok (.nx (Γ.set i (.own (ds.set j' d)))) | none=>.no)
  | _=>.no):=by(unfold o_;rw[eo])<;>rfl
 rw[yX] at hg ⊢
 obtain⟨a',xs,h1,hF,h3,h4⟩:=rl.own i ds eo
 refine a6e (az (he.run pins s σ H F Γ I fo rl (jM hg)) (λu s1 ⟨d,y,H1,e1,I1,r1,S1,i1⟩=>?_) λ_ _ x=>x.lift fo rl _) hs hw
 have aM:=xS hg e1
 rw[iW]
 rw[jv e1] at hg ⊢
 show au _ _ (kI (.Subscript (.Name x p) k sd) X.env u) _ _ s1
 rw[ha]
 refine aI (jE (az (p6 (X:=X.bY) hN hv hd dY pins s1 σ H1 (λv' H'=>v' = .ref a'/\H'=H1) (I1.dB _) ⟨.ref a',h1,rfl,rfl⟩) (λv s2 ⟨v',H',I2,r2,e2,e3⟩=>?_) λ_ _ z=>cx z))
 subst e2 e3
 refine aI (jE (az (hk.run pins s2 σ H' F Γ I2.fw (fo.same S1) (rl.same S1) (jM hg)) (λw' s3 ⟨dk,vk,H3,e4,I3,r3,S3,i3⟩=>?_) λ_ _ x=>(x.lift (fo.same S1) (rl.same S1) _).later (.of_same S1)))
 have dC:=xS hg e4
 rw[jv e4] at hg ⊢
 cases dk with
 | int j =>
   cases q:jr ds.length j with
   | none=>simp only[q] at dC;exact absurd rfl dC
   | some j' =>
     have hx3:=S3 _ _ (S1 _ _ h3)
     refine aI (zZ (aI (jE (az (Va (X:=X.bY) pins s3 σ H3 (.ref a') vk y v w' u (λmy=>my=upd H3 a' (.lst (xs.set j' y))) (I3.dB _) r2 r3 r1 ⟨a',xs,j,j',rfl,Is.bZ.mp i3,hx3,by rw[<-h4.length];exact q,rfl⟩) (λ_ s4 ⟨my,I4,eH⟩=>?_) λ_ _ z=>cx z))))
     subst eH
     refine wpAny_release ?_
     have B1:=S1.trans S3
     obtain⟨mw,yY⟩:=(rl.same B1).put eo h1 (xs':=xs.set j' y) (ds':=ds.set j' d) (aq.set (i1.same (iT S3)) j' (h4.same (iT B1)))
     refine⟨_,by simp only[q],σ,_,F,I4.fw,λb hb=>?_,mw,⟨λb o hb h=>?_,λb hb=>.inl hb⟩⟩
     ·by_cases oG:b=a'
      ·exact⟨_,by rw[oG];exact dj⟩
      ·obtain⟨ys,q'⟩:=fo b hb
       exact⟨ys,by rw[bM oG];exact B1 _ _ q'⟩
     ·rw[bM (λz=>hb (by rw[z];exact hF))];exact B1 _ _ h
 | _=>exact absurd rfl dC
def yZ(X:Cx):Prop:=∀pins H F r,PassesOwn (aD X.prog X.w) X.A X.env (nH X pins H F r)
def oH(i:Nat){x:Str}{px:Pos}{iter:Expr}{body:List Stmt}{gi:G->R (List D)}{gb:G->R Fl}(hp:yZ X)(fq:X.calm=true)(hi:vU X (.Name x px) iter gi)(hb:jT X body gb)(hN:X.N.Nodup)(G1:X.N[i]? = some x:=by rfl)(hx:Loc X.env.scope x:=by first | exact gq rfl | exact dX rfl)
 (hf:X.fn x=true∨X.env.scope.names.lookup x=some .local:=by first | exact .inl rfl | exact .inr rfl | assumption)
 (hs:∀x,uH iter X.env x=pure x:=by intro _;rfl):PQ X (.For (.Name x px) iter body [] pos) (iO i gi gb):=by
 refine⟨λpins s σ H F Γ I fo rl hg=>?_⟩
 refine wpAny_For (az (hi.run pins s σ H F Γ I fo rl (jM hg)) (λv s1 h1=>az h1 (λlN s2 h2=>?_) λ_ _ x=>x.lift fo rl _) λ_ _ x=>x.lift fo rl _) hs
 obtain⟨ds,it,fp,tn,J,H2,e1,rfl,I2,S2,T,t0,fk,jd⟩:=h2
 have eg:iO i gi gb Γ=fI gb i ds Γ:=jv e1
 rw[eg] at hg ⊢
 have cJ:=hp pins H F (fI gb i ds Γ)
 have G2:∀{H':Hp},(∀b∈fp,H' b=none)->∀b∈fp,fU X pins H' b:=λhn b hb=>⟨hn b hb,(fk b hb).2⟩
 refine codeAny_forLoop_any (λn s'=>∃(j:Nat) (aJ:St) (H':Hp) (F':List Addr) (Γ':G),n=ds.length-j/\j<=ds.length/\Inv X pins aJ H' s'/\tn j s'.heap/\(∀b∈fp,H' b=none)/\bL H' F'/\Rel X.K H' F' Γ' aJ/\Ext H2 F H' F'/\fI gb i (ds.drop j) Γ'=fI gb i ds Γ) ?_ ds.length
  ⟨0,σ,H2,F,Γ,by lia,pV _,I2,t0,λb hb=>(fk b hb).1,fo.same S2,rl.same S2,.refl,by rw[zM]⟩
 rintro n s3 ⟨j,y0,H3,F3,G3,en,hj,I3,t3,Pc,y1,B3,E3,G4⟩
 have B4:Ext H F H3 F3:=(Ext.of_same S2).trans E3
 obtain⟨G5,G6⟩:=jd H3 λb o hb h=>E3.keep b o hb h
 by_cases cW:j<ds.length
 ·obtain⟨go,yl⟩:=G5 j cW
  refine sI cJ (ic (T.item X rfl rfl rfl fq j pins s3 y0 H3 _ I3 (G2 Pc) t3 go) λr s4 ⟨u,hr,h4⟩=>?_)
  subst hr
  refine sI cJ (ic h4 λ_ s5 ⟨y,H5,I5,r5,y5,nE,yL⟩=>?_)
  obtain⟨e5,d,ed,iv⟩:=yl y H5 y5
  subst e5
  have iv':=iv F3 λb hb=>E3.old b hb
  have yQ:ds.drop j=d::ds.drop (j+1):=by
   rw[KC cW]
   have:ds[j]=d:=by
    have:=fu cW
    rw[ed] at this;exact(mD this).symm
   rw[this]
  have I5':=I5.pinned (G2 yL) (T.obj _ _ nE)
  have yM:PG X.bY (.Name x px) (xw i):=uP (X:=X.bY) hN G1 hx hf
  refine sI cJ (az (yM _ s5 y0 H5 y u (λaJ H'=>aJ=y0.set i (some y)/\H'=H5) (I5'.dB _) r5 ⟨rfl,rfl⟩) (λ_ s6 ⟨BY,H6,I6,e6,yN⟩=>?_) λ_ _ z=>cx z)
  subst e6 yN
  have uc:fI gb i (d::ds.drop (j+1)) G3=fI gb i ds Γ:=by rw[<-yQ];exact G4
  have g9:gb (G3.set i (.ro d)) ≠ .no:=λz=>by
   rw[<-uc] at hg
   unfold fI at hg
   rw[z] at hg
   exact hg rfl
  have back:∀{s7:ah} {dS:St} {H7:Hp},Inv X (pins++uS fp s5.heap) dS H7 s7->Inv X pins dS H7 s7/\tn (j+1) s7.heap/\∀b∈fp,H7 b=none:=λ{s7 dS H7} I7=>by
   refine⟨I7.rh,T.keep _ _ _ nE λb hb o e=>(I7.pin (b,o) (dW _ (dW _ (sP hb e)))).1,λb hb=>?_⟩
   obtain⟨o,e,dd⟩:=T.obj _ _ nE b hb
   exact(I7.pin (b,o) (dW _ (dW _ (sP hb e)))).2.1
  refine sI cJ (az (hb.run _ s6 _ H6 F3 _ I6.fw y1 (B3.yS iv') g9) (λf s7 q7=>?_) λx7 s7 q7=>?_)
  ·cases f with
   | next =>
     obtain⟨g_,e7,dS,H7,F7,I7,hG,hJ,E7⟩:=q7
     obtain⟨b1,b2,b3⟩:=back I7
     refine⟨ds.length-(j+1),by lia,j+1,dS,H7,F7,g_,rfl,cW,b1,b2,b3,hG,hJ,E3.trans E7,?_⟩
     rw[<-uc]
     conv=>rhs;unfold fI
     rw[e7]
   | cont =>
     obtain⟨g_,e7,dS,H7,F7,I7,hG,hJ,E7⟩:=q7
     obtain⟨b1,b2,b3⟩:=back I7
     refine⟨ds.length-(j+1),by lia,j+1,dS,H7,F7,g_,rfl,cW,b1,b2,b3,hG,hJ,E3.trans E7,?_⟩
     rw[<-uc]
     conv=>rhs;unfold fI
     rw[e7]
   | brk =>
     obtain⟨g_,e7,dS,H7,F7,I7,hG,hJ,E7⟩:=q7
     refine⟨g_,?_,dS,H7,F7,I7.rh,hG,hJ,B4.trans E7⟩
     rw[<-uc]
     conv=>lhs;unfold fI
     rw[e7]
   | ret v7 =>
     refine nG.map q7 B4 (λ_ _ I7=>I7.rh) (λd7 e7=>?_) λd7 e7=>?_
     ·rw[<-uc]
      conv=>lhs;unfold fI
      rw[e7]
     ·rw[<-uc]
      conv=>lhs;unfold fI
      rw[e7]
  ·obtain⟨c7,g_,dS,H7,F7,e7,y4,hG,hJ,E7⟩:=q7
   refine⟨c7,g_,dS,H7,F7,?_,?_,hG,hJ,B4.trans E7⟩
   ·rw[<-uc]
    conv=>lhs;unfold fI
    rw[e7]
   ·obtain⟨I7,e',C',oe,vs,q1,q2,q3,q4,q5,q6,q7',q8⟩:=y4
    refine⟨I7.rh,e',C',oe,vs,q1,q2,q3,q4,q5,q6,λp rK=>q7' p ?_,?_⟩
    ·rcases List.mem_append.mp rK with z | z
     ·exact kH _ z
     ·exact dW _ (kH _ z)
    ·obtain⟨w1,w2,w3,w4,w5⟩:=q8
     refine⟨w1,w2,w3,w4,?_⟩
     rcases w5 with w5 | ⟨T',oT,ts,z1,z2,z3,z4,z5,z6,z7⟩
     ·exact .inl w5
     ·refine .inr ⟨T',oT,ts,z1,z2,z3,z4,z5,λp rK=>z6 p ?_,z7⟩
      rcases List.mem_append.mp rK with z | z
      ·exact kH _ z
      ·exact dW _ (kH _ z)
 ·have ej:j=ds.length:=by lia
  subst ej
  refine sI cJ (ic (T.done X rfl rfl rfl fq _ pins s3 y0 H3 _ I3 (G2 Pc) t3 G6) λr s4 ⟨hr,I4⟩=>?_)
  subst hr
  rw[Kg] at G4
  exact pX ⟨G3,G4.symm,y0,H3,F3,I4,y1,B3,B4⟩
def G7(n:Nat){y6:Expr}{body:List Stmt}{gc:G->R Bool}{gb:G->R Fl}(hp:yZ X)(hc:jB X y6 gc)(hb:jT X body gb):PQ X (.While y6 body [] pos) (fc gc gb n):=by
 refine⟨λpins s σ H F Γ I fo rl hg=>?_⟩
 have cJ:=hp pins H F (fc gc gb n Γ)
 refine wpAny_While (a6f (λm s'=>∃(aJ:St) (H':Hp) (F':List Addr) (Γ':G),Inv X pins aJ H' s'/\bL H' F'/\Rel X.K H' F' Γ' aJ/\Ext H F H' F'/\fc gc gb m Γ'=fc gc gb n Γ) ?_ n ⟨σ,H,F,Γ,I,fo,rl,.refl,rfl⟩)
 rintro m s1 ⟨lK,H1,F1,d8,I1,fE,fS,E1,dv⟩
 have aM:fc gc gb m d8 ≠ .no:=by rw[dv];exact hg
 cases m with
 | zero=>exact absurd rfl aM
 | succ m =>
   have G8:fc gc gb (m+1) d8=lift (gc d8) d8 λk=>if k=true then (match gb d8 with
    | .ok (.nx Γ')=>fc gc gb m Γ'
    | .ok (.ct Γ')=>fc gc gb m Γ'
    | .ok (.bk Γ')=>.ok (.nx Γ')
    | .ok (.rt d)=>.ok (.rt d)
    | .ok (.fW d)=>.ok (.fW d)
    | .ok (.ex c Γ')=>.ok (.ex c Γ')
    | _=>.no) else .ok (.nx d8):=rfl
   rw[G8] at aM dv
   refine sI cJ (az (hc.run pins s1 lK H1 F1 d8 I1 fE fS (jM aM)) (λk s2 ⟨H2,e2,I2,S2⟩=>?_) λ_ _ x=>by rw[<-dv];exact(x.lift fE fS _).later E1)
   rw[jv e2] at aM dv
   cases k with
   | false =>
     rw[if_neg sC] at dv ⊢
     exact pX ⟨d8,dv.symm,lK,H2,F1,I2,fE.same S2,fS.same S2,E1.trans (.of_same S2)⟩
   | true =>
     rw[if_pos rfl] at dv aM ⊢
     have g9:gb d8 ≠ .no:=λz=>by rw[z] at aM;exact aM rfl
     refine sI cJ (az (hb.run pins s2 lK H2 F1 d8 I2 (fE.same S2) (fS.same S2) g9) (λf s3 q3=>?_) λx3 s3 q3=>?_)
     ·cases f with
      | next =>
        obtain⟨g_,e7,dS,H7,F7,I7,hG,hJ,E7⟩:=q3
        rw[e7] at dv
        exact⟨m,wV _,dS,H7,F7,g_,I7,hG,hJ,(E1.trans (.of_same S2)).trans E7,dv⟩
      | cont =>
        obtain⟨g_,e7,dS,H7,F7,I7,hG,hJ,E7⟩:=q3
        rw[e7] at dv
        exact⟨m,wV _,dS,H7,F7,g_,I7,hG,hJ,(E1.trans (.of_same S2)).trans E7,dv⟩
      | brk =>
        obtain⟨g_,e7,dS,H7,F7,I7,hG,hJ,E7⟩:=q3
        rw[e7] at dv
        exact⟨g_,dv.symm,dS,H7,F7,I7,hG,hJ,(E1.trans (.of_same S2)).trans E7⟩
      | ret v =>
        exact nG.map q3 (E1.trans (.of_same S2)) (λ_ _ I7=>I7) (λd7 e7=>by rw[e7] at dv;exact dv.symm) λd7 e7=>by rw[e7] at dv;exact dv.symm
     ·obtain⟨c7,g_,dS,H7,F7,e7,y4,hG,hJ,E7⟩:=q3
      rw[e7] at dv
      exact⟨c7,g_,dS,H7,F7,dv.symm,y4,hG,hJ,(E1.trans (.of_same S2)).trans E7⟩
end
def se(X:Cx)(pins:List (Addr×Obj))(σ:St)(H:Hp)(c:Er)(x:Value)(s:ah)(fl:Value):Prop :=
 Inv X pins σ H s/\∃(e C:Addr) (oe:Obj) (vs:Array Value),x = .ref e/\X.mg c.nm=some (.ref C)/\H e=none/\X.s₀.heap.get? e=none/\e≠X.env.locals/\(∀y k,X.env.cells.lookup y=some k->k≠e)/\(∀p∈X.pn++pins,p.1≠e) /\
  s.heap.get? e=some oe/\oe.cls = .ref C/\oe.data = .fields vs/\(∃a0,vs[0]? = some a0) /\
  ∃(T:Addr) (oT:Obj) (ts:Array Value),vs[1]? = some (.ref T)/\H T=none/\X.s₀.heap.get? T=none/\T≠X.env.locals/\(∀y k,X.env.cells.lookup y=some k->k≠T)/\(∀p∈X.pn++pins,p.1≠T)/\T≠e /\
   s.heap.get? T=some oT/\oT.data = .fields ts/\ts[3]? = some fl
section
variable {X:Cx}{pins:List (Addr×Obj)}{σ:St}{H:Hp}{c:Er}{x:Value}{s:ah}{E:Value->ah->Prop}{Q:Unit->ah->Prop}
def se.here{L:Addr}(hf:X.env.frame=some L)(h:se X pins σ H c x s (lB L)):pA X pins σ H c x s:=by
 obtain⟨I,e,C,oe,vs,h1,h2,h3,h4,h5,h6,h7,h8,h9,jh,jU,T,oT,ts,k1,k2,k3,k4,k5,k6,k7,k8,k9,jV⟩:=h
 exact⟨I,e,C,oe,vs,h1,h2,h3,h4,h5,h6,h7,h8,h9,jh,jU,.inr ⟨T,oT,ts,k1,k2,k3,k4,k5,k6,k7,k8,k9,.inr ⟨L,hf,jV⟩⟩⟩
def Pd{P:aS}{w:aR}{H:Hp}{h:Heap}{a:Addr}{o:HO}(x:jo P w H h a o):∃ob,h.get? a=some ob:=by
 cases o with
 | lst xs=>obtain⟨_,_,_,_,e⟩:=x;exact⟨_,e⟩
 | tup xs=>obtain⟨_,_,_,ob,e,_⟩:=x;exact⟨_,e⟩
 | dK gW=>obtain⟨_,_,_,_,o,_,_,e,_⟩:=x;exact⟨_,e⟩
 | dT gW=>obtain⟨_,_,_,_,o,_,_,e,_⟩:=x;exact⟨_,e⟩
 | set S n=>obtain⟨o,_,_,_,e,_⟩:=x;exact⟨_,e⟩
 | ins C dx fs=>obtain⟨_,_,_,e,_⟩:=x;exact⟨_,e⟩
 | own y=>exact x
 | xd fs=>obtain⟨_,⟨_,_,_,e,_⟩,_⟩:=x;exact⟨_,e⟩
 | Ae lo hi=>obtain⟨_,_,_,e⟩:=x;exact⟨_,e⟩
 | gX ob u=>obtain⟨e,_⟩:=x;exact⟨_,e⟩
 | qW ps=>exact⟨_,x⟩
 | met f y=>exact⟨_,x⟩
 | ext φ=>exact x.2.1
def Inv.Pe{ch:List Addr}{h':Heap}(I:Inv X pins σ H s)(i5:∀b∈ch,H b=none/\X.s₀.heap.get? b=none/\b≠X.env.locals/\(∀y k,X.env.cells.lookup y=some k->k≠b)/\∀p∈X.pn++pins,p.1≠b)
 (keep:∀b o,b ∉ dA X.stack->b ∉ ch->s.heap.get? b=some o->h'.get? b=some o) (slot:∀b o,b ∉ ch->s.heap.get? b=some o->∃sl,h'.get? b=some { o with slots:=sl }):Inv X pins σ H { s with heap:=h' }:=by
 refine I.call (g':=s.gens) (t':=s.toks) (d':=s.drawn) (ch:=ch) ⟨λb o e _ hb hc=>keep b o hb hc e,λb o e _ _ hc=>slot b o hc e,λ_ _ _ n _=>n,λb o e hc=>let ⟨sl,q⟩:=slot b o hc e;⟨_,q⟩,λ_ _ q=>q,λ_ _ _ q=>q,λ_ ps q=>⟨#[],by rw[q];simp⟩⟩ (λb u e=>?_) I.bare λb hb=>?_
 ·have tr:∀d w',H d=some w'->d ∉ dA X.stack/\d ∉ ch:=λd w' q=>by
   refine⟨λz=>?_,λz=>?_⟩
   ·rw[I.Ai d z] at q;cases q
   ·rw[(i5 d z).1] at q;cases q
  refine(I.aN b u e).lH (λd v hd q=>?_) (λ_ q=>q) λ_ _ q=>q
  rcases hd with z | z
  ·rw[z] at q ⊢;exact keep b v (tr b u e).1 (tr b u e).2 q
  ·exact keep d v (tr d _ z).1 (tr d _ z).2 q
 ·obtain⟨h1,h2,h3,h4,h5⟩:=i5 b hb
  exact⟨.inr h2,h3,h4,h5⟩
def hx(l:List Addr):Hp:=λb=>if b∈l then some (.own 0) else none
def v0p{l:List Addr}{b:Addr}(h:b∈l):hx l b=some (.own 0):=by unfold hx;rw[if_pos h]
def Pf{l:List Addr}{b:Addr}(h:b ∉ l):hx l b=none:=by unfold hx;rw[if_neg h]
def y7{h:Heap}{l:List Addr}{b:Addr}(hb:b∈l):(j0 h (hx l)).get? b=none:=by
 cases q:(j0 h (hx l)).get? b with
 | none=>rfl
 | some o =>
   have z:=(Df q).2
   rw[v0p hb] at z;cases z
def Pg{L e C:Addr}{a0:Value}{ch:List Addr}{h':Heap}(hex:X.ex=[])(I:Inv X pins σ H s)(p_:X.mg c.nm=some (.ref C))(he:e∈ch)(i5:∀b∈ch,H b=none/\X.s₀.heap.get? b=none/\b≠X.env.locals/\(∀y k,X.env.cells.lookup y=some k->k≠b)/\∀p∈X.pn++pins,p.1≠b)
 (hN:Heap.NotedW (j0 s.heap (hx (dA X.stack++ch))) X.stack e (.ref C) a0 (lB L) s.heap h'):se X pins σ H c (.ref e) { s with heap:=h' } (lB L):=by
 obtain⟨st,ff,⟨y8,G9,T',oT',ts',q1,⟨q2,q2'⟩,q3,q4,q5,q6,q7,q8,q9⟩,up⟩:=hN
 have keep:∀b o,b ∉ dA X.stack->b ∉ ch->s.heap.get? b=some o->h'.get? b=some o:=λb o h1 h2 q=>st b o (De q (Pf λz=>(List.mem_append.mp z).elim h1 h2))
 have slot:∀b o,b ∉ ch->s.heap.get? b=some o->∃sl,h'.get? b=some { o with slots:=sl }:=λb o h2 q=>by
  by_cases hb:b∈dA X.stack
  ·obtain⟨_,o',fv,vW⟩:=I.stack.mem hb
   rw[q] at fv;cases fv
   exact up b o q vW
  ·exact⟨o.slots,keep b o hb h2 q⟩
 have hT:H T'=none/\X.s₀.heap.get? T'=none/\T'≠X.env.locals/\(∀y k,X.env.cells.lookup y=some k->k≠T')/\∀p∈X.pn++pins,p.1≠T':=by
  cases q:s.heap.get? T' with
  | none =>
    refine⟨?_,I.gone hex q⟩
    cases z:H T' with
    | none=>rfl
    | some u =>
      obtain⟨o,eo⟩:=Pd (I.aN T' u z)
      rw[q] at eo;cases eo
  | some o =>
    have hin:T'∈dA X.stack++ch:=by
     by_cases z:T'∈dA X.stack++ch
     ·exact z
     ·have:=De q (Pf z)
      rw[q5] at this;cases this
    rcases List.mem_append.mp hin with z | z
    ·exfalso
     obtain⟨_,o',fv,vW⟩:=I.stack.mem z
     rw[q] at fv;cases fv
     obtain⟨sl,e1⟩:=up T' o q vW
     rw[q7] at e1;cases e1
     exact vW _ q8
    ·exact i5 T' z
 obtain⟨f1,f2,f3,f4,f5⟩:=i5 e he
 obtain⟨g1,g2,g3,g4,g5⟩:=hT
 exact⟨Inv.Pe I i5 keep slot,e,C,y8,G9,rfl,p_,f1,f2,f3,f4,f5,q1,q2,q3,⟨a0,q2'⟩,T',oT',ts',q4,g1,g2,g3,g4,g5,q6,q7,q8,q9⟩
def B5{M:oK}{L:Addr}(hex:X.ex=[])(nJ:X.stack=X.env::X.outer)(hf:X.env.frame=some L)(h:pA X pins σ H c x s)(hQ:∀s',se X pins σ H c x s' (lB L)->Q () s'):au M X.A (KL x X.env) Q E s:=by
 obtain⟨I,e,C,oe,vs,h1,h2,h3,h4,h5,h6,h7,h8,h9,jh,jU,sf⟩:=h
 subst h1
 obtain⟨a0,jU⟩:=jU
 have ji:X.A.frames=some (X.env::X.outer):=by rw[<-nJ];exact I.ok.frames
 have nfe:∀{b:Addr} {o:Obj} {ws:Array Value},s.heap.get? b=some o->o.data = .fields ws->b ∉ dA X.stack:=λ{b o ws} q1 q2 z=>by
  obtain⟨_,o',fv,vW⟩:=I.stack.mem z
  rw[q1] at fv;cases fv
  exact vW _ q2
 have hl:∀ch:List Addr,s.heap.FunFrames (j0 s.heap (hx (dA X.stack++ch))) (X.env::X.outer):=λch=>by
  have gen:∀(l:List Env),(∀b∈dA l,b∈dA X.stack)->s.heap.FunFrames X.base l->s.heap.FunFrames (j0 s.heap (hx (dA X.stack++ch))) l:=by
   intro l
   induction l with
   | nil=>intro _ _;trivial
   | cons env r ih =>
     intro hs ⟨hk,⟨L',o,G_,hn,ho,hd⟩,hr⟩
     have m1:∀b∈dA r,b∈dA (env::r):=λb hb=>by unfold dA at hb ⊢;rw[CG,G_];exact ft _ hb
     have m0:L'∈dA (env::r):=by unfold dA;rw[CG,G_];exact gj
     exact⟨hk,⟨L',o,G_,y7 (kH _ (hs L' m0)),ho,hd⟩,ih (λb hb=>hs b (m1 b hb)) hr⟩
  rw[<-nJ]
  exact gen X.stack (λ_ h=>h) I.stack
 have stays:∀ch:List Addr,(j0 s.heap (hx (dA X.stack++ch))).StaysIn s.heap:=λch b o q=>(Df q).1
 rcases sf with sf | ⟨T,oT,ts,k1,k2,k3,k4,k5,k6,k7,k8,k9,jV⟩
 ·have j6:1<vs.size:=(Array.getElem?_eq_some_iff.mp sf).1
  unfold KL
  simp only[hf]
  refine aI (oN h8 jh sf ?_)
  rw[if_neg (by decide)]
  refine wpAny_entryW ji (hl [e]) hf h8 (stays [e]) (y7 (by simp)) jh j6 jU λh' hN=>hQ _ ?_
  rw[h9,<-nJ] at hN
  refine Pg (ch:=[e]) hex I h2 (by simp) (λb hb=>?_) hN
  have:b=e:=by simpa using hb
  subst this
  exact⟨h3,h4,h5,h6,h7⟩
 ·have uN:∀b∈[e,T],H b=none/\X.s₀.heap.get? b=none/\b≠X.env.locals/\(∀y k,X.env.cells.lookup y=some k->k≠b)/\∀p∈X.pn++pins,p.1≠b:=λb hb=>by
   have:b=e∨b=T:=by simpa using hb
   rcases this with rfl | rfl
   ·exact⟨h3,h4,h5,h6,h7⟩
   ·exact⟨k2,k3,k4,k5,k6⟩
  rcases jV with jV | ⟨L',Ph,jV⟩
  ·refine wpAny_noteFrame_onW (cls:=.ref C) (a0:=a0) ji (hl [e,T]) hf ⟨oe,vs,T,oT,ts,h8,⟨h9,jU⟩,jh,k1,y7 (by simp),k7,k8,k9,jV⟩ (stays [e,T]) (y7 (by simp)) λh' hN=>hQ _ ?_
   rw[<-nJ] at hN
   exact Pg (ch:=[e,T]) hex I h2 (by simp) uN hN
  ·rw[hf] at Ph;cases Ph
   refine wpAny_noteFrame_againW (base:=j0 s.heap (hx (dA X.stack++[e,T]))) (cls:=.ref C) (a0:=a0) hf ⟨oe,vs,T,oT,ts,h8,⟨h9,jU⟩,jh,k1,y7 (by simp),k7,k8,k9,jV⟩ (hQ s ?_)
   exact⟨I,e,C,oe,vs,rfl,h2,h3,h4,h5,h6,h7,h8,h9,jh,⟨a0,jU⟩,T,oT,ts,k1,k2,k3,k4,k5,k6,k7,k8,k9,jV⟩
def y9{M:oK}{A:Around}{fl:Value}{fr:Option Addr}(h:se X pins σ H c x s fl)(hQ:∀s',se X pins σ H c x s' (fr.elim .none λf=>lB f)->Q () s'):au M A (setFlight x fr) Q E s:=by
 obtain⟨I,e,C,oe,vs,h1,h2,h3,h4,h5,h6,h7,h8,h9,jh,jU,T,oT,ts,k1,k2,k3,k4,k5,k6,k7,k8,k9,jV⟩:=h
 subst h1
 have Pj:3<ts.size:=(Array.getElem?_eq_some_iff.mp jV).1
 have other:∀b,b≠T->(s.heap.update T (Obj.mapFields (·.setIfInBounds 3 (fr.elim qL λf=>lB f)))).get? b=s.heap.get? b:=λb hb=>Kd _ _ (eA hb)
 unfold setFlight
 refine aI (oN h8 jh k1 ?_)
 rw[if_pos (show(fF T != qL)=true from by simp)]
 refine wpAny_setField k8 k9 Pj (hQ _ ⟨Inv.Pe (ch:=[T]) I (λb hb=>?_) (λb o hb hc q=>?_) (λb o hc q=>?_),e,C,oe,vs,rfl,h2,h3,h4,h5,h6,h7,(other e (eA k7)).trans h8,h9,jh,jU,T,_,_,k1,k2,k3,k4,k5,k6,k7,
  Sw _ k8 (Obj.isFreed_of_fields (a6g k9 _)),a6g k9 _,by simp[Pj]⟩)
 ·have:b=T:=by simpa using hb
  subst this
  exact⟨k2,k3,k4,k5,k6⟩
 ·have oY:b≠T:=by simpa using hc
  exact(other b oY).trans q
 ·have oY:b≠T:=by simpa using hc
  exact⟨o.slots,(other b oY).trans q⟩
def w9r{L:Addr}(hex:X.ex=[])(nJ:X.stack=X.env::X.outer)(hf:X.env.frame=some L):yZ X:=λpins H F r e s' h=>by
 obtain⟨c,Γ',aJ,H',F',e1,fl,fo,rl,Ex⟩:=h
 refine B5 hex nJ hf fl λs1 f1=>?_
 obtain⟨I,e',C,oe,vs,h1,h2,h3,h4,h5,h6,h7,h8,h9,jh,jU,T,oT,ts,k1,kr⟩:=id f1
 subst h1
 show au _ _ _ _ _ _
 refine aI (oN h8 jh k1 ?_)
 rw[if_neg (show ¬((fF T==qL)=true) from by simp)]
 rw[hf]
 exact y9 f1 λs2 f2=>⟨c,Γ',aJ,H',F',e1,f2.here hf,fo,rl,Ex⟩
end
def w5y{H:Hp}:aH [] H=H:=by funext b;unfold aH;simp
def Pk{K:aE}{H:Hp}{N:List Str}{ds:List D}{vs:List V}(i:aq K H ds vs):Rel K H [] (fz N.length ds) (L2.start N vs):=by
 have hl:=i.length
 have key:∀(j:Nat) (en:En),(fz N.length ds)[j]? = some en->(∃d,en = .ro d/\ds[j]? = some d)∨en = .no:=λj en h=>by
  unfold fz at h
  by_cases hj:j<ds.length
  ·rw[wH (by simpa using hj),e8,fu hj] at h
   cases h
   exact .inl ⟨_,rfl,fu hj⟩
  ·rw[uB (by simpa using hj),JY] at h
   split at h
   ·cases h;exact .inr rfl
   ·cases h
 refine⟨?_,λj d h=>?_,λj es h=>?_,λj k es fs a h1 _ _ _=>?_⟩
 ·unfold fz L2.start
  simp[hl]
 ·rcases key j _ h with ⟨d',e,hd⟩ | e
  ·cases e
   obtain⟨v,hv,iv⟩:=i.get hd
   refine⟨v,?_,by rw[w5y];exact iv⟩
   unfold L2.start
   rw[wH (by rw[aX];exact(List.getElem?_eq_some_iff.mp hv).1),e8,hv];rfl
  ·cases e
 ·rcases key j _ h with ⟨d',e,_⟩ | e<;>cases e
 ·rcases key j _ h1 with ⟨d',e,_⟩ | e<;>cases e
section
variable {P:aS}{w:aR}{K:aE}{mg:Str->Option Value}{base:Heap}
abbrev gd (P:aS) (w:aR) (K:aE) (mg:Str->Option Value) (base:Heap) (N:List Str) (qual:Str) (st:Stmt) (f:Addr) (a_:Value) (A:Around) (outer:List Env) (s:ah) (H:Hp) (E:XK):Cx :=
 uV (nC P w) P w K mg base N qual (ig st) f a_ A outer s H E
def Pl{N:List Str}{qual:Str}{st:Stmt}{f:Addr}{a_:Value}{A:Around}{outer:List Env}{s s':ah}{H H':Hp}{E:XK}{pins:List (Addr×Obj)}{aJ:St}{F':List Addr}{c:Er}{x:Value}
 (fl:pA (gd P w K mg base N qual st f a_ A outer s H E) pins aJ H' c x s') (hE:∀C,mg c.nm=some (.ref C)->E (.ref C) none H'):(gd P w K mg base N qual st f a_ A outer s H E).xe x s':=by
 show au _ _ (Sg _ x) _ _ s'
 unfold Sg
 refine aI (B5 (L:=s.heap.objs.size) rfl rfl rfl fl λs1 f1=>?_)
 refine y9 (fr:=none) f1 λs2 f2=>?_
 obtain⟨I,e,C,oe,vs,h1,h2,h3,h4,h5,h6,h7,h8,h9,jh,jU,T,oT,ts,k1,k2,k3,k4,k5,k6,k7,k8,k9,jV⟩:=f2
 exact⟨e,C,T,oe,oT,vs,ts,H',h1,I.os,I.bare,I.base,I.aN,h3,h4,h8,h9,jh,jU,k1,k2,k3,k7,k8,k9,jV,hE C h2⟩
def Pm{x qual:Str}{st:Stmt}{f:Addr}{fd:cB}{N ps:List Str}{k:Nat}{φ:List D->R D}(Fu:mP K x qual st f fd)(S:i7 N ps (ig st))(hb:km K fd ps [])(hlen:∀ds,φ ds ≠ .no->ds.length=ps.length)
 (i8:∀(a_:Value) (A:Around) (outer:List Env) (s:ah) (H:Hp) (E:XK),dO k (gd P w K mg base N qual st f a_ A outer s H E).A->∃g,jT (gd P w K mg base N qual st f a_ A outer s H E) (kO st) g/\∀ds,φ ds ≠ .no->fin (g (fz N.length ds))=φ ds) :
 g8 P w K mg base (k+1) f fd ps φ:=by
 refine⟨?_,hb,Fu.kp⟩
 obtain⟨oc,od,kV,doc,pm,an,a_,ct,p9,rfl,lk,dY⟩:=Fu.ex
 refine xD lk dY S (λvs H Q E h=>?_) λA outer s H vs Q E hr eE=>?_
 ·obtain⟨ds,i,bS,_⟩:=h
  rw[<-i.length];exact hlen ds bS
 obtain⟨g,hq,hg⟩:=i8 a_ A outer s H E hr
 obtain⟨ds,i,bS,aN,rY⟩:=eE
 have e0:=hg ds bS
 refine⟨λD' aJ H'=>D'={ nx:=λ_ H'=>Q .cQ H',rt:=Q }/\aJ=L2.start N vs/\H'=H,?_,rfl,rfl,rfl⟩
 intro pins s1 lK H1 D1 I hw
 obtain⟨rfl,rfl,rfl⟩:=hw
 have Ha:g (fz N.length ds) ≠ .no:=λz=>bS (by rw[<-e0,z];rfl)
 refine az (hq.run pins s1 (L2.start N vs) H1 [] (fz N.length ds) I bL.nil (Pk i) Ha) (λfl s' q=>?_) λx' s' q=>?_
 ·cases fl with
  | next =>
    obtain⟨Γ',e1,aJ,H',F',I',_,_,Ex⟩:=q
    exact⟨aJ,H',I',aN .cQ .cQ H' (by rw[<-e0,e1];rfl) Ex.same (Is.BK.mpr rfl)⟩
  | ret u =>
    obtain⟨v,aJ,H',F',I',rv,Ex,⟨d,e1,iv⟩ | ⟨es,a,xs,e1,ev,hn,ha,ia⟩⟩:=q
    ·exact⟨v,aJ,H',I',rv,aN d v H' (by rw[<-e0,e1];rfl) Ex.same iv⟩
    ·exact absurd (by rw[<-e0,e1];rfl) bS
  | brk=>obtain⟨Γ',e1,_⟩:=q;exact absurd (by rw[<-e0,e1];rfl) bS
  | cont=>obtain⟨Γ',e1,_⟩:=q;exact absurd (by rw[<-e0,e1];rfl) bS
 ·obtain⟨c,Γ',aJ,H',F',e1,fl,fo,rl,Ex⟩:=q
  exact Pl (F':=F') fl λC hC=>rY c C H' (by rw[<-e0,e1];rfl) hC Ex.same
def w8s{x qual:Str}{st:Stmt}{f:Addr}{fd:cB}{N ps:List Str}{k:Nat}{φ:List D->R (List D)}(Fu:mP K x qual st f fd)(S:i7 N ps (ig st))(hb:km K fd ps [])(hlen:∀ds,φ ds ≠ .no->ds.length=ps.length)
 (i8:∀(a_:Value) (A:Around) (outer:List Env) (s:ah) (H:Hp) (E:XK),dO k (gd P w K mg base N qual st f a_ A outer s H E).A->∃g,jT (gd P w K mg base N qual st f a_ A outer s H E) (kO st) g/\∀ds,φ ds ≠ .no->AV (g (fz N.length ds))=φ ds) :
 pF P w K mg base (k+1) f fd ps φ:=by
 refine⟨?_,hb,Fu.kp⟩
 obtain⟨oc,od,kV,doc,pm,an,a_,ct,p9,rfl,lk,dY⟩:=Fu.ex
 refine xD lk dY S (λvs H Q E h=>?_) λA outer s H vs Q E hr eE=>?_
 ·obtain⟨ds,i,bS,_⟩:=h
  rw[<-i.length];exact hlen ds bS
 obtain⟨g,hq,hg⟩:=i8 a_ A outer s H E hr
 obtain⟨ds,i,bS,aN,rY⟩:=eE
 have e0:=hg ds bS
 refine⟨λD' aJ H'=>D'={ nx:=λ_ H'=>Q .cQ H',rt:=Q }/\aJ=L2.start N vs/\H'=H,?_,rfl,rfl,rfl⟩
 intro pins s1 lK H1 D1 I hw
 obtain⟨rfl,rfl,rfl⟩:=hw
 have Ha:g (fz N.length ds) ≠ .no:=λz=>bS (by rw[<-e0,z];rfl)
 refine az (hq.run pins s1 (L2.start N vs) H1 [] (fz N.length ds) I bL.nil (Pk i) Ha) (λfl s' q=>?_) λx' s' q=>?_
 ·cases fl with
  | next =>
    obtain⟨Γ',e1,_⟩:=q
    exact absurd (by rw[<-e0,e1];rfl) bS
  | ret u =>
    obtain⟨v,aJ,H',F',I',rv,Ex,⟨d,e1,iv⟩ | ⟨es,a,xs,e1,ev,hn,ha,ia⟩⟩:=q
    ·exact absurd (by rw[<-e0,e1];rfl) bS
    ·subst ev
     exact⟨.ref a,aJ,H',I',rv,aN es a xs H' (by rw[<-e0,e1];rfl) Ex.same (hn.elim (λz=>absurd z (by simp)) λz=>z) ha ia⟩
  | brk=>obtain⟨Γ',e1,_⟩:=q;exact absurd (by rw[<-e0,e1];rfl) bS
  | cont=>obtain⟨Γ',e1,_⟩:=q;exact absurd (by rw[<-e0,e1];rfl) bS
 ·obtain⟨c,Γ',aJ,H',F',e1,fl,fo,rl,Ex⟩:=q
  exact Pl (F':=F') fl λC hC=>rY c C H' (by rw[<-e0,e1];rfl) hC Ex.same
def kA{N:List Str}{qual:Str}{st:Stmt}{f:Addr}{a_:Value}{A:Around}{outer:List Env}{s:ah}{H:Hp}{E:XK}:yZ (gd P w K mg base N qual st f a_ A outer s H E):=w9r (L:=s.heap.objs.size) rfl rfl rfl
end
section
variable {X:Cx}{e a b c:Expr}{g ga gb gc:G->R D}{pos p:Pos}
def y_:Expr->Bool
 | .Constant (.int _) _ _=>true
 | _=>false
def icD:Expr->D
 | .Constant (.int i) _ _=>.int i
 | _=>.cQ
def x3z{es:List Expr}(h:es.all y_=true:=by rfl):nv X es (λ_=>.ok (es.map icD)):=by
 induction es with
 | nil=>exact av
 | cons e es ih =>
   have h1:y_ e=true/\es.all y_=true:=by simpa using h
   have h2:=ih h1.2
   cases e with
   | Constant c j q =>
     cases c with
     | int i =>
       refine⟨λpos pins s σ H F Γ I fo rl hg=>?_⟩
       exact(ak (X:=X) (e:=.Constant (.int i) j q) aA h2 (by rfl)).run pos pins s σ H F Γ I fo rl (λz=>nomatch z)
     | _=>exact absurd h1.1 (by simp[y_])
   | _=>exact absurd h1.1 (by simp[y_])
def w8l{pins:List (Addr×Obj)}{σ:St}{H:Hp}{s:ah}{A:Around}{E:Value->ah->Prop}{Q:Value->ah->Prop}{d:D}{v:V}{u cv:Value}{b:Bool}(I:Inv X pins σ H s)(B6:d.ko=true)(i:Is X.K H d v)(r:RelV v u)(e:z8 X.K (.type d.ty) cv=some b)(h:∀tk,Q (.bool b) { s with toks:=tk }) :
 au (aD X.prog X.w) A (call (.builtin "isinstance") [u,cv]) Q E s:=by
 cases d with
 | cQ=>rw[Is.BK.mp i] at r;cases (show u=qL from r);exact uL PySem.W.kitx_none I.gH CV e (λz=>nomatch z) h
 | bl y=>rw[Is.gD.mp i] at r;cases (show u=CF y from r);exact uL PySem.W.kitx_bool I.gH CV e (λz=>nomatch z) h
 | int y=>rw[Is.bZ.mp i] at r;obtain⟨t,q⟩:=(show ∃t,u=nQ y t from r);cases q;exact uL PySem.W.kitx_int I.gH CV e (λz=>nomatch z) h
 | str y=>rw[Is.iC.mp i] at r;obtain⟨t,q⟩:=(show ∃t,u=zD y t from r);cases q;exact uL PySem.W.kitx_str I.gH CV e (λz=>nomatch z) h
 | tup ds =>
   obtain⟨a,xs,rfl,h1,_⟩:=Is.fB.mp i
   cases (show u=fF a from r)
   obtain⟨its,_,⟨o,ho,hc,_⟩,_⟩:=I.tuple h1
   exact uL PySem.W.kitx_tuple I.gH ⟨o,ho,hc⟩ e (λz=>nomatch z) h
 | lst ds =>
   obtain⟨a,xs,rfl,h1,_⟩:=Is.fC.mp i
   cases (show u=fF a from r)
   obtain⟨its,_,⟨o,n,ho,hc,_⟩,_⟩:=I.list h1
   exact uL PySem.W.kitx_list I.gH ⟨o,ho,hc⟩ e (λz=>nomatch z) h
 | kn =>
   obtain⟨a,ob,rfl,h1,h2⟩:∃a ob,v=V.ref a/\H a=some (.gX ob (.own 0))/\ob.cls = .type "dict":=by unfold Is at i;exact i
   cases (show u=fF a from r)
   exact uL PySem.W.kitx_dict I.gH ⟨ob,(I.aN a _ h1).1,h2⟩ e (λz=>nomatch z) h
 | exc c=>simp[D.ko] at B6
def B7{y:Str}{py:Pos}{cv:Value}(f:String->Bool)(ha:PD X a ga)(hm:X.mg "isinstance"=none)(hb:∀{E:Value->ah->Prop} {pins σ H s} {Q:Value->ah->Prop},Inv X pins σ H s->Q cv s->au (aD X.prog X.w) X.A (eval (.Name y py) X.env) Q E s)
 (hk:∀d:D,d.ko=true->z8 X.K (.type d.ty) cv=some (f d.ty)) (hg:Gl X "isinstance":=by rfl)
 (he:aT [a,.Name y py] X.env=(false,eval a X.env)::(false,eval (.Name y py) X.env)::[]:=by rfl) (gu:(cH pos (aT [.Name y py] X.env)).any (·.1)=false:=by rfl) (tU:aT [.Name y py] X.env=[(false,eval (.Name y py) X.env)]:=by rfl) :
 PD X (.Call (.Name "isinstance" p) [a,.Name y py] [] pos) (u9 f ga):=by
 refine⟨λpins s σ H F Γ I fo rl bW=>?_⟩
 refine kL (iu I hg hm (by decide +kernel:lA "isinstance"=some (.builtin "isinstance")) ?_ (by decide) (by decide))
 refine Kz ?_ (by rw[he,tU]) gu
 rw[he]
 show au _ _ (e9 ((false,eval a X.env)::cH pos [(false,eval (.Name y py) X.env)])) _ _ s
 refine fT (az (ha.run pins s σ H F Γ I fo rl (R.left bW)) (λu s1 ⟨d,v,H1,e1,I1,r1,S1,i1⟩=>?_) λ_ _ x=>x.bind _)
 show au _ _ (e9 ((false,eval (.Name y py) X.env)::cH pos [])) _ _ s1
 refine fT (hb I1 (iJ ?_))
 obtain⟨B6,e2⟩:=V4 (R.next bW e1)
 exact w8l I1 B6 i1 r1 (hk d B6) λtk=>du.bind e1 S1 ⟨.bl (f d.ty),.bl (f d.ty),H1,e2,I1.tok _,rfl,.refl _,Is.gD.mpr rfl⟩
def v0o{K:aE}(d:D)(h:d.ko=true):z8 K (.type d.ty) (.type "int")=some (AN d.ty):=by cases d<;>first | rfl | (simp[D.ko] at h)
def w8i{K:aE}(d:D)(h:d.ko=true):z8 K (.type d.ty) (.type "bool")=some (AO d.ty):=by cases d<;>first | rfl | (simp[D.ko] at h)
def Pn{K:aE}(d:D)(h:d.ko=true):z8 K (.type d.ty) (.type "str")=some (u_ d.ty):=by cases d<;>first | rfl | (simp[D.ko] at h)
def qA{x:Str}{i:Int}{u:Value}(hm:X.mg x=some u)(hu:∃t,u = .int i t)(hg:Gl X x:=by rfl)(hd:(x==("__debug__":Str))=false:=by decide):PD X (.Name x pos) (gC (.int i)) :=
 OU hg hm (v:=.int i) hu (λ_=>Is.bZ.mpr rfl) hd
end
def pF.mono{P:aS}{w:aR}{K:aE}{mg:Str->Option Value}{base:Heap}{j k:Nat}{f:Addr}{fd:cB}{ps:List Str}{φ:List D->R (List D)}(F:pF P w K mg base j f fd ps φ)(h:j<=k):pF P w K mg base k f fd ps φ:=⟨F.ok.mono h,F.binds,F.kp⟩
def vX(φ:List D->R D)(K:aE):Sp:=λvs H Q _=>∃ds d,aq K H ds vs/\φ ds = .ok d/\(∀v H',aO H H'->Is K H' d v->Q v H')
def w6u{φ:List D->R D}{K:aE}{mg:Str->Option Value}{vs:List V}{H:Hp}{Q:VK}{E:XK}(h:vX φ K vs H Q E):yE K mg φ vs H Q E:=by
 obtain⟨ds,d,i,e,q⟩:=h
 exact⟨ds,i,(by rw[e];exact(λz=>nomatch z)),(λd' v H' e' S iv=>by rw[e] at e';cases e';exact q v H' S iv),(λc C H' e'=>by rw[e] at e';cases e')⟩
def g8.okN{P:aS}{w:aR}{K:aE}{mg:Str->Option Value}{base:Heap}{k:Nat}{f:Addr}{fd:cB}{ps:List Str}{φ:List D->R D}(F:g8 P w K mg base k f fd ps φ):jH P w K mg base (nC P w) k f fd ps (vX φ K) :=
 F.ok.imp λ_ _ _ _ h=>w6u h
def a0b{c:List D->R D}(hc:∀ns:List Int,ns.length<=63->c [.lst (ns.map D.int)] = .ok (.bl true)){K:aE}{H:Hp}{a:Addr}{ns:List Int}(hl:ns.length<=63)(hS:cA K H a (ns.map V.int)):vX c K [.ref a] H (λv _=>v = .bl true) λ_ _ _=>False :=
 ⟨[.lst (ns.map D.int)],.bl true,aq.cons (Is.fC.mpr ⟨a,_,rfl,hS,aq.ints ns⟩) aq.nil,hc ns hl,λv H' _ iv=>Is.gD.mp iv⟩
def a0c{P:aS}{w:aR}{H:Hp}{s:ah}{e:Value}{s':ah}(h:nC P w [] H s (λ_ _ _=>False) e s'):False:=by
 obtain⟨_,_,_,_,_,_,_,_,_,_,_,_,_,_,_,_,_,_,_,_,_,_,_,_,_,_,z⟩:=h
 exact z
def a0d{l:a4v}{n k:Nat}{q:aS}{loose:List Str}{XP:(Str->Option Value)->Heap->Prop}{YP:aR->Heap->Prop}{d:DefRec}{K:oP->aE}{CX:aR->lO}(sp:aE->Sp){x:Str}
 (hn:l.most=some n) (Ay:n<=b5) (xF:d.params.defaults=[]) (hr:dO k uD)
 (hY:∀(w:aR) (h:Heap),YP w h->(K w.params).In h)
 (F:∀(w:aR) (mg:Str->Option Value) (fa:Addr) (h:Heap),(K w.params).In h->h.Ns dw mg->mg d.name=some (.ref fa) ->
   ∃fd:cB,(∀(s:ah) (u:Value),BindsTo s fd ⟨[u],[]⟩ [(x,u)]) /\
    ∀base:Heap,(K w.params).In base->base.Ns dw mg->jH l.prog w (K w.params) mg base (CX w) k fa fd [x] (sp (K w.params)))
 (eE:∀(K:aE) (H:Hp) (a:Addr) (ns:List Int),ns.length<=n->cA K H a (ns.map V.int)->sp K [.ref a] H (λv _=>v = .bl true) λ_ _ _=>False)
 (xG:∀(w:aR) (H:Hp) (s:ah) (e:Value) (s':ah),CX w [] H s (λ_ _ _=>False) e s'->False) :
 PySem.W.WalkO q loose XP YP l.row.toRowW d [] (λf vs=>SE f vs) :=
 LN (K:=K) (CX:=CX) (sp:=λw=>sp (K w.params)) hn Ay xF hr hY F (λw H a ns h1 _ h3=>eE (K w.params) H a ns h1 h3) xG
end L3
namespace L3
open PySem PySem.Spec PyProof.Rows L2
def B8(lo st:Int)(n:Nat):It:=⟨λi _=>i<n,λi H x H'=>H'=H/\x = .int (lo+st*(i:Int)),λi _=>n<=i⟩
def x5h{P:aS}{w:aR}{K:aE}{tg:Expr}(it:Addr)(lo st:Int)(n:Nat):Turn P w K tg (B8 lo st n) [it] it (λi h=>JW h it (lo+(i:Nat)*st) ((n:Int)-(i:Nat)) st) where
 mem:=by simp
 obj:=λi h st b hb=>by
  have e:b=it:=by simpa using hb
  subst e
  exact⟨_,st,λv z=>by
   have z':Sa _=Sb v:=z
   cases z'⟩
 keep:=λi h h' st k=>k it (by simp) _ st
 item:=by
  intro X hP hw hK hc i pins s σ H E I hf sx hg
  subst hP hw hK
  obtain⟨f0,f1,f2,f3,f4,f5⟩:=hf it (by simp)
  have W:=Walks.range (prog:=X.prog) (w:=X.w) (I.ok.hd hc) it lo st n
  refine W.item i s _ _ hg sx λv h' tk hv iL kk=>?_
  obtain⟨t,rfl⟩:=hv
  have I1:Inv X pins σ H { s with heap:=h',toks:=tk }:=I.turned (λb o hb e=>kk b o (by simpa using hb) e) f0 f1 f3 f4 f5
  refine⟨_,rfl,uR (s:={ s with heap:=h',toks:=tk }) (n:="range_iterator") iL rfl rfl (by decide) ⟨.int (lo+st*i),H,I1,⟨t,?_⟩,⟨rfl,rfl⟩,iL,λb hb=>(hf b hb).1⟩⟩
  rw[Ki]
 done:=by
  intro X hP hw hK hc i pins s σ H E I hf sx hg
  subst hP hw hK
  obtain⟨f0,f1,f2,f3,f4,f5⟩:=hf it (by simp)
  exact a4d (I.ok.hd hc) sx (by have:n<=i:=hg;lia) λh' eb=>⟨rfl,I.turned (t':=s.toks) (λb o hb e=>eb b o hb e) f0 f1 f3 f4 f5⟩
 self:=λ_ _ _ _ _ st h=>a4e st h
def B9{a b c:Int}(hc:0<c):zF a b c=((kX a b c:Nat):Int):=by
 unfold zF kX
 rw[if_pos hc]
 by_cases h:a<b
 ·rw[if_pos h,show b-a+c-1=(b-a-1)+c*1 by lia,Int.add_mul_ediv_left _ _ (by lia)]
  have:0<=(b-a-1)/c:=a5b (by lia) (by lia)
  lia
 ·rw[if_neg h]
  have h1:(b-a+c-1)/c<=0:=by
   have:(b-a+c-1)/c<=(c-1)/c:=Int.ediv_le_ediv hc (by lia)
   have h2:(c-1)/c=0:=a6h (by lia) (by lia)
   lia
  lia
def w0d{a b c:Int}(hc:0<c)(h:a<=b):((kX a b c:Nat):Int)<=b-a:=by
 rw[<-B9 hc]
 unfold zF
 rw[if_pos hc]
 by_cases h:a<b
 ·rw[if_pos h]
  have:=a5c (a:=b-a-1) c (by lia)
  lia
 ·rw[if_neg h];lia
def x3j{a b c:Int}(ha:-1073741824<=a)(Mm:a<1073741824)(hb:-1073741824<=b)(xV:b<1073741824)(hc:0<c)(oY:c<1073741824):a6i a b c=true:=by
 unfold a6i
 have hs:((kX a b c:Nat):Int)<=4294967296:=by
  by_cases h:a<=b
  ·have:=w0d hc h;lia
  ·rw[<-B9 hc]
   unfold zF
   rw[if_pos hc,if_neg (by lia)];lia
 rw[B9 hc]
 generalize kX a b c=n at *
 simp only[Builtin.Range.rangeFitsLong,i0,CZ,decide_eq_true_eq,beq_iff_eq,if_pos (show c>0 from hc)]
 lia
section
variable {X:Cx}{tg a b c:Expr}{ga gb gc:G->R D}
def w4b{pins:List (Addr×Obj)}{σ:St}{H:Hp}{s:ah}{R:It->Hp->Prop}{E:Value->ah->Prop}{lo hi st:Int}{t u v:Tok}{tk:Nat}(I:Inv X pins σ H s)(h1:-1073741824<=lo)(h2:lo<1073741824)(h3:-1073741824<=hi)(h4:hi<1073741824)(h5:0<st)(h6:st<1073741824)
 (q:R (B8 lo st (kX lo hi st)) H):au (aD X.prog X.w) X.A (qO (.ref s.heap.objs.size)) (Dm X pins σ tg R) E { s with heap:=s.heap.push { cls:=.type "range",data:=.fields #[.int lo t,.int hi u,.int st v] },toks:=tk }:=by
 refine a4f (IsRange.new ..) (x3j h1 h2 h3 h4 h5 h6) ?_
 have I1:Inv X pins σ H { s with heap:=s.heap.push { cls:=.type "range",data:=.fields #[.int lo t,.int hi u,.int st v] },toks:=tk }:=I.kept λb o e=>dE _ e
 refine⟨(s.heap.push { cls:=.type "range",data:=.fields #[.int lo t,.int hi u,.int st v] }).objs.size,[(s.heap.push { cls:=.type "range",data:=.fields #[.int lo t,.int hi u,.int st v] }).objs.size],_,_,H,rfl,
  I1.kept (t':=tk) λb o e=>dE _ e,x5h _ lo st (kX lo hi st),?_,λb hb=>?_,q⟩
 ·have e1:lo+((0:Nat):Int)*st=lo:=by simp
  have e2:((kX lo hi st:Nat):Int)-((0:Nat):Int)=zF lo hi st:=by rw[B9 h5];lia
  show JW _ _ (lo+((0:Nat):Int)*st) (((kX lo hi st:Nat):Int)-((0:Nat):Int)) st
  rw[e1,e2]
  exact gf _ rfl
 ·have e:b=(s.heap.push { cls:=.type "range",data:=.fields #[.int lo t,.int hi u,.int st v] }).objs.size:=by simpa using hb
  subst e
  exact I1.sO (a9 _) (I1.aN.fresh (a9 _))
def x5u(lo st:Int)(n:Nat):(lX lo st n).length=n:=by unfold lX;simp
def w5t{K:aE}{H:Hp}{F:List Addr}(lo st:Int)(n:Nat):JD K H F (B8 lo st n) (lX lo st n):=λH1 S=>by
 rw[x5u]
 refine⟨λj hj=>⟨hj,λx H2 y=>⟨y.1,.int (lo+st*(j:Int)),by unfold lX;simp[hj],λF' _=>?_⟩⟩,a9 _⟩
 exact Is.bZ.mpr y.2
def x3w{p pos:Pos}(ha:PD X a ga)(hb:PD X b gb)(hc:PD X c gc)(hm:X.mg "range"=none)(hg:Gl X "range":=by rfl)(hs:aT [a,b,c] X.env=[(false,eval a X.env),(false,eval b X.env),(false,eval c X.env)]:=by rfl)(r0:aT [b,c] X.env=[(false,eval b X.env),(false,eval c X.env)]:=by rfl) :
 vU X tg (.Call (.Name "range" p) [a,b,c] [] pos) (DT ga gb gc):=by
 refine⟨λpins s σ H F Γ I fo rl bW=>?_⟩
 refine wY (iu I hg hm KA (oV ?_ (by rw[hs,r0]) (by rw[r0];rfl)))
 rw[hs]
 show au _ _ (e9 ((false,eval a X.env)::cH pos [(false,eval b X.env),(false,eval c X.env)])) _ _ s
 refine fT (az (ha.run pins s σ H F Γ I fo rl (R.left bW)) (λu s1 ⟨d,v,H1,e1,I1,r1,S1,i1⟩=>?_) λ_ _ x=>x.bind _)
 have aM:=R.next bW e1
 show au _ _ (e9 ((false,eval b X.env)::cH pos [(false,eval c X.env)])) _ _ s1
 refine fT (az (hb.run pins s1 σ H1 F Γ I1 (fo.same S1) (rl.same S1) (R.left aM)) (λu2 s2 ⟨d2,v2,H2,e2,I2,r2,S2,i2⟩=>?_) λ_ _ x=>cw.later e1 S1 (x.bind _))
 have dC:=R.next aM e2
 show au _ _ (e9 ((false,eval c X.env)::cH pos [])) _ _ s2
 refine fT (az (hc.run pins s2 σ H2 F Γ I2 ((fo.same S1).same S2) ((rl.same S1).same S2) (R.left dC)) (λu3 s3 ⟨d3,v3,H3,e3,I3,r3,S3,i3⟩=>iJ ?_) λ_ _ x=>cw.later e1 S1 (cw.later e2 S2 (x.bind _)))
 have mz:=R.next dC e3
 cases d with
 | int i =>
   cases d2 with
   | int j =>
     cases d3 with
     | int k =>
       obtain⟨⟨⟨h1,h2⟩,⟨h3,h4⟩,h5,h6⟩,e4⟩:=R.cU (show R.guard ((-1073741824<=i/\i<1073741824)/\(-1073741824<=j/\j<1073741824)/\0<k/\k<1073741824) (.ok (lX i k (kX i j k))) ≠ .no from mz)
       rw[Is.bZ.mp i1] at r1
       rw[Is.bZ.mp i2] at r2
       rw[Is.bZ.mp i3] at r3
       obtain⟨t,rfl⟩:=(show ∃t,u=nQ i t from r1)
       obtain⟨t',rfl⟩:=(show ∃t,u2=nQ j t from r2)
       obtain⟨t'',rfl⟩:=(show ∃t,u3=nQ k t from r3)
       refine call_range_3 (by lia) (ic (w4b (tg:=tg) (R:=λJ H'=>J=B8 i k (kX i j k)/\H'=H3) I3 h1 h2 h3 h4 h5 h6 ⟨rfl,rfl⟩) λlN s4 ⟨it,fp,tn,J,H',ei,I4,T,t0,fk,eJ,eH⟩=>?_) (.inl (a4h (by lia)))
       subst eJ eH
       exact⟨_,it,fp,tn,_,H',(R.step e1 _).trans ((R.step e2 _).trans ((R.step e3 _).trans e4)),ei,I4,(S1.trans S2).trans S3,T,t0,fk,w5t i k _⟩
     | _=>exact absurd rfl mz
   | _=>exact absurd rfl mz
 | _=>exact absurd rfl mz
end
section
variable {prog:aS}{w:aR}{A:Around}{E:Value->ah->Prop}{s:ah}
open HT in
def y0f{t sl:Addr}{items:Array Value}{vl vu:Value}{lo hi:Option Int}{Q:Value->ah->Prop}(ht:sr s.heap t items)(hs:s.heap.IsSliceOf sl vl vu .none)(pl:qP vl lo)(pu:qP vu hi)
 (hw:HT.bJ items.size 0 lo=0/\HT.bJ items.size items.size hi=items.size) (h:Q (.ref t) s):au (aD prog w) A (wI (.ref t) (.ref sl)) Q E s:=by
 obtain⟨os,sR,sS,xE⟩:=id hs
 have Dr:s.TypeIs (.ref sl) "slice":=⟨os,sR,sS⟩
 unfold wI
 try with_reducible refine jE ?_
 first | refine aI (bR ?_) | skip
 refine aI (a4p ht.typeIs (by decide) ?_)
 refine aI (J4 (name:=jn "__getitem__") ht.typeIs J_
  (zH J_ ht.typeIs a4q ?_ (a4r _ _)))
 show au _ _ (Sr (.ref t)>>=_) _ _ s
 refine aI (tupleItemsOf_ ht ?_)
 refine aI (Ka Dr ?_)
 rw[if_pos (by decide)]
 refine aI (Lv hs pl pu ?_)
 have a0e:(((HT.bJ items.size 0 lo:Nat):Int)==0&&(1:Int)==1&&(HT.bJ items.size items.size hi-HT.bJ items.size 0 lo)==items.size)=true:=by
  rw[hw.1,hw.2];simp
 show au _ _ (if (((HT.bJ items.size 0 lo:Nat):Int)==0&&(1:Int)==1&&(HT.bJ items.size items.size hi-HT.bJ items.size 0 lo)==items.size)=true then _ else _) _ _ s
 rw[if_pos a0e]
 unfold Builtin.Tuple.tupleIsExact
 refine aI (aI (Ka ht.typeIs ?_))
 refine bR ?_
 rw[if_pos (by decide)]
 exact aI (KN (bR ⟨_,rfl,bR h⟩))
end
section
variable {X:Cx}{e a b c:Expr}{g ga gb gc:G->R D}{lo hi:Option Expr}{gl gh:G->R (Option Int)}{pos p2:Pos}
def a0f(K:aE):V->Option Int->Option Int->Hp->VK->Prop:=λx lo hi H Q=>∃a xs,x = .ref a/\cC K H a xs/\(HT.bJ xs.length 0 lo=0/\HT.bJ xs.length xs.length hi=xs.length)/\Q (.ref a) H
def w4c:oZ X (a0f X.K):=by
 intro pins s σ H x v vl vu lo hi sl Q I rx hs pl pu h
 obtain⟨a,xs,rfl,hx,hw,q⟩:=h
 cases rx
 obtain⟨its,r,ht,hz⟩:=I.tuple hx
 have hlen:its.toArray.size=xs.length:=by rw[de];exact r.length.symm
 refine⟨"tuple",_,PyProof.Rows.slot_tuple_getitem.lookup,ht.typeIs,?_⟩
 exact y0f ht hs pl pu (by rw[hlen];exact hw) ⟨.ref a,H,I,rfl,q⟩
structure sg (X:Cx) (e:Option Expr) (g:G->R (Option Int)):Prop where
 run:∀(pins:List (Addr×Obj)) (s:ah) (σ:St) (H:Hp) (F:List Addr) (Γ:G),Inv X pins σ H s->bL H F->Rel X.K H F Γ σ->g Γ ≠ .no ->
  au (aD X.prog X.w) X.A (evalPart e X.env) (λu s'=>∃o H',g Γ = .ok o/\Inv X pins σ H' s'/\qP u o/\aO H H') (cw X pins σ H (g Γ)) s
def pK:sg X none kT:=⟨λpins s σ H F Γ I fo rl hg=>by
 rw[evalPart_none]
 exact bR ⟨none,H,rfl,I,.none,.refl _⟩⟩
def nK(h:PD X e g):sg X (some e) (j7 g):=⟨λpins s σ H F Γ I fo rl hg=>by
 rw[evalPart_some]
 refine az (h.run pins s σ H F Γ I fo rl (R.left hg)) (λu s1 ⟨d,x,H1,e1,I1,r1,S1,i1⟩=>?_) λ_ _ x=>x.bind _
 have aM:=R.next hg e1
 cases d with
 | int i =>
   rw[Is.bZ.mp i1] at r1
   obtain⟨t,rfl⟩:=(show ∃t,u=nQ i t from r1)
   exact⟨some i,H1,R.step e1 _,I1,.int i t,S1⟩
 | _=>exact absurd rfl aM⟩
def aq.cut{K:aE}{H:Hp}{ds:List D}{xs:List V}(h:aq K H ds xs)(lo hi:Option Int):aq K H (gP ds lo hi) (lP xs lo hi):=by
 have hl:=h.length
 unfold gP lP
 rw[hl]
 exact(h.drop _).take _
def Po{r:V->Option Int->Option Int->Hp->VK->Prop}(hr:oZ X.bY r)(ha:PD X a ga)(hl:sg X lo gl)(hh:sg X hi gh){pins:List (Addr×Obj)}{s:ah}{σ:St}{H:Hp}{F:List Addr}{Γ:G}(I:Inv X pins σ H s)(fo:bL H F)(rl:Rel X.K H F Γ σ)
 {α:Type} {rr:R α} {k:D->Option Int->Option Int->R α} (hrr:rr=(ga Γ>>=λd=>gl Γ>>=λl=>gh Γ>>=λh=>k d l h)) (hg:rr ≠ .no) {Q:Value->ah->Prop}
 (hq:∀d x l h H3,k d l h ≠ .no->rr=k d l h->aO H H3->Is X.K H3 d x->bL H3 F->Rel X.K H3 F Γ σ->r x l h H3 λz H'=>∀u s',Inv X pins σ H' s'->RelV z u->Q u s') :
 au (aD X.prog X.w) X.A (eval (.Subscript a (.Slice lo hi none p2) pos) X.env) Q (cw X pins σ H rr) s:=by
 subst hrr
 refine Ky (az (ha.run pins s σ H F Γ I fo rl (R.left hg)) (λv s1 ⟨d,x,H1,e1,I1,r1,S1,i1⟩=>?_) λ_ _ x=>x.bind _)
 have aM:=R.next hg e1
 refine wpAny_Slice (az (hl.run pins s1 σ H1 F Γ I1 (fo.same S1) (rl.same S1) (R.left aM)) (λvl s2 ⟨l,H2,e2,I2,pl,S2⟩=>?_) λ_ _ x=>cw.later e1 S1 (x.bind _))
 have dC:=R.next aM e2
 refine az (hh.run pins s2 σ H2 F Γ I2 ((fo.same S1).same S2) ((rl.same S1).same S2) (R.left dC)) (λvu s3 ⟨h,H3,e3,I3,pu,S3⟩=>?_) λ_ _ x=>cw.later e1 S1 (cw.later e2 S2 (x.bind _))
 have mz:=R.next dC e3
 have Hb:=(S1.trans S2).trans S3
 rw[evalPart_none]
 refine bR ?_
 have I4:Inv X pins σ H3 { s3 with heap:=s3.heap.push { cls:=.type "slice",data:=.fields #[vl,vu,.none] } }:=I3.kept (t':=s3.toks) λb ob q=>dE _ q
 obtain⟨T,id,hT,ht,hgi⟩:=hr pins { s3 with heap:=s3.heap.push { cls:=.type "slice",data:=.fields #[vl,vu,.none] } } σ H3 x v vl vu l h s3.heap.objs.size _ (I4.dB _) r1 (Heap.IsSliceOf.new ..) pl pu (hq d x l h H3 mz ((R.step e1 _).trans ((R.step e2 _).trans (R.step e3 _))) Hb ((i1.same S2).same S3) (fo.same Hb) (rl.same Hb))
 show au (aD X.prog X.w) X.A (subscriptTail a (.Slice lo hi none p2) v (.ref s3.heap.objs.size)) _ _ { s3 with heap:=s3.heap.push { cls:=.type "slice",data:=.fields #[vl,vu,.none] } }
 refine tail_any (ops:=[.ref s3.heap.objs.size,v]) ht hT (az hgi (λu s5 ⟨z,H5,I5,rz,q5⟩=>q5 u s5 I5.fw rz) λ_ _ z=>cx z) (by with_unfolding_all rfl)
def pL(ha:PD X a ga)(hl:sg X lo gl)(hh:sg X hi gh):PD X (.Subscript a (.Slice lo hi none p2) pos) (kU ga gl gh):=⟨λpins s σ H F Γ I fo rl hg =>
 Po (oZ.or (oZ.or U1 w4c) LB) ha hl hh I fo rl (k:=AG) rfl hg λd x l h H3 hk er S i y1 B3=>by
  cases d with
  | tup ds =>
    obtain⟨p,xs,rfl,h1,h2⟩:=Is.fB.mp i
    by_cases hw:HT.bJ xs.length 0 l=0/\HT.bJ xs.length xs.length h=xs.length
    ·refine .inl (.inr ⟨p,xs,rfl,h1,hw,λu s' I' rz=>⟨_,.ref p,H3,er,I',rz,S,Is.fB.mpr ⟨p,xs,rfl,h1,?_⟩⟩⟩)
     have:=h2.cut l h
     unfold lP at this
     rw[hw.1,hw.2,zM,SH,wO] at this
     exact this
    ·refine .inl (.inl ⟨p,xs,rfl,h1,hw,λq hq u s' I' rz=>?_⟩)
     have S2:=g7 hq (.tup (lP xs l h))
     exact⟨_,.ref q,_,er,I',rz,S.trans S2,Is.fB.mpr ⟨q,_,rfl,cC.of dj,(h2.cut l h).same S2⟩⟩
  | lst ds =>
    obtain⟨p,xs,rfl,h1,h2⟩:=Is.fC.mp i
    refine .inr ⟨p,xs,rfl,h1,λq hq u s' I' rz=>?_⟩
    have S2:=g7 hq (.lst (lP xs l h))
    exact⟨_,.ref q,_,er,I',rz,S.trans S2,Is.fC.mpr ⟨q,_,rfl,cA.of dj,(h2.cut l h).same S2⟩⟩
  | _=>exact absurd rfl hk⟩
def w9t(ha:PD X a ga)(hl:sg X lo gl)(hh:sg X hi gh):PF X (.Subscript a (.Slice lo hi none p2) pos) (DQ ga gl gh):=⟨λpins s σ H F Γ I fo rl hg =>
 Po LB ha hl hh I fo rl (k:=AH) rfl hg λd x l h H3 hk er S i y1 B3=>by
  cases d with
  | lst ds =>
    obtain⟨p,xs,rfl,h1,h2⟩:=Is.fC.mp i
    refine⟨p,xs,rfl,h1,λq hq u s' I' rz=>?_⟩
    have S2:=g7 hq (.lst (lP xs l h))
    obtain⟨hn,e5⟩:=R.cU (show R.guard (D.bC (gP ds l h)=true) (R.ok (gP ds l h))≠R.no from hk)
    exact⟨gP ds l h,q,lP xs l h,_,er.trans e5,I',rz,S.trans S2,S.free hq,dj,aq.aH ((y1.same S2).cons dj) _ _ hn ((h2.cut l h).same S2)⟩
  | _=>exact absurd rfl hk⟩
end
end L3
namespace L3
open PySem PySem.Spec PyProof.Rows L2
section
variable {prog:aS}{w:aR}{A:Around}{E:Value->ah->Prop}{s:ah}
def Hc{h h':Heap}{l it:Addr}{items:Array Value}(hl:h.IsList l items)(hk:∀b o,b≠it->h.get? b=some o->h'.get? b=some o)(bS:l≠it):h'.IsList l items:=by
 obtain⟨o,e,r⟩:=hl
 exact⟨o,hk l o bS e,r⟩
def Pp{it t:Addr}{items:Array Value}(bS:t≠it):∀(n i:Nat) (s:ah) (Q:List Value->ah->Prop),s.heap.IsListIter it t i->s.heap.IsList t items->i+n<=items.size ->
 (∀h',h'.IsListIter it t (i+n)->su it s.heap h'->Q ((items.toList.drop i).take n) { s with heap:=h' })->au (aD prog w) A (draw (.ref it) n) Q E s
 | 0,i,s,Q,hit,_,_,hQ=>by
   show au _ _ (pure []) Q E s
   exact bR (by simpa using hQ s.heap hit (a6j ..))
 | n+1,i,s,Q,hit,ht,hle,hQ=>by
   have cW:i<items.size:=by lia
   show au _ _ (qN (.ref it)>>=_) Q E s
   refine aI (a4b hit ht (x:=items[i]) (by simp[cW]) λdQ Hd za=>?_)
   refine aI (jE (Pp bS n (i+1) _ _ Hd (Hc ht (λb o hb e=>za.extBut b o hb e) bS) (by lia) λmr a0g a0h=>bR ?_))
   have hd:items.toList.drop i=items[i]::items.toList.drop (i+1):=by simp[KC,cW]
   have:=hQ mr (by rw[show i+(n+1)=i+1+n by lia];exact a0g) (za.trans a0h)
   rw[hd,S0] at this
   exact this
def y2k{t:Addr}{items:Array Value}{Q:List Value->ah->Prop}(hh:A.handled=none)(ht:s.heap.IsList t items)
 (hQ:∀h',Heap.ExtBut s.heap.objs.size s.heap h'->Q items.toList { s with heap:=h' }):au (aD prog w) A (unpackItems (.ref t) items.size none) Q E s:=by
 have cW:t≠s.heap.objs.size:=by obtain⟨o,ho,_⟩:=ht;exact dM (bX ho)
 have Pq:∀o:Obj,(s.heap.push o).IsList t items:=λo=>Hc (it:=s.heap.objs.size) ht (λb u _ e=>dE _ e) cW
 unfold unpackItems
 refine aI ?_
 ·unfold notIterableAtAll
  refine aI (z9 ht.typeIs slot_list_iter.lookup ?_)
  refine bR ?_
  simp only[oU,if_false]
  refine aI (jE (C2 ht ?_))
  refine aI (jE (Pp cW items.size 0 _ _ ⟨_,gf _ rfl,rfl,rfl⟩ (Pq _) (by lia) λdQ Hd za=>?_))
  have sT:List.take items.size (List.drop 0 items.toList)=items.toList:=by
   rw[zM];exact zL (by simp)
  rw[sT]
  rw[if_neg (by simp)]
  have a0i:dQ.IsList t items:=Hc (Pq _) (λb o hb e=>za.extBut b o hb e) cW
  refine aI (jE (a4c hh Hd a0i (by simp) λmr a0j=>?_))
  simp only[Option.isSome_none,oU,if_false]
  refine bR (hQ mr λb o hb e=>a0j b o hb (za.extBut b o hb (dE _ e)))
def y2d{env:Env}{elts:List Expr}{x1}{pos:Pos}{t:Addr}{items:Array Value}{Q:Unit->ah->Prop}(hh:A.handled=none)(ht:s.heap.IsList t items)
 (hn:(nU elts env).length=items.size) (a0k:(nU elts env).findIdx? (·.1)=none)
 (h:∀h',Heap.ExtBut s.heap.objs.size s.heap h'->au (aD prog w) A (R9 ((nU elts env).map (·.2)) items.toList) Q E { s with heap:=h' }) :
 au (aD prog w) A (kI (.Tuple elts x1 pos) env (.ref t)) Q E s:=by
 rw[assign_Tuple]
 refine aI (zZ ?_)
 unfold unpack
 rw[hn,a0k]
 exact aI (jE (y2k hh ht h))
end
def ud:List Nat->List V->St->St
 | i::is,v::vs,σ=>ud is vs (σ.set i (some v))
 | _,_,σ=>σ
def Rel.lZ{K:aE}{H:Hp}{F:List Addr}:∀(is:List Nat) (ds:List D) (vs:List V) (Γ:G) (σ:St),aq K (aH F H) ds vs->Rel K H F Γ σ->Rel K H F (L3.lZ is ds Γ) (ud is vs σ)
 | [],_,_,Γ,σ,_,r=>by unfold L3.lZ ud;exact r
 | _::_,[],vs,Γ,σ,h,r=>by rw[aq.jq.mp h];unfold L3.lZ ud;exact r
 | i::is,d::ds,vs,Γ,σ,h,r=>by
   obtain⟨x,xs,rfl,hx,t⟩:=aq.i_.mp h
   unfold L3.lZ ud
   exact Rel.lZ is ds xs _ _ t (r.yS hx)
section
variable {X:Cx}{e:Expr}{g:G->R D}{pos pt:Pos}
end
def He:List Value:=[.type "ValueError",.type "Exception",.type "BaseException",.type "object"]
def w9e(h:Heap)(C:Addr):Prop:=∃bm N nm q bs hdct sn sub ab col dd k0 k1 k2 k3 k5 mN,h.get? C=some (excClassObj nm q C N bs bm hdct sn sub ab col dd k0 k1 k2 k3 k5 "ValueError.__new__")/\h.Ns N mN/\mN "__init__"=none/\OwnTail h He bm
def x8n{K:aE}{h:Heap}{C:Addr}(X:K.In h)(q:To K C He "ValueError.__new__"=true):w9e h C:=by
 unfold To at q
 cases e:K.lookup C with
 | none=>rw[e] at q;cases q
 | some o =>
   rw[e] at q
   obtain⟨cls,dd,data,sl⟩:=o
   split at q
   ·rename_i heq
    obtain⟨rfl,rfl,rfl,rfl⟩:cls=_/\dd=_/\data=_/\sl=_:=by
     have z:=mD heq
     injection z with z1 z2 z3 z4
     exact⟨z1,z2,z3,z4⟩
    split at q
    ·rename_i hm hs
     rename_i cd xa xb C' bm k0 k1 k2 k3 n k5
     simp only[i0,beq_iff_eq,Bool.not_eq_true'] at q
     obtain⟨⟨⟨⟨⟨q1,q2⟩,q3⟩,q4⟩,q5⟩,q6⟩:=q
     obtain⟨nm,bs,mro,ns,qn,hd,sn,sub,ab,col,del⟩:=cd
     subst q1 q2
     have h1:mro = .ref C'::bm:=hm
     have h2:del=false:=q3
     subst h1 h2
     have h3:sl=#[k0,k1,k2,k3,some (.builtin "ValueError.__new__"),k5]:=by
      cases sl with | mk l=>exact congrArg Array.mk hs
     subst h3
     exact⟨bm,ns,nm,qn,bs,hd,sn,sub,ab,col,dd,k0,k1,k2,k3,k5,_,X _ _ e,.of_isNs (PySem.W.isNs_of_in X q5),PySem.W.nsMap_none_of_in X q5 q6,PySem.W.tail_of_in X q4⟩
    ·cases q
   ·cases q
structure oI (K:aE) (mg:Str->Option Value) (c:Er) (C:Addr):Prop where
 ns:ir K dw c.nm=some (some (.ref C))
 mg:mg c.nm=some (.ref C)
 ex:To K C He "ValueError.__new__"=true
section
variable {X:Cx}{e:Expr}{g:G->R D}{pos np cL:Pos}
def v0q{pins:List (Addr×Obj)}{σ:St}{H:Hp}{s:ah}{q:Addr}(I:Inv X pins σ H s)(hq:s.heap.get? q=none):H q=none:=by
 cases e:H q with
 | none=>rfl
 | some o=>obtain⟨ob,h⟩:=Pd (I.aN q o e);rw[hq] at h;cases h
def jj{c:Er}{C:Addr}{x:Str}{d:D}(hX:oI X.K X.mg c C)(he:PD X e (gC d))(hc:X.calm=true)(hex:X.ex=[]:=by rfl)(hxn:x=c.nm:=by rfl)(hg:Gl X x:=by rfl)(gN:(x==("__debug__":Str))=false:=by decide)
 (hs:aT [e] X.env=(false,eval e X.env)::aT [] X.env:=by rfl):PQ X (.Raise (some (.Call (.Name x np) [e] [] cL)) none pos) (iw c):=by
 refine⟨λpins s σ H F Γ I fo rl _=>?_⟩
 subst hxn
 obtain⟨bm,N,nm,q,bs,hdct,sn,sub,ab,col,dd,k0,k1,k2,k3,k5,mN,hC,hN,hni,T⟩:=x8n I.mod.oW hX.ex
 refine wpAny_Raise_call_subT (C:=C) (nm:=nm) (q:=q) (N:=N) (bs:=bs) (bm:=bm) (hdct:=hdct) (sn:=sn) (sub:=sub) (ab:=ab) (col:=col) (dd:=dd) (k0:=k0) (k1:=k1) (k2:=k2) (k3:=k3) (k5:=k5)
  PySem.F.excBase_ValueError (mN:=mN) (T.hasType PySem.F.excBase_ValueError.hasBase) (I.ok.hd hc) (by rw[hs];rfl) hni (nX I hg hX.mg ⟨rfl,?_⟩ gN)
 rw[hs]
 refine xg (fT (az (he.run pins s σ H F Γ I fo rl (λz=>nomatch z)) (λu s1 ⟨d',v,H1,e1,I1,r1,S1,i1⟩=>iJ ?_) λx s1 ⟨c',H',e',_⟩=>by cases e'))
 refine⟨rfl,by show 1<=b5;decide,I1.bk _ _ hC,hN.keeps I1.bk,T.keeps I1.bk,λh' en M=>?_⟩
 obtain⟨t,hte,ht0,ht1⟩:=M.there
 have I2:Inv X pins σ H1 { s1 with heap:=h' }:=I1.kept (t':=s1.toks) λb o q=>M.keeps b o q
 obtain⟨g1,g2,g3,g4⟩:=I1.gone hex M.new
 exact⟨c,Γ,σ,H1,F,rfl,⟨I2,en,C,_,_,rfl,hX.mg,v0q I1 M.new,g1,g2,g3,g4,hte,rfl,rfl,⟨_,rfl⟩,.inl rfl⟩,fo.same S1,rl.same S1,.of_same S1⟩
end
section
variable {K:aE}{M:oK}{A:Around}{E:Value->ah->Prop}{s:ah}
def y7f{e B C:Addr}{oe:Obj}{Q:Bool->ah->Prop}(X:K.In s.heap)(he:s.heap.get? e=some oe)(hc:oe.cls = .ref C)(h1:a6k K (.ref B)=some (.type "type"))(h2:(KO K B).isSome=true)
 (h3:uv K B (.type "BaseException")=some true) (h4:uv K C (.ref B)=some true) (hq:Q true s):au M A (excMatches (.ref e) (.ref B)) Q E s:=by
 obtain⟨h,g,d,t,os⟩:=s
 have L1:=PySem.W.looks_typeIn (M:=M) X h1
 have L3:=KP (M:=M) X h3
 have L4:=KP (M:=M) X h4
 have f:=tc_notTuple
 obtain⟨c',d',cd,qY,hB⟩:∃c' d' cd qY,h.get? B=some ⟨c',d',.cls cd,qY⟩:=by
  unfold KO at h2
  split at h2
  ·rename_i ho;exact⟨_,_,_,_,X _ _ ho⟩
  ·cases h2
 unfold excMatches
 repeat (first | (with_reducible refine xh he ?_;rw[hc]) | with_reducible refine xh hB ?_ | with_reducible refine L1.at ?_ | with_reducible refine L3.at ?_ | with_reducible refine L4.at ?_ | wp_step)
 exact hq
end
structure ke (K:aE) (C:Addr):Prop where
 ga:uu K (.ref C) "__getattribute__"=some (some (.builtin "BaseException.__getattribute__"))
 gn:uu K (.ref C) "__getattr__"=some none
 cl:uu K (.ref C) "__class__"=some (some (.builtin "object.__class__"))
 mo:uv K C (.type "object")=some true
 mb:uv K C (.type "BaseException")=some true
 ty:a6k K (.ref C)=some (.type "type")
 is:(KO K C).isSome=true
section
variable {K:aE}{prog:aS}{w:aR}{A:Around}{E:Value->ah->Prop}{s:ah}{a C:Addr}{o:Obj}
def x9w{R:mE->ah->Prop}(X:K.In s.heap)(Y:ke K C)(hx:s.heap.get? a=some o)(hc:o.cls = .ref C)(h:R (.ok (.ret (.ref C))) s) :
 jl (aD prog w) A (.call (.builtin "getset_descriptor.__get__") ⟨[.builtin "object.__class__",.ref a,.ref C],[]⟩) R s:=by
 obtain⟨hh,g,d,t,os⟩:=s
 have vS:(⟨hh,g,d,t,os⟩:ah).TypeIs (.builtin "object.__class__") "getset_descriptor":=Tp
 have L1:=KP (M:=aD prog w) X Y.mo
 refine Tq F.slot_gs_get.plain F.entry_gs_get (F.slot_gs_get.check _ _ _ _ _ _ _ _ vS (F.args_gs_get _ _ _) ?_)
 repeat (any_goals (first | assumption | (with_reducible refine xh hx ?_;rw[hc]) | with_reducible refine L1.at ?_ | wp_step))
 rw[show(".".intercalate ("object.__class__".cutAt '.').dropLast)="object" by decide +kernel]
 refine L1.at ?_
 repeat (any_goals (first | assumption | wp_step))
 refine⟨a6l _ (by decide +kernel),C6 F.entry_object_class ?_⟩
 repeat (any_goals (first | assumption | (with_reducible refine xh hx ?_;rw[hc]) | wp_step))
def x2y{Pr:Value}{Q:Unit->ah->Prop}(X:K.In s.heap)(Y:ke K C)(hx:s.heap.get? a=some o)(hc:o.cls = .ref C)(hq:Q () s):au (aD prog w) A (Tr "BaseException.__getattribute__" ⟨[.ref a,Pr],[]⟩) Q E s:=by
 obtain⟨hh,g,d,t,os⟩:=s
 have hk:builtinKind "BaseException.__getattribute__"=some .slot:=by decide +kernel
 have Hf:splitId "BaseException.__getattribute__"=some ("BaseException","__getattribute__"):=by decide +kernel
 have L1:=KP (M:=aD prog w) X Y.mb
 have ha:=F.args_bexc_ga (.ref a) Pr
 simp only[Tr,hk,Hf]
 refine aI ?_
 unfold isInstance
 repeat (first | (with_reducible refine xh hx ?_;rw[hc]) | with_reducible refine L1.at ?_ | wp_step)
 exact hq
def x2x{tk:Tok}{Q:Fin->ah->Prop}(X:K.In s.heap)(Y:ke K C)(hx:s.heap.get? a=some o)(hc:o.cls = .ref C)(hq:Q (.done (.ret (.ref C))) s) :
 au (aD prog w) A (Builtin.«object.__getattribute__» ⟨[.ref a,.str "__class__" tk],[]⟩) Q E s:=by
 obtain⟨hh,g,d,t,os⟩:=s
 have vS:(⟨hh,g,d,t,os⟩:ah).TypeIs (.builtin "object.__class__") "getset_descriptor":=Tp
 have f5:=Tp
 have f6:=F.slot_gs_get.lookup
 have f7:=F.slot_gs_set.lookup
 have L1:=Ts (M:=aD prog w) X Y.cl
 repeat (any_goals (first | assumption | (with_reducible refine xh hx ?_;rw[hc]) | with_reducible refine L1.at ?_ | wp_step))
 refine x9w X Y hx hc ?_
 repeat (any_goals (first | assumption | wp_step))
def x4y{tk:Tok}{R:mE->ah->Prop}(X:K.In s.heap)(Y:ke K C)(hx:s.heap.get? a=some o)(hc:o.cls = .ref C)(hq:R (.ok (.ret (.ref C))) s) :
 jl (aD prog w) A (.call (.builtin "BaseException.__getattribute__") ⟨[.ref a,.str "__class__" tk],[]⟩) R s :=
 Tq PySem.F.attr_ValueError.ga.plain F.entry_bexc_ga (x2y X Y hx hc (x2x X Y hx hc hq))
def x4z{Q:Option Value->ah->Prop}(X:K.In s.heap)(Y:ke K C)(hx:s.heap.get? a=some o)(hc:o.cls = .ref C)(hq:Q (some (.ref C)) { s with toks:=s.toks+1 }) :
 au (aD prog w) A (getAttr? (.ref a) "__class__") Q E s:=by
 obtain⟨hh,g,d,t,os⟩:=s
 have f3:=PySem.F.attr_ValueError.ga.bind (.ref a)
 have L1:=Ts (M:=aD prog w) X Y.ga
 have L2:=Ts (M:=aD prog w) X Y.gn
 have B0:(Tt "BaseException.__getattribute__"==Tt "object.__getattribute__")=false:=by decide +kernel
 unfold getAttr? getAttrBy? getAttrBy
 repeat (any_goals (first | assumption | (with_reducible refine xh hx ?_;rw[hc]) | with_reducible refine L1.at ?_ | with_reducible refine L2.at ?_ | wp_step))
 refine x4y (s:=⟨hh,g,d,t+1,os⟩) X Y hx hc ?_
 repeat (any_goals (first | assumption | wp_step))
def Pt(Y:ke K C){h:Heap}(X:K.In h):∃c' d' cd qY,h.get? C=some ⟨c',d',.cls cd,qY⟩:=by
 have h2:=Y.is
 unfold KO at h2
 split at h2
 ·rename_i ho;exact⟨_,_,_,_,X _ _ ho⟩
 ·cases h2
def w1n(Y:ke K C):PySem.W.KitX K (.ref a) (.ref C) (λh=>∃o,h.get? a=some o/\o.cls = .ref C) where
 ty:=λM h _ p=>by
  obtain⟨o,h1,h2⟩:=p
  exact h2 ▸ (PySem.W.Looks.ld h1).andThen .now
 it:=λM h X _=>by
  obtain⟨c',d',cd,qY,ho⟩:=Pt Y X
  intro A' Q' E' s' k q
  unfold isType loadHead
  exact aI (wpAny_loadPart (k _ _ ho) (bR q))
 ne:=λh tp dd its n sl X htp=>by
  obtain⟨c',d',cd,qY,ho⟩:=Pt Y X
  refine Bool.eq_false_iff.mpr λq=>?_
  have e:C=tp:=Value.ref.inj (beq_iff_eq.mp q)
  subst e
  have z:=ho.symm.trans htp
  cases z
 ca:=λX p k=>by
  obtain⟨o,h1,h2⟩:=p
  exact x4z X Y h1 h2 k
end
def Hg(X:Cx)(y:Str)(cv:Value):Prop:=∀{E:Value->ah->Prop} {pins:List (Addr×Obj)} {σ:St} {H:Hp} {s:ah} {Q:Value->ah->Prop} {py:Pos},Inv X pins σ H s->Q cv s->au (aD X.prog X.w) X.A (eval (.Name y py) X.env) Q E s
def B_{X:Cx}{y:Str}{D:Addr}(hm:X.mg y=some (.ref D))(hg:Gl X y:=by rfl)(hd:(y==("__debug__":Str))=false:=by decide):Hg X y (.ref D):=λI q=>nX I hg hm q hd
def Pu{X:Cx}{y:Str}{v:Value}(hm:X.mg y=none)(hv:lA y=some v)(hg:Gl X y:=by rfl)(hn:y≠"__name__":=by decide)(hd:(y==("__debug__":Str))=false:=by decide):Hg X y v:=λI q=>iu I hg hm hv q hn hd
def ue(K:aE)(cv:Value)(k:Cl):Prop:=∀c C,ir K dw c.nm=some (some (.ref C))->ke K C/\z8 K (.ref C) cv=some (rn c k)
section
variable {X:Cx}{pos p pn:Pos}
def vY(i:Nat){n y:Str}{py:Pos}{cv:Value}{k:Cl}(hb:Hg X y cv)(hk:ue X.K cv k)(hm:X.mg "isinstance"=none)(ha:PD X (.Name n pn) (gV i))(hg:Gl X "isinstance":=by rfl)
 (he:aT [.Name n pn,.Name y py] X.env=(false,eval (.Name n pn) X.env)::(false,eval (.Name y py) X.env)::[]:=by rfl) (gu:(cH pos (aT [.Name y py] X.env)).any (·.1)=false:=by rfl) (tU:aT [.Name y py] X.env=[(false,eval (.Name y py) X.env)]:=by rfl) :
 PD X (.Call (.Name "isinstance" p) [.Name n pn,.Name y py] [] pos) (rp i [k]):=by
 refine⟨λpins s σ H F Γ I fo rl bW=>?_⟩
 refine kL (iu I hg hm (by decide +kernel:lA "isinstance"=some (.builtin "isinstance")) ?_ (by decide) (by decide))
 refine Kz ?_ (by rw[he,tU]) gu
 rw[he]
 show au _ _ (e9 ((false,eval (.Name n pn) X.env)::cH pos [(false,eval (.Name y py) X.env)])) _ _ s
 refine fT (az (ha.run pins s σ H F Γ I fo rl (R.left bW)) (λu s1 ⟨d,v,H1,e1,I1,r1,S1,i1⟩=>?_) λ_ _ x=>x.bind _)
 show au _ _ (e9 ((false,eval (.Name y py) X.env)::cH pos [])) _ _ s1
 refine fT (hb I1 (iJ ?_))
 have aM:=R.next bW e1
 cases d with
 | exc c =>
   obtain⟨en,oe,C,rfl,h1,h2,h3⟩:=Is.OS.mp i1
   cases (show u=fF en from r1)
   have ho:s1.heap.get? en=some oe:=(I1.aN en _ h1).1
   obtain⟨Y,hkk⟩:=hk c C h3
   refine uL (w1n Y) I1.gH ⟨oe,ho,h2⟩ hkk (λz=>nomatch z) λtk=>?_
   refine du.bind e1 S1 ⟨.bl (rn c k),.bl (rn c k),H1,?_,I1.tok _,rfl,.refl _,Is.gD.mpr rfl⟩
   show R.ok (D.bl ([k].any (rn c)))=_
   rw[wR,S8,Kc]
 | _=>exact absurd rfl aM
structure PCl (X:Cx) (es:List Expr) (vs:List Value):Prop where
 run:∀{E:Value->ah->Prop} {pos:Pos} {pins:List (Addr×Obj)} {σ:St} {H:Hp} {s:ah} {Q:List Value->ah->Prop},Inv X pins σ H s->Q vs s->au (aD X.prog X.w) X.A (e9 (cH pos (aT es X.env))) Q E s
def Pw{e:Expr}{g:G->R D}(he:PD X e g)(hs:pY e none pos.line X.env=pure false:=by rfl):PQ X (.Expr e pos) (vc g):=⟨λpins s σ H F Γ I fo rl hg =>
 C5 (az (he.run pins s σ H F Γ I fo rl (jM hg)) (λu s1 ⟨d,v,H',e1,I',rv,S,i⟩=>⟨Γ,jv e1,σ,H',F,I',fo.same S,rl.same S,.of_same S⟩) λ_ _ x=>x.lift fo rl _) I.quiet hs⟩
def mk(X:Cx)(v:Value):Cx:={ X with A:=X.A.mark (some v),calm:=false }
def v0a{v:Value}(o:X.Ok):(mk X v).Ok where
 mod:=o.mod
 kind:=o.kind
 glob:=o.glob
 blt:=o.blt
 above:=o.above
 inj:=o.inj
 has:=o.has
 qX:=o.qX
 hd:=λz=>by cases z
 frames:=o.frames
 sM:=o.sM
 xq:=o.xq
 bs:=o.bs
 kl:=o.kl
 p4:=o.p4
 sN:=o.sN
 j4:=o.j4
 lJ:=o.lJ
def Px{v:Value}{pins:List (Addr×Obj)}{σ:St}{H:Hp}{s:ah}(I:Inv X pins σ H s):Inv (mk X v) pins σ H s:=⟨v0a I.ok,I.os,I.bare,I.base,I.loc,I.cell,I.free,I.j5,I.pin,I.aN,I.len⟩
def w8m{v:Value}{pins:List (Addr×Obj)}{σ:St}{H:Hp}{s:ah}(o:X.Ok)(I:Inv (mk X v) pins σ H s):Inv X pins σ H s:=⟨o,I.os,I.bare,I.base,I.loc,I.cell,I.free,I.j5,I.pin,I.aN,I.len⟩
def x9z{M:oK}{A:Around}{E:Value->ah->Prop}{i:Nat}{n:Str}{zb:Pos}{pins:List (Addr×Obj)}{σ:St}{H:Hp}{s:ah}{Q:Unit->ah->Prop}(I:Inv X pins σ H s)(hN:X.N.Nodup)(hi:X.N[i]? = some n)(hk:X.env.kindOf n=some .local)
 (h:∀s',Inv X pins (σ.set i none) H s'->Q () s'):au M A (do bindName X.env n .none;unbindBehindTheSuite X.env n zb) Q E s:=by
 obtain⟨m,hn,hl⟩:=id I.loc
 have Dj:(X.env.scope.kind == .class||(X.env.scope.kind == .module&&X.env.locals != X.env.globals))=false:=by rw[I.ok.kind];rfl
 have Ak:i<σ.length:=by rw[I.len];exact(List.getElem?_eq_some_iff.mp hi).1
 have nW:=I.nW
 refine wpAny_nameGoes_keeps hk hn Dj λh' v gI hs=>h _ ?_
 have vZ:∀{b:Addr} {o:Obj},X.s₀.heap.get? b=some o->b≠X.env.locals:=λe=>dM (dc (bX e) I.ok.above)
 have Py:∀{c:Addr} {u:HO},H c=some u->c≠X.env.locals:=λe z=>by rw[z,I.free] at e;cases e
 refine⟨I.ok,I.os,I.bare,⟨λb o e q hb hx=>(hs.2 b (vZ e)).trans (I.base.keep b o e q hb hx),λb o e q hb hx=>?_,I.base.free,λb o e hx=>?_,I.base.kM,I.base.kj,I.base.kN⟩,⟨_,gI,λj y v' e1 e2 e3=>?_⟩,λy c e=>?_,I.free,I.j5,λp hp=>?_,λb u e=>?_,by simpa using I.len⟩
 ·obtain⟨sl,e1⟩:=I.base.slot b o e q hb hx
  exact⟨sl,(hs.2 b (vZ e)).trans e1⟩
 ·obtain⟨o',e1⟩:=I.base.there b o e hx
  exact⟨o',(hs.2 b (vZ e)).trans e1⟩
 ·by_cases hj:j=i
  ·subst hj
   rw[iq Ak] at e2
   cases e2
  ·rw[eZ (eA hj)] at e2
   obtain⟨u',r',q⟩:=hl j y v' e1 e2 e3
   refine⟨u',r',?_⟩
   rcases q with ⟨k,e⟩ | ⟨k,c,e,z⟩
   ·refine .inl ⟨k,?_⟩
    have:y≠n:=λe=>hj (Dh hN e1 (e ▸ hi))
    simp[this,e]
   ·exact .inr ⟨k,c,e,z.sameBut hs (nW y c e)⟩
 ·obtain⟨w',z⟩:=I.cell y c e
  exact⟨w',z.sameBut hs (nW y c e)⟩
 ·obtain⟨e,q,ne,nf,d⟩:=I.pin p hp
  exact⟨(hs.2 p.1 ne).trans e,q,ne,nf,d⟩
 ·refine(I.aN b u e).lH (λc w' hc q=>(hs.2 c ?_).trans q) (λ_ q=>q) λ_ _ q=>q
  rcases hc with rfl | hc
  ·exact Py e
  ·exact Py hc
def Rel.unset{K:aE}{H:Hp}{F:List Addr}{Γ:G}{σ:St}(i:Nat)(r:Rel K H F Γ σ):Rel K H F (Γ.set i .no) (σ.set i none) where
 len:=by rw[gp,gp];exact r.len
 ro:=λj d h=>by
  by_cases hj:i=j
  ·subst hj
   by_cases hl:i<Γ.length
   ·rw[iq hl] at h;cases h
   ·rw[jY (by rw[gp];lia)] at h;cases h
  ·rw[eZ hj] at h ⊢;exact r.ro j d h
 own:=λj ds h=>by
  by_cases hj:i=j
  ·subst hj
   by_cases hl:i<Γ.length
   ·rw[iq hl] at h;cases h
   ·rw[jY (by rw[gp];lia)] at h;cases h
  ·rw[eZ hj] at h ⊢;exact r.own j ds h
 inj:=λj k ds es a h1 h2 h3 h4=>by
  have key:∀(j:Nat) ds,(Γ.set i .no)[j]? = some (.own ds)->i≠j:=λj ds h hj=>by
   subst hj
   by_cases hl:i<Γ.length
   ·rw[iq hl] at h;cases h
   ·rw[jY (by rw[gp];lia)] at h;cases h
  have n1:=key j ds h1
  have n2:=key k es h2
  rw[eZ n1] at h1 h3
  rw[eZ n2] at h2 h4
  exact r.inj j k ds es a h1 h2 h3 h4
end
section
variable {X:Cx}{pos np zb:Pos}
def x7z{pins:List (Addr×Obj)}{σ:St}{H:Hp}{s:ah}{e:Addr}{oe:Obj}(I:Inv X pins σ H s)(hn:H e=none)(he:s.heap.get? e=some oe)(h0:X.s₀.heap.get? e=none)(hL:e≠X.env.locals)(hc:∀y k,X.env.cells.lookup y=some k->k≠e)(hp:∀p∈X.pn++pins,p.1≠e) :
 Inv X pins σ (upd H e (.gX oe (.own 0))) s:=by
 have ne:∀{b:Addr} {o:HO},H b=some o->b≠e:=λq z=>by rw[z,hn] at q;cases q
 refine⟨I.ok,I.os,I.bare,⟨I.base.keep,I.base.slot,λb o q1 q2 q3=>?_,I.base.there,?_,?_,?_⟩,I.loc,I.cell,?_,λy k q=>?_,λp q=>?_,GC I.aN hn ⟨he,_,he⟩,I.len⟩
 ·rw[bM λz=>by rw[z,h0] at q1;cases q1];exact I.base.free b o q1 q2 q3
 ·intro b o q;have:=I.base.kM b o q;rw[bM (ne this)];exact this
 ·intro b o u q;have:=I.base.kj b o u q;rw[bM (ne this)];exact this
 ·intro b ps q;obtain⟨more,this⟩:=I.base.kN b ps q;exact⟨more,by rw[bM (ne this)];exact this⟩
 ·rw[bM (eA hL)];exact I.free
 ·rw[bM (hc y k q)];exact I.j5 y k q
 ·obtain⟨z1,z2,z3⟩:=I.pin p q
  exact⟨z1,by rw[bM (hp p q)];exact z2,z3⟩
structure a0l (X:Cx) (B:Addr):Prop where
 cl:ke X.K B
 ns:∀(c:Er) (C:Addr),X.mg c.nm=some (.ref C)->ir X.K dw c.nm=some (some (.ref C))/\uv X.K C (.ref B)=some true
def Pz(i:Nat){n x:Str}{B L:Addr}{PA:Stmt}{body PB:List Stmt}{t u:G->R Fl}(hE:a0l X B)(hB:X.mg x=some (.ref B))(hb:jT X body t)(hu:∀v,jT (mk X v) (PA::PB) u)(hN:X.N.Nodup)
 (hi:X.N[i]? = some n:=by rfl) (hk:X.env.kindOf n=some .local:=by rfl) (hx:Loc X.env.scope n:=by first | exact gq rfl | exact dX rfl) (hf:X.fn n=true∨X.env.scope.names.lookup n=some .local:=by first | exact .inl rfl | exact .inr rfl)
 (hex:X.ex=[]:=by rfl) (nJ:X.stack=X.env::X.outer:=by rfl) (ji:X.env.frame=some L:=by rfl) (hg:Gl X x:=by rfl) (gN:(x==("__debug__":Str))=false:=by decide) :
 PQ X (.Try body [.ExceptHandler (some (.Name x np)) (some n) (PA::PB) zb] [] [] pos) (rC i t u):=by
 refine⟨λpins s σ H F Γ I fo rl bW=>?_⟩
 have hgt:=R.left bW
 refine a6m (az (hb.run pins s σ H F Γ I fo rl hgt) (λf s1 q=>?_) λxe s1 q=>?_)
 ·cases f with
  | next=>obtain⟨Γ',e,r⟩:=q;exact pX ⟨Γ',R.step e _,r⟩
  | brk=>obtain⟨Γ',e,r⟩:=q;exact⟨Γ',R.step e _,r⟩
  | cont=>obtain⟨Γ',e,r⟩:=q;exact⟨Γ',R.step e _,r⟩
  | ret v=>exact nG.map q .refl (λ_ _ I=>I) (λ_ e=>R.step e _) λ_ e=>R.step e _
 ·obtain⟨c,d8,lK,H1,F1,e1,fl1,fE,fS,E1⟩:=q
  have aM:=R.next bW e1
  have hgu:=R.left aM
  refine B5 hex nJ ji fl1 λs2 zc=>?_
  refine y9 (fr:=none) zc λs3 PC=>?_
  obtain⟨I3,e,C,oe,vs,rfl,k2,k3,k4,k5,k6,k7,k8,k9,jV⟩:=id PC
  obtain⟨mO,PH⟩:=hE.ns c C k2
  refine wpAny_handleBy_cons (codeAny_handlers_test (nX (X:=mk X (.ref e)) (Px I3) hg hB ?_ gN)) (by intro z;cases z)
  refine y7f I3.gH k8 k9 hE.cl.ty hE.cl.is hE.cl.mb PH ?_
  show jl _ _ _ _ s3
  refine codeAny_handlers_suite_as (y9 (fr:=none) PC λs4 fl4=>?_)
  obtain⟨I4,e',C',y8,G9,ee,m2,m3,m4,m5,m6,m7,m8,m9,m10⟩:=fl4
  cases ee
  have eC:C=C':=by rw[k2] at m2;cases m2;rfl
  subst eC
  have hS:aO H1 (upd H1 e (.gX y8 (.own 0))):=g7 m3 _
  have I4':=x7z I4 m3 m8 m4 m5 m6 m7
  have hF:e ∉ F1:=λz=>by obtain⟨ys,q⟩:=fE e z;rw[m3] at q;cases q
  refine uO (X:=mk X (.ref e)) (Px I4') hN hi hx (v:=.ref e) rfl (λs5 I5=>?_) hf
  have hIs:Is X.K (aH F1 (upd H1 e (.gX y8 (.own 0)))) (.exc c) (.ref e):=Is.OS.mpr ⟨e,y8,C,rfl,by rw[di hF];exact dj,m9,mO⟩
  refine az ((hu (.ref e)).run pins s5 _ _ F1 (d8.set i (.ro (.exc c))) I5 (fE.same hS) ((fS.same hS).yS hIs) hgu) (λf s6 q6=>?_) λx6 s6 q6=>?_
  ·cases f with
   | next =>
     obtain⟨Ca,e6,BY,H6,F6,I6,Hh,rl6,E6⟩:=q6
     refine x9z (w8m I.ok I6) hN hi hk λs7 I7=>?_
     exact⟨Ca.set i .no,(R.step e1 _).trans (R.step e6 _),_,H6,F6,I7,Hh,rl6.unset i,(E1.trans (.of_same hS)).trans E6⟩
   | brk=>obtain⟨Ca,e6,_⟩:=q6;exact absurd (by show(_>>=_)=_;rw[e6];rfl) aM
   | cont=>obtain⟨Ca,e6,_⟩:=q6;exact absurd (by show(_>>=_)=_;rw[e6];rfl) aM
   | ret v =>
     obtain⟨_,_,_,_,_,_,_,⟨d6,e6,_⟩ | ⟨d6,_,_,e6,_⟩⟩:=q6
     ·exact absurd (by show(_>>=_)=_;rw[e6];rfl) aM
     ·exact absurd (by show(_>>=_)=_;rw[e6];rfl) aM
  ·obtain⟨c6,Ca,BY,H6,F6,e6,_⟩:=q6
   exact absurd (by show(_>>=_)=_;rw[e6];rfl) aM
end
section
variable {X:Cx}{pos p pn:Pos}
end
section
variable {X:Cx}{e a b c:Expr}{g ga gb gc:G->R D}{pos pos':Pos}{es:List Expr}{gs:G->R (List D)}
end
section
variable {P:aS}{w:aR}{K:aE}{mg:Str->Option Value}{base:Heap}
def w8u{x qual:Str}{st:Stmt}{f:Addr}{fd:cB}{N ps:List Str}{k:Nat}(Fu:mP K x qual st f fd)(S:i7 N ps (ig st))(hb:km K fd ps []):g8 P w K mg base (k+1) f fd ps (λ_=>.no):=by
 refine⟨?_,hb,Fu.kp⟩
 obtain⟨oc,od,kV,doc,pm,an,a_,ct,p9,rfl,lk,dY⟩:=Fu.ex
 exact xD lk dY S (λvs H Q E h=>absurd rfl h.choose_spec.2.1) λA outer s H vs Q E hr eE=>absurd rfl eE.choose_spec.2.1
def w8t{x qual:Str}{st:Stmt}{f:Addr}{fd:cB}{N ps:List Str}{k:Nat}(Fu:mP K x qual st f fd)(S:i7 N ps (ig st))(hb:km K fd ps []):pF P w K mg base (k+1) f fd ps (λ_=>.no):=by
 refine⟨?_,hb,Fu.kp⟩
 obtain⟨oc,od,kV,doc,pm,an,a_,ct,p9,rfl,lk,dY⟩:=Fu.ex
 exact xD lk dY S (λvs H Q E h=>absurd rfl h.choose_spec.2.1) λA outer s H vs Q E hr eE=>absurd rfl eE.choose_spec.2.1
end
section
variable {X:Cx}{e a b c:Expr}{g ga gb gc:G->R D}{pos pos' p p2:Pos}{es:List Expr}{gs:G->R (List D)}{lo hi:Option Expr}{gl gh:G->R (Option Int)}
def w9n(K:aE):R2:=λx y H Q=>∃l b xs zs,x = .ref l/\y = .ref b/\cA K H l xs/\cA K H b zs/\xs.length+zs.length<=b5/\∀p,H p=none->Q (.ref p) (upd H p (.lst (xs++zs)))
def w5c:fH X (iI .Add) (w9n X.K):=by
 intro pins s σ H x y v u Q I rx ry h
 obtain⟨l,b,xs,zs,rfl,rfl,hH,hB,hz,q⟩:=h
 cases rx
 cases ry
 obtain⟨i1,r1,pl1,_⟩:=I.list hH
 obtain⟨i2,r2,pl2,_⟩:=I.list hB
 have n1:=r1.length
 have n2:=r2.length
 obtain⟨⟨c1,d1,t1,s1⟩,o1,k1,m1,j1⟩:=pl1.isList
 obtain⟨⟨c2,d2,t2,s2⟩,o2,k2,m2,j2⟩:=pl2.isList
 simp only at k1 j1 k2 j2
 subst k1 j1 k2 j2
 refine J2 ⟨_,o1,rfl⟩ ⟨_,o2,rfl⟩ noFill_list_add seq_list_add PySem.F.slot_list_add PySem.F.entry_list_add (PySem.F.args_list_add_2 _ _) (list_addW l b i1.toArray i2.toArray m1 m2 d1 d2 s1 s2 (by simp only[de];lia)) ⟨o1,o2,?_⟩
 have ea:i1.toArray++i2.toArray=(i1++i2).toArray:=by simp
 rw[ea]
 exact⟨.ref _,_,I.LF (t':=s.toks) (r1.append r2) (by rw[dN];lia),rfl,q _ I.fresh⟩
def sh(ha:PD X a ga)(hb:PD X b gb):PF X (.BinOp a .Add b pos) (kW ga gb):=by
 refine⟨λpins s σ H F Γ I fo rl hg=>?_⟩
 refine Ta (az (ha.run pins s σ H F Γ I fo rl (R.left hg)) (λv s1 ⟨dx,x,H1,e1,I1,r1,S1,i1⟩=>?_) λ_ _ x=>x.bind _)
 have aM:=R.next hg e1
 refine az (hb.run pins s1 σ H1 F Γ I1 (fo.same S1) (rl.same S1) (R.left aM)) (λu s2 ⟨dy,y,H2,e2,I2,r2,S2,i2⟩=>?_) λ_ _ x=>cw.later e1 S1 (x.bind _)
 have fL:=R.next aM e2
 have qv:=i1.same S2
 have key:∀xs ys,dx = .lst xs->dy = .lst ys->∃zx zy,x = .ref zx/\y = .ref zy/\∃vx vy,cA X.K H2 zx vx/\cA X.K H2 zy vy/\aq X.K H2 xs vx/\aq X.K H2 ys vy:=λxs ys q1 q2=>by
  subst q1 q2
  obtain⟨zx,vx,rfl,a1,a2⟩:=Is.fC.mp qv
  obtain⟨zy,vy,rfl,b1,b2⟩:=Is.fC.mp i2
  exact⟨zx,zy,rfl,rfl,vx,vy,a1,b1,a2,b2⟩
 have both:∃xs ys,dx = .lst xs/\dy = .lst ys:=by
  cases dx with
  | lst xs =>
    cases dy with
    | lst ys=>exact⟨xs,ys,rfl,rfl⟩
    | _=>exact absurd rfl fL
  | _=>cases dy<;>exact absurd rfl fL
 obtain⟨xs,ys,rfl,rfl⟩:=both
 obtain⟨zx,zy,rfl,rfl,vx,vy,a1,b1,a2,b2⟩:=key xs ys rfl rfl
 obtain⟨⟨hc,hn⟩,e3⟩:=R.cU (show R.guard (xs.length+ys.length<=1000/\D.bC (xs++ys)=true) (.ok (xs++ys)) ≠ .no from fL)
 have hz:vx.length+vy.length<=b5:=by rw[<-a2.length,<-b2.length];exact qu hc
 refine az (w5c (X:=X.bY) pins s2 σ H2 (.ref zx) (.ref zy) _ _ (λz H'=>∃l,z = .ref l/\H2 l=none/\H'=upd H2 l (.lst (vx++vy))) (I2.dB _) r1 r2 ⟨zx,zy,vx,vy,rfl,rfl,a1,b1,hz,λl hl=>⟨l,rfl,hl,rfl⟩⟩) (λu s' ⟨z,H',I',rz,l,ez,hl,eH⟩=>?_) λ_ _ z=>cx z
 subst ez eH
 have S3:=g7 hl (.lst (vx++vy))
 exact⟨xs++ys,l,vx++vy,_,(R.step e1 _).trans ((R.step e2 _).trans e3),I'.fw,rz,(S1.trans S2).trans S3,S1.free (S2.free hl),dj,aq.aH ((((fo.same S1).same S2).same S3).cons dj) _ _ hn ((a2.append b2).same S3)⟩
end
section
variable {X:Cx}{e a b c:Expr}{g ga gb gc:G->R D}{lo:Option Expr}{gl:G->R (Option Int)}{pos p2 p3:Pos}
end
section
variable {X:Cx}
def w8z:kx X (.type "int") dInt:=by
 refine⟨_,UK (X:=X.bY),λH xs ds i hg=>?_⟩
 unfold dInt at hg
 split at hg
 ·rename_i k
  obtain⟨v,rfl,h⟩:=jR i
  exact .inl ⟨k,by rw[Is.bZ.mp h],_,rfl,.refl _,Is.bZ.mpr rfl⟩
 ·rename_i k
  obtain⟨v,rfl,h⟩:=jR i
  exact .inr ⟨k,by rw[Is.gD.mp h],_,rfl,.refl _,Is.bZ.mpr rfl⟩
 ·exact absurd rfl hg
def w1g(hc:X.calm=true):i6 X (.builtin "max") (λxs H Q=>∃(a:Addr) (ns:List Int),xs=[.ref a]/\ns≠[]/\cA X.K H a (ns.map V.int)/\Q (.int (kY ns)) H):=by
 intro pins s σ H xs us Q I r h
 obtain⟨a,ns,rfl,bS,hq,q⟩:=h
 obtain⟨u,rfl,ru⟩:=mM r
 cases ru
 obtain⟨its,rv,pl,_⟩:=I.list hq
 have hi:uC its ns:=Lw rv
 obtain⟨ys,hy⟩:=hi.allInts.items
 have hl:=pl.isList
 rw[hy] at hl
 have hn:numsOf its.toArray.toList=ns:=by rw[show its.toArray.toList=its from rfl,hi.numsOf]
 rw[hy,nums_intItems] at hn
 have hlen:ys.size=ns.length:=by rw[<-hn,aX,qM]
 have zb:0<ys.size:=by rw[hlen];exact List.length_pos_iff.mpr bS
 refine max_intList (I.ok.hd hc) hl zb λv h' tk hv hk=>?_
 obtain⟨t,rfl⟩:=intItems_at hv
 obtain⟨h1,h2⟩:=argBest_gt (KQ ys) (ys.size-1)
 have em:KQ ys (argBest (λi j=>decide (KQ ys i>KQ ys j)) (ys.size-1))=kY ns:=by
  refine Mc ?_ λb hb=>?_
  ·rw[<-hn,numAt_eq];exact getD_mem (by rw[aX,qM];lia)
  ·rw[<-hn] at hb
   obtain⟨j,hj,rfl⟩:=mem_getD hb
   rw[aX,qM] at hj
   rw[<-numAt_eq];exact h2 j (by lia)
 rw[em]
 exact⟨.int (kY ns),H,I.kept hk,⟨t,rfl⟩,q⟩
def w6h(hc:X.calm=true):kx X (.builtin "max") vd:=by
 refine⟨_,i6.or (w1g (X:=X.bY) hc) (UI (X:=X.bY) hc),λH xs ds i hg=>?_⟩
 unfold vd at hg
 split at hg
 ·rename_i ys
  obtain⟨v,rfl,h⟩:=jR i
  obtain⟨a,zs,rfl,h1,h2⟩:=Is.fC.mp h
  cases q:mS ys with
  | none=>rw[q] at hg;exact absurd rfl hg
  | some ns =>
    cases ns with
    | nil=>rw[q] at hg;exact absurd rfl hg
    | cons n ns =>
      have:=DR q
      subst this
      rw[h2.Ge] at h1
      exact .inl ⟨a,n::ns,rfl,by simp,h1,_,by unfold vd;simp only[q],.refl _,Is.bZ.mpr rfl⟩
 ·rename_i i' j'
  obtain⟨v,v',rfl,h,h'⟩:=OX i
  exact .inr ⟨i',j',by rw[Is.bZ.mp h,Is.bZ.mp h'],_,rfl,.refl _,Is.bZ.mpr rfl⟩
 ·exact absurd rfl hg
end
section
variable {X:Cx}{e a b c:Expr}{g ga gb gc:G->R D}{lo:Option Expr}{st:Expr}{gl gt:G->R (Option Int)}{pos p2 p3:Pos}
end
section
variable {X:Cx}{a b:Expr}{pos:Pos}
end
section
variable {X:Cx}{e a b c:Expr}{g ga gb gc:G->R D}{pos pos' p p2:Pos}{es:List Expr}{gs:G->R (List D)}
def w1y{a b:Int}(ha:0<=a)(hb:0<=b)(h:b≥((Tu a:Nat):Int)):a/2^b.toNat=0:=by
 obtain⟨n,rfl⟩:=oR ha
 obtain⟨k,rfl⟩:=oR hb
 have hk:n<2^k:=by
  unfold Tu at h
  by_cases hn:n=0
  ·subst hn;exact a5e k
  ·rw[SV,if_neg (by simpa using hn)] at h
   exact(Nat.log2_lt hn).mp (by lia)
 rw[mG]
 exact a6h (SX n) (by exact_mod_cast hk)
def w7p:gE X (iI .RShift) DW:=BM (C:=λi j=>0<=i/\0<=j) (d:=λi j=>.int (i/2^j.toNat)) (λ_ _ _ _=>Is.bZ.mpr rfl) (v:=λi j=>.int (i/2^j.toNat)) (xy λi j _ _ _ _ _ hc q=>by
 have h1:(0:Int)<=i:=hc.1
 have h2:(0:Int)<=j:=hc.2
 by_cases hb:j≥((Tu i:Nat):Int)
 ·refine AutoIntOps.rshift_1 (by lia) hb ?_
  rw[if_neg (by lia),<-w1y h1 h2 hb]
  exact q
 ·refine AutoIntOps.rshift_2 (by lia) hb ?_
  rw[a4g i (Int.le_of_lt (Int.pow_pos (by lia)))]
  exact q)
def w4w{apos cL:Pos}(ha:PD X a ga)
 (ky:uJ a "bit_length" X.env (eval a X.env)=eval a X.env:=by rfl)
 (mx:((cH cL (aT [] X.env)).all (λx=>!x.1)&&(uw cL (ux [] X.env)).all (λx=>x.1.isSome)
   && decide (([]:List Expr).length+([]:List kK).length+(if ([]:List kK).isEmpty then 0 else 1)<30))=true:=by rfl)
 (kz:(apos.endLine==cL.line)=true:=by rfl) (hs:aT [] X.env=[]:=by rfl) :
 PD X (.Call (.Attribute a "bit_length" apos) [] [] cL) (y8t ga):=by
 refine⟨λpins s σ H F Γ I fo rl hg=>?_⟩
 refine xf ky mx kz rfl (az (ha.run pins s σ H F Γ I fo rl (R.left hg)) (λv s1 ⟨d,x,H1,e1,I1,r1,S1,i1⟩=>?_) λ_ _ x=>x.bind _)
 have aM:=R.next hg e1
 cases d with
 | int i =>
   rw[Is.bZ.mp i1] at r1
   obtain⟨t,rfl⟩:=r1
   refine⟨"int",_,PySem.F.plainAttrs_int,slot_int_bit_length,type_int_bit_length,typeIs_int _ _ _,(λ_ e=>nomatch e),?_⟩
   rw[hs]
   refine uK rfl ?_
   show au _ _ (evalArgs (Tt "int.bit_length") true [] []) _ _ s1
   refine PyProof.Rows.evalArgs_nil3 ?_
   exact call_int_bit_length (du.bind e1 S1 ⟨.int (xT i),.int (xT i),H1,rfl,I1.tok _,⟨_,rfl⟩,.refl _,Is.bZ.mpr rfl⟩)
 | _=>exact absurd rfl aM
end
section
variable {X:Cx}{e a b c:Expr}{g ga gb gc:G->R D}{pos pos' p p2:Pos}{es:List Expr}{gs:G->R (List D)}
structure si (X:Cx) (es:List Expr) (g:G->R (List D)):Prop where
 run:∀(pos:Pos) (pins:List (Addr×Obj)) (s:ah) (σ:St) (H:Hp) (F:List Addr) (Γ:G),Inv X pins σ H s->bL H F->Rel X.K H F Γ σ->g Γ ≠ .no ->
  au (aD X.prog X.w) X.A (e9 (cH pos (aT es X.env))) (λus s'=>∃ds vs H',g Γ = .ok ds/\Inv X pins σ H' s'/\Vals vs us/\aO H H'/\aq X.K (aH F H') ds vs) (cw X pins σ H (g Γ)) s
def iG:si X [] ao:=⟨λpos pins s σ H F Γ I fo rl hg=>iJ ⟨[],[],H,rfl,I,.nil,.refl _,aq.nil⟩⟩
def eQ(ha:ij X e g)(hr:si X es gs)(hs:aT (e::es) X.env=(false,eval e X.env)::aT es X.env:=by rfl):si X (e::es) (ae g gs):=by
 refine⟨λpos pins s σ H F Γ I fo rl hg=>?_⟩
 rw[hs]
 show au _ _ (e9 ((false,eval e X.env)::cH pos (aT es X.env))) _ _ s
 refine fT (az (ha.run pins s σ H F Γ I fo rl (R.left hg)) (λu s1 ⟨d,x,H1,e1,I1,r1,S1,i1⟩=>?_) λ_ _ x=>x.bind _)
 have aM:=R.next hg e1
 refine az (hr.run pos pins s1 σ H1 F Γ I1 (fo.same S1) (rl.same S1) (R.left aM)) (λus s2 ⟨ds,vs,H2,e2,I2,r2,S2,i2⟩=>?_) λ_ _ x=>cw.later e1 S1 (x.bind _)
 exact⟨d::ds,x::vs,H2,(R.step e1 _).trans (R.step e2 _),I2,.cons r1 r2,S1.trans S2,aq.cons (i1.same (iT S2)) i2⟩
def PJ{H:Hp}{F:List Addr}{q:Addr}(fo:bL H F)(h:H q=none):q ∉ F:=λz=>by
 obtain⟨ys,e⟩:=fo q z
 rw[h] at e;cases e
def PL{x1}(h:si X es gs):ij X (.Tuple es x1 pos) (d_ gs):=by
 refine⟨λpins s σ H F Γ I fo rl hg=>?_⟩
 refine a5o (az (h.run pos pins s σ H F Γ I fo rl (R.left hg)) (λus s1 ⟨ds,vs,H1,e1,I1,r1,S1,i1⟩=>?_) λ_ _ x=>x.bind _)
 have fL:=R.next hg e1
 obtain⟨hl,e2⟩:=R.cU fL
 have hz:vs.length<=b5:=by rw[<-i1.length];exact qu hl
 refine⟨by rw[<-r1.length];exact hz,?_⟩
 have hf:H1 s1.heap.objs.size=none:=I1.aN.fresh (a9 _)
 have S2:=g7 hf (.tup vs)
 have hF:=PJ (fo.same S1) hf
 refine⟨.tup ds,.ref s1.heap.objs.size,upd H1 s1.heap.objs.size (.tup vs),(R.step e1 _).trans e2,I1.laid (t':=s1.toks) (λb u e=>dE _ e) (a9 _) ?_,rfl,S1.trans S2,Is.fB.mpr ⟨_,vs,rfl,cC.of (by rw[di hF];exact dj),i1.same (iT S2)⟩⟩
 exact⟨hz,us,r1,⟨_,gf _ rfl,rfl,_,rfl⟩⟩
def PN(h:si X es gs):PF X (.List es pos) (y4b gs):=by
 refine⟨λpins s σ H F Γ I fo rl hg=>?_⟩
 refine a5p (az (h.run pos pins s σ H F Γ I fo rl (R.left hg)) (λus s1 ⟨ds,vs,H1,e1,I1,r1,S1,i1⟩=>?_) λ_ _ x=>x.bind _)
 have fL:=R.next hg e1
 obtain⟨hl,e2⟩:=R.cU fL
 have hz:vs.length<=b5:=by rw[<-i1.length];exact qu hl
 refine⟨by rw[<-r1.length];exact hz,?_⟩
 have hf:H1 s1.heap.objs.size=none:=I1.aN.fresh (a9 _)
 have S2:=g7 hf (.lst vs)
 have hH:H s1.heap.objs.size=none:=S1.free hf
 refine⟨ds,s1.heap.objs.size,vs,upd H1 s1.heap.objs.size (.lst vs),(R.step e1 _).trans e2,I1.laid (t':=s1.toks) (λb u e=>dE _ e) (a9 _) ?_,rfl,S1.trans S2,hH,dj,i1.same (Gf S2 hf)⟩
 exact⟨hz,us,0,r1,gf _ rfl⟩
def x6v{x:Str}(ha:si X [e] gs)(hm:X.mg x=none)(hv:lA x=some (.type "tuple"))(hg:Gl X x:=by rfl)(hn:x≠"__name__":=by decide)(gN:(x==("__debug__":Str))=false:=by decide)
 (he:aT [e] X.env=(false,eval e X.env)::aT [] X.env:=by rfl) (gu:(cH pos (aT [] X.env)).any (·.1)=false:=by rfl):ij X (.Call (.Name x p) [e] [] pos) (ay eK gs):=by
 refine⟨λpins s σ H F Γ I fo rl bW=>?_⟩
 refine kL (iu I hg hm hv ?_ hn gN)
 refine oV (az (ha.run pos pins s σ H F Γ I fo rl (R.left bW)) (λus s1 ⟨ds,vs,H1,e1,I1,r1,S1,i1⟩=>?_) λ_ _ x=>x.bind _) he gu
 have aM:=R.next bW e1
 have key:∃r:Prop,∃d0,ds=[d0]/\∃v,vs=[v]/\Is X.K (aH F H1) d0 v:=by
  unfold eK at aM
  split at aM
  ·obtain⟨v,rfl,h⟩:=jR i1;exact⟨True,_,rfl,v,rfl,h⟩
  ·obtain⟨v,rfl,h⟩:=jR i1;exact⟨True,_,rfl,v,rfl,h⟩
  ·exact absurd rfl aM
 obtain⟨_,d0,rfl,v,rfl,iv⟩:=key
 refine az (LC (X:=X.bY) pins s1 σ H1 [v] us (λz H'=>∃d,eK [d0] = .ok d/\aO H1 H'/\Is X.K (aH F H') d z) (I1.dB _) r1 ?_) (λw' s' ⟨z,H',I',rz,d,ed,S,iz⟩=>⟨d,z,H',(R.step e1 _).trans ed,I'.fw,rz,S1.trans S,iz⟩) λ_ _ z=>cx z
 cases d0 with
 | tup ys =>
   obtain⟨q,zs,rfl,h1,h2⟩:=Is.fB.mp iv
   exact⟨q,zs,rfl,.inr ⟨qq (jA (F:=F)) h1,.tup ys,rfl,.refl _,iv⟩⟩
 | lst ys =>
   obtain⟨q,zs,rfl,h1,h2⟩:=Is.fC.mp iv
   refine⟨q,zs,rfl,.inl ⟨aO.seq (jA (F:=F)) h1,λl hl=>?_⟩⟩
   have S:=g7 hl (.tup zs)
   have hF:=PJ (fo.same S1) hl
   exact⟨.tup ys,rfl,S,Is.fB.mpr ⟨l,zs,rfl,cC.of (by rw[di hF];exact dj),h2.same (iT S)⟩⟩
 | _=>exact absurd rfl aM
end
def Hi(N:List Str)(env:Env)(x0 y:Str)(scope:dz):Bool :=
 decide (scope.kind = .function)&&scope.names.all (λp=>decide (p.2 ≠ .cell)&&(decide (p.2 ≠ .local)||decide (scope.names.lookup p.1=some .local))&&(decide (p.2 ≠ .free)||((env.cells.lookup p.1).isSome&&(decide (env.scope.names.lookup p.1=some .cell)||decide (env.scope.names.lookup p.1=some .free)))))
  && decide (scope.names.lookup x0=some .local/\scope.names.lookup y=some .local/\x0≠y/\(x0 ∉ N∨y ∉ N))&&decide (scope.names.lookup (("":Str))=none)&&N.all (λz=>decide (scope.names.lookup z≠some .local)||decide (z=x0∨z=y))&&decide ((∀z∈N,z≠("":Str))∨(x0 ∉ N/\y ∉ N))
structure Cb (N:List Str) (env:Env) (x0 y:Str) (scope:dz):Prop where
 kind:scope.kind = .function
 r8:∀p∈scope.names,p.2 ≠ .cell
 names:∀p∈scope.names,p.2 = .local->scope.names.lookup p.1=some .local
 free:∀p∈scope.names,p.2 = .free->(∃c,env.cells.lookup p.1=some c)/\(env.scope.names.lookup p.1=some .cell∨env.scope.names.lookup p.1=some .free)
 loc:scope.names.lookup x0=some .local/\scope.names.lookup y=some .local/\x0≠y/\(x0 ∉ N∨y ∉ N)
 nil:scope.names.lookup (("":Str))=none
 only:∀z∈N,scope.names.lookup z=some .local->z=x0∨z=y
 none:(∀z∈N,z≠("":Str))∨(x0 ∉ N/\y ∉ N)
def x4u{N:List Str}{env:Env}{x0 y:Str}{scope:dz}(h:Hi N env x0 y scope=true):Cb N env x0 y scope:=by
 unfold Hi at h
 simp only[i0,mF,CZ,decide_eq_true_eq] at h
 obtain⟨⟨⟨⟨⟨h1,h2⟩,h3⟩,h4⟩,h5⟩,h6⟩:=h
 refine⟨h1,λp hp=>(h2 p hp).1.1,λp hp e=>((h2 p hp).1.2).resolve_left λz=>z e,λp hp e=>?_,h3,h4,λz hz e=>(h5 z hz).resolve_left λq=>q e,h6⟩
 have q:=((h2 p hp).2).resolve_left λz=>z e
 exact⟨Option.isSome_iff_exists.mp q.1,q.2⟩
def gR(X:Cx)(x0 y:Str)(scope:dz)(C:Addr)(ax:ah)(aB:Hp)(fp:List Addr)(pn:List (Addr×Obj)):Cx :=
 { X with N:=x0::y::X.N.map (λz=>if z=x0∨z=y then ("":Str) else z),s₀:=ax,H₀:=aB,env:=gU scope (cK X.env scope.names []) C X.env,outer:=X.stack,ex:=fp,fn:=λ_=>false,pn:=pn,xe:=λ_ _=>False }
def x4v{X:Cx}{x0 y:Str}{scope:dz}{C Dd:Addr}{fp:List Addr}{pins pl:List (Addr×Obj)}{σ aJ:St}{aB H':Hp}{ax s1:ah}{xs:List V}{its:List Value}{n:Nat}(I:Inv X pins σ aB ax)
 (J:Inv (gR X x0 y scope C ax aB fp (X.pn++pins)) pl aJ H' s1) (hD:ax.heap.objs.size<=Dd) (hn:H' Dd=none) (hd:s1.heap.get? Dd=some { cls:=.type "list",data:=.seq its.toArray n }) (rv:Vals xs its) (hz:xs.length<=b5) (hf:∀b∈fp,fU X pins aB b) :
 Inv X pins σ (upd H' Dd (.lst xs)) s1:=by
 have os:s1.os=ax.os:=J.os
 have un:Un (dA X.stack) fp aB H' ax.heap s1.heap:=J.base
 have aN:eB X.prog X.w H' s1.heap:=J.aN
 have bare:nR s1.gens:=J.bare
 clear J
 obtain⟨hh,gg,dd,tt,nZ⟩:=s1
 obtain rfl:nZ=ax.os:=os
 have GD:∀b o,ax.heap.get? b=some o->b≠Dd:=λb o e=>dM (dc (bX e) hD)
 refine I.call (h':=hh) (g':=gg) (d':=dd) (t':=tt) (ch:=fp) ⟨un.keep,un.slot,λb o e n' hx=>?_,un.there,λb ys e=>?_,λb o u e=>?_,λb ps e=>?_⟩ (GC aN hn ⟨hz,its,n,rv,hd⟩) bare λb hb=>?_
 ·rw[bM (GD b o e)];exact un.free b o e n' hx
 ·have q:=un.kM b ys e
  rw[bM (ib q hn)];exact q
 ·have q:=un.kj b o u e
  rw[bM (ib q hn)];exact q
 ·obtain⟨more,q⟩:=un.kN b ps e
  exact⟨more,by rw[bM (ib q hn)];exact q⟩
 ·obtain⟨f0,f1,f2,f3,f4,f5⟩:=hf b hb
  exact⟨f3.imp_right λz=>wF z,f1,f4,f5⟩
def w2h{X:Cx}{x0 y:Str}{scope:dz}{C:Addr}{fp:List Addr}{pins:List (Addr×Obj)}{σ:St}{aB:Hp}{ax:ah}(I:Inv X pins σ aB ax)(c:Cb X.N X.env x0 y scope)(hC:ax.heap.objs.size<=C)(hf:∀b∈fp,fU X pins aB b)(ho:∀b∈fp,b<ax.heap.objs.size) :
 (gR X x0 y scope C ax aB fp (X.pn++pins)).Ok:=by
 have cells:∀x k,(cK X.env scope.names []).lookup x=some k->X.env.cells.lookup x=some k:=λx k e=>by
  rcases ox scope.names [] (kg e) with q | q
  ·simp at q
  ·exact q
 refine⟨I.ok.mod,c.kind,I.ok.glob,I.ok.blt,hC,λx z k h1 h2=>I.ok.inj x z k (cells x k h1) (cells z k h2),λx hx=>?_,λx k h _=>absurd h (by simp[gR]),I.ok.hd,I.ok.frames,.inl rfl,λb hb=>?_,I.bs,fG I.ok.kl I.sz,λb o e hb=>?_,λb hb z=>?_,I.stack,I.Ai⟩
 ·have uZ:(iK scope X.env).names.lookup x=some .cell∨(iK scope X.env).names.lookup x=some .free:=hx
  have hm:∃k,(x,k)∈scope.names/\(k = .free∨k = .cell):=by
   rcases uZ with q | q <;>
   ·have m:=kg q
    unfold iK at m
    simp only[CY] at m
    obtain⟨⟨n,k⟩,hm,e⟩:=m
    by_cases hc:(k==qU&&X.env.scope.kind == .function&&X.env.kindOf n==some .cell)=true
    ·rw[if_pos hc] at e
     have e1:n=x:=congrArg uF e
     subst e1
     rw[i0,i0] at hc
     exact⟨k,hm,.inl (BS hc.1.1)⟩
    ·rw[if_neg hc] at e
     have e1:n=x:=congrArg uF e
     have e2:=congrArg zW e
     dsimp only at e2
     subst e1 e2
     exact⟨_,hm,by first | exact .inr rfl | exact .inl rfl⟩
  obtain⟨k,hm,hk⟩:=hm
  rcases hk with rfl | rfl
  ·obtain⟨⟨a,ea⟩,_⟩:=c.free _ hm rfl
   obtain⟨c',h1,_⟩:=tY (tX ea scope.names [] hm)
   exact⟨c',h1⟩
  ·exact absurd rfl (c.r8 _ hm)
 ·refine⟨dM (dc (ho b hb) hC),λx k e=>(hf b hb).2.2.2.2.1 x k (cells x k e)⟩
 ·rcases(hf b hb).2.2.2.1 with z | z
  ·exact I.ok.p4 b o e z
  ·exact absurd (dc (dc (bX e) I.ok.kl) z) (mB _)
 ·rcases List.mem_cons.mp (I.oX b z) with q | q
  ·exact(hf b hb).2.1 q
  ·exact(hf b hb).2.2.1 q
section
variable {X:Cx}{x0 y:Str}{scope:dz}
def x0y{C Dd:Addr}{fp:List Addr}{pins:List (Addr×Obj)}{σ:St}{aB:Hp}{ax:ah}{dQ:Heap}{tk:Nat}{oD:Obj}{m:Str->Option Value}(I:Inv X pins σ aB ax)(c:Cb X.N X.env x0 y scope)(hC:ax.heap.objs.size<=C)(hD:ax.heap.objs.size<=Dd)(fm:Dd≠C)(hf:∀b∈fp,fU X pins aB b)(ho:∀b∈fp,b<ax.heap.objs.size)
 (old:∀b o,ax.heap.get? b=some o->dQ.get? b=some o) (mO:dQ.Ns C m) (hd:dQ.get? Dd=some oD) (GF:∀v,oD.data ≠ .cell v) :
 Inv (gR X x0 y scope C ax aB fp (X.pn++pins)) [(Dd,oD)] (none::none::σ) aB { ax with heap:=dQ,toks:=tk }:=by
 have cells:∀x k,(cK X.env scope.names []).lookup x=some k->X.env.cells.lookup x=some k:=λx k e=>by
  rcases ox scope.names [] (kg e) with q | q
  ·simp at q
  ·exact q
 have GG:∀b,ax.heap.objs.size<=b->b ∉ dA X.stack:=λb hb z=>by
  rcases List.mem_cons.mp (I.oX b z) with q | q
  ·exact absurd (dc I.lt (by rw[<-q];exact hb)) (mB _)
  ·exact I.Ah hb q
 refine⟨w2h I c hC hf ho,rfl,I.bare,Un.kept old,⟨m,mO,λi x v e1 e2 e3=>?_⟩,λx k e=>?_,I.aN.fresh hC,λx k e=>I.j5 x k (cells x k e),λp hp=>?_,I.aN.kept old,?_⟩
 ·cases i with
  | zero=>simp at e2
  | succ i =>
  cases i with
  | zero=>simp at e2
  | succ i =>
    have yG:σ[i]? = some (some v):=by simpa using e2
    have iE:(X.N.map (λz=>if z=x0∨z=y then ("":Str) else z))[i]? = some x:=by simpa [gR] using e1
    rw[e8] at iE
    cases hz:X.N[i]? with
    | none=>rw[hz] at iE;cases iE
    | some z =>
      rw[hz] at iE
      simp only[CP,wU] at iE
      have t5:lI (iK scope X.env) x:=e3
      have oy:∀{k:oM},(iK scope X.env).names.lookup x=some k->∃k',(x,k')∈scope.names/\(k'=k∨(k' = .free/\k = .cell)):=λ{k} q=>by
       have m':=kg q
       unfold iK at m'
       simp only[CY] at m'
       obtain⟨⟨n,k0⟩,hm,e⟩:=m'
       by_cases hc:(k0==qU&&X.env.scope.kind == .function&&X.env.kindOf n==some .cell)=true
       ·rw[if_pos hc] at e
        have e1:n=x:=congrArg uF e
        have e2:=congrArg zW e
        dsimp only at e2
        subst e1 e2
        rw[i0,i0] at hc
        exact⟨k0,hm,.inr ⟨BS hc.1.1,rfl⟩⟩
       ·rw[if_neg hc] at e
        have e1:n=x:=congrArg uF e
        have e2:=congrArg zW e
        dsimp only at e2
        subst e1 e2
        exact⟨_,hm,.inl rfl⟩
      have GH:∀k',(x,k')∈scope.names->x≠("":Str):=λk' hm z=>by
       subst z
       obtain⟨c',h1,_⟩:=tY hm
       rw[c.nil] at h1;cases h1
      have ne:x≠("":Str):=by
       rcases t5 with q | q | q<;>(obtain⟨k',hm,_⟩:=oy q;exact GH k' hm)
      by_cases oq:z=x0∨z=y
      ·rw[if_pos oq] at iE;exact absurd iE.symm ne
      ·rw[if_neg oq] at iE
       subst iE
       have fr:(z,qU)∈scope.names:=by
        rcases t5 with q | q | q
        ·obtain⟨k',hm,hk⟩:=oy q
         rcases hk with rfl | ⟨_,hk⟩
         ·exact absurd (c.only z (sy hz) (c.names _ hm rfl)) oq
         ·cases hk
        ·obtain⟨k',hm,hk⟩:=oy q
         rcases hk with rfl | ⟨rfl,_⟩
         ·exact absurd rfl (c.r8 _ hm)
         ·exact hm
        ·obtain⟨k',hm,hk⟩:=oy q
         rcases hk with rfl | ⟨_,hk⟩
         ·exact hm
         ·cases hk
       obtain⟨⟨ca,Z7⟩,hv⟩:=c.free _ fr rfl
       obtain⟨m0,Z8,GI⟩:=I.loc
       obtain⟨u,ru,lk⟩:=GI i z v hz yG (.inr hv)
       refine⟨u,ru,?_⟩
       rcases lk with ⟨q,_⟩ | ⟨_,k,ek,hk⟩
       ·exfalso
        have q':X.env.scope.names.lookup z=some .local:=q
        rcases hv with w | w<;>(rw[q'] at w;cases w)
       ·obtain⟨c',h1,_⟩:=tY (tX ek scope.names [] fr)
        have h2:=cells z c' h1
        rw[ek] at h2;cases h2
        refine .inr ⟨?_,k,h1,?_⟩
        ·rcases t5 with q | q | q
         ·exfalso
          obtain⟨k',hm,jP⟩:=oy q
          rcases jP with rfl | ⟨_,jP⟩
          ·exact oq (c.only z (sy hz) (c.names _ hm rfl))
          ·cases jP
         ·exact .inl q
         ·exact .inr q
        ·obtain⟨o,fv,p5⟩:=hk
         exact⟨o,old _ _ fv,p5⟩
 ·obtain⟨v,o,fv,p5⟩:=I.cell x k (cells x k e)
  exact⟨v,o,old _ _ fv,p5⟩
 ·rcases List.mem_append.mp hp with q | q
  ·obtain⟨h1,h2,h3,h4,h5⟩:=I.pin p q
   refine⟨old _ _ h1,h2,dM (dc (bX h1) hC),λz=>?_,h5⟩
   rcases List.mem_cons.mp (I.oX p.1 z) with q' | q'
   ·exact h3 q'
   ·exact h4 q'
  ·have e:p=(Dd,oD):=by simpa using q
   subst e
   exact⟨hd,I.aN.fresh hD,fm,GG Dd hD,GF⟩
 ·show σ.length+1+1=(x0::y::X.N.map _).length
  rw[b6,b6,aX,I.len]
structure Hj (X:Cx) (x0 y:Str) (scope:dz) (ifs:List Expr) (elt:Expr) (f:D->D->G->R (Option D)):Prop where
 run:∀(C:Addr) (ax:ah) (aB:Hp) (fp:List Addr) (pn:List (Addr×Obj)) (pins:List (Addr×Obj)) (s:ah) (σ:St) (H:Hp) (F:List Addr) (Γ:G) (d d2:D),Inv (gR X x0 y scope C ax aB fp pn) pins σ H s->bL H F->Rel X.K H F (.ro d :: .ro d2::Γ) σ->(∃o,f d d2 Γ = .ok o) ->
  au (aD X.prog X.w) X.A (forIn ifs true λc r=>if r=true then do let ok <-nS c (gU scope (cK X.env scope.names []) C X.env) (eval c (gU scope (cK X.env scope.names []) C X.env));pure (mJ ok) else pure (mJ r)) (λok dR =>
   if ok=true then au (aD X.prog X.w) X.A (eval elt (gU scope (cK X.env scope.names []) C X.env)) (λu dD=>∃e v H',f d d2 Γ = .ok (some e)/\Inv (gR X x0 y scope C ax aB fp pn) pins σ H' dD/\RelV v u/\aO H H'/\Is X.K (aH F H') e v) (λ_ _=>False) dR
   else f d d2 Γ = .ok none/\∃H',Inv (gR X x0 y scope C ax aB fp pn) pins σ H' dR/\aO H H') (λ_ _=>False) s
def w0w{elt c:Expr}{gc:G->R Bool}{ge:G->R D}(hc:∀C ax aB fp pn,jB (gR X x0 y scope C ax aB fp pn) c gc)(he:∀C ax aB fp pn,ij (gR X x0 y scope C ax aB fp pn) elt ge):Hj X x0 y scope [c] elt (ve gc ge):=by
 refine⟨λC ax aB fp pn pins s σ H F Γ d d2 I fo rl ⟨o,eo⟩=>?_⟩
 have bS:gc (.ro d :: .ro d2::Γ) ≠ .no:=λz=>by unfold ve at eo;rw[z] at eo;cases eo
 refine a5t (az ((hc C ax aB fp pn).run pins s σ H F (.ro d :: .ro d2::Γ) I fo rl bS) (λk s3 ⟨H1,e1,I1,S1⟩=>?_) λx s' ⟨c',H',e1,_⟩=>?_)
 ·have oz:(if k=true then ge (.ro d :: .ro d2::Γ)>>=λe=>R.ok (some e) else .ok none) = .ok o:=by
   unfold ve at eo;rw[e1] at eo;exact eo
  cases k with
  | false =>
    rw[if_neg sC]
    exact⟨R.step e1 _,H1,I1,S1⟩
  | true =>
    rw[if_pos rfl] at oz ⊢
    have GJ:ge (.ro d :: .ro d2::Γ) ≠ .no:=λz=>by rw[z] at oz;cases oz
    refine az ((he C ax aB fp pn).run pins s3 σ H1 F (.ro d :: .ro d2::Γ) I1 (fo.same S1) (rl.same S1) GJ) (λu s4 ⟨e,v,H',e2,I',rv,S,iv⟩=>⟨e,v,H',(R.step e1 _).trans (R.step e2 _),I',rv,S1.trans S,iv⟩) λx s' ⟨c',H',e2,_⟩=>?_
    rw[e2] at oz;cases oz
 ·unfold ve at eo;rw[e1] at eo;cases eo
def Cc(K:aE)(H:Hp)(F:List Addr)(J:It)(ds:List D):Prop:=∀H1,aO H H1 ->
 (∀i:Nat,i<ds.length->J.go i H1/\∀v H2,J.uQ i H1 v H2->aO H1 H2/\∃d1 d2 q v1 v2,ds[i]? = some (.tup [d1,d2])/\v = .ref q/\cC K H2 q [v1,v2]/\Is K (aH F H2) d1 v1/\Is K (aH F H2) d2 v2)/\J.stop ds.length H1
def w0x{prog:aS}{w:aR}{A:Around}{Z:mE->ah->Prop}{s0:ah}{elt iter:Expr}{es ifs:List Expr}{kt}{pt pos:Pos}{scope:dz}{it acc:Value}{env:Env}(K:Nat->ah->Prop)
 (one:∀n s,K n s->au (aD prog w) A (qN it) (λr s1=>match r with
   | some v=>au (aD prog w) A (JV (.Tuple es kt pt) it v) (λ_ s2=>au (aD prog w) A (kI (.Tuple es kt pt) env v) (λ_ s3 =>
      au (aD prog w) A (forIn ifs true λc r=>if r=true then do let ok <-nS c env (eval c env);pure (mJ ok) else pure (mJ r)) (λok s4 =>
       if ok=true then au (aD prog w) A (eval elt env) (λx s5 =>
        au (aD prog w) A (call (.builtin "list.append") [acc,x]) (λ_ s6=>∃m,m<n/\K m s6) (wZ (aD prog w) A env λe s'=>Z (.error e) s') s5) (wZ (aD prog w) A env λe s'=>Z (.error e) s') s4
       else ∃m,m<n/\K m s4) (wZ (aD prog w) A env λe s'=>Z (.error e) s') s3) (wZ (aD prog w) A env λe s'=>Z (.error e) s') s2) (wZ (aD prog w) A env λe s'=>Z (.error e) s') s1
   | none=>Z (.ok .next) s1) (wZ (aD prog w) A env λe s'=>Z (.error e) s') s)
 (n:Nat) (h0:K n s0):jl (aD prog w) A (.compLoop (.ListComp elt [⟨.Tuple es kt pt,iter,ifs,0⟩] scope pos) 0 it acc env) Z s0:=by
 refine codeAny_loop rfl K (λn s hK=>?_) n h0
 show au _ A ((compTurn (.ListComp elt [⟨.Tuple es kt pt,iter,ifs,0⟩] scope pos) 0 it acc env).onRaise (λx=>do KL x env;theTreesLotGoes x)) _ _ s
 refine wpAny_noted ?_
 rw[compTurn_list]
 refine aI (zZ (aI (az (one n s hK) (λr s1 q1=>?_) λ_ _ q=>q)))
 cases r with
 | some v =>
   refine aI (az q1 (λ_ s2 q2=>?_) λ_ _ q=>q)
   refine aI (az q2 (λ_ s3 q3=>aI (az q3 (λok s4 q4=>?_) λ_ _ q=>q)) λ_ _ q=>q)
   cases ok with
   | true=>exact aI (aI (az q4 (λx s5 q5=>aI (az q5 (λ_ s6 q6=>bR (bR ⟨rfl,q6⟩)) λ_ _ q=>q)) λ_ _ q=>q))
   | false=>exact bR ⟨rfl,q4⟩
 | none=>exact bR q1
def x4w{elt iter:Expr}{p0 px pt pos:Pos}{kt}{ifs:List Expr}{f:D->D->G->R (Option D)}{pins:List (Addr×Obj)}{σ:St}{aB:Hp}{ax:ah}{F:List Addr}{Γ:G}{items:List D}{it:Addr}{fp:List Addr}{tn:Nat->Heap->Prop}{J:It}{E:Value->ah->Prop}{total:List D}
 (hp:Hj X x0 y scope ifs elt f) (c:Cb X.N X.env x0 y scope) (hN:X.N.Nodup) (fq:X.calm=true) (I:Inv X pins σ aB ax) (fo:bL aB F) (rl:Rel X.K aB F Γ σ) (T:Turn X.prog X.w X.K (.Tuple [.Name x0 p0,.Name y px] kt pt) J fp it tn) (t0:tn 0 ax.heap) (hf:∀b∈fp,fU X pins aB b) (hj:Cc X.K aB F J items)
 (ht:dF (y1c f Γ) items [] = .ok total) (hl:items.length<=100000) {RR:Value->Addr->mE->ah->Prop}
 (hR:∀(Dd C:Addr) (xs:List V) (H':Hp) (m:Str->Option Value) (s':ah),ax.heap.objs.size<=C->Dd≠C->aB Dd=none->H' Dd=none->H' C=none->ax.heap.objs.size<=Dd->aO aB H'->aq X.K (aH F H') total xs->Inv X pins σ (upd H' Dd (.lst xs)) s'->s'.heap.Ns C m->RR (.ref Dd) C (.ok .next) s') :
 au (aD X.prog X.w) X.A (uG []) (λacc dR=>au (aD X.prog X.w) X.A (w9 scope X.env.globals (cK X.env scope.names []) [] X.env.qual none .none (some X.env)) (λcenv dD =>
  jl (aD X.prog X.w) X.A (.compStart (.ListComp elt [⟨.Tuple [.Name x0 p0,.Name y px] kt pt,iter,ifs,0⟩] scope pos) 0 (.ref it) acc { cenv with scope:=iK scope X.env }) (RR acc cenv.locals) dD) E dR) E ax:=by
 have ho:∀b∈fp,b<ax.heap.objs.size:=λb hb=>by obtain⟨o,e,_⟩:=T.obj _ _ t0 b hb;exact bX e
 refine sA (a5u c.r8 (by intro y hy;simp at hy) (λdQ qw oA=>?_) c.kind)
 dsimp only at qw oA ⊢
 generalize t6:ax.heap.push { cls:=.type "list",dict:=none,data:=.seq ([]:List Value).toArray }=H2 at qw oA ⊢
 have t7:H2.objs.size=ax.heap.objs.size+1:=by rw[<-t6,zX]
 generalize hCC:H2.objs.size=C at qw oA t7 ⊢
 generalize yI:ax.heap.objs.size=Dd at t7 ⊢
 obtain⟨⟨fm,hC,hD⟩,below⟩:=O8 t7 yI
 have old:∀b o,ax.heap.get? b=some o->dQ.get? b=some o:=λb o e=>by
  refine oA.extBut b o (below b (bX e)).1 ?_
  exact dE _ (t6 ▸ dE _ e)
 have pJ:dQ.get? Dd=some { cls:=.type "list",dict:=none,data:=.seq ([]:List Value).toArray }:=by
  refine oA.extBut _ _ fm ?_
  refine dE _ ?_
  rw[<-t6,<-yI]
  exact gf _ rfl
 have J0:∀tk,Inv (gR X x0 y scope C ax aB fp (X.pn++pins)) [(Dd,{ cls:=.type "list",dict:=none,data:=.seq ([]:List Value).toArray })] (none::none::σ) aB { ax with heap:=dQ,toks:=tk }:=λtk =>
  x0y I c hC hD fm hf ho old qw pJ (λv z=>nomatch z)
 have t1:tn 0 dQ:=T.keep _ _ _ t0 λb hb o e=>old b o e
 have t8:∀{H':Hp} {o:Obj},(∀b∈fp,H' b=none)->∀b∈fp,fU (gR X x0 y scope C ax aB fp (X.pn++pins)) [(Dd,o)] H' b:=λ{H' o} hn b hb=>by
  obtain⟨f0,f1,f2,f3,f4,f5⟩:=hf b hb
  have lt:=ho b hb
  refine⟨hn b hb,(below b lt).1,λz=>?_,.inl hb,λx k e=>?_,λp cJ=>?_⟩
  ·rcases List.mem_cons.mp (I.oX b z) with q | q
   ·exact f1 q
   ·exact f2 q
  ·rcases ox scope.names [] (kg e) with q | q
   ·simp at q
   ·exact f4 x k q
  ·rcases List.mem_append.mp cJ with q | q
   ·exact f5 p q
   ·have e:p=(Dd,o):=by simpa using q
    subst e
    exact eA (below b lt).2
 have BX:(gR X x0 y scope C ax aB fp (X.pn++pins)).N.Nodup:=by
  show(x0::y::X.N.map (λz=>if z=x0∨z=y then ("":Str) else z)).Nodup
  have ne0:∀q:Str,scope.names.lookup q=some .local->q ∉ X.N.map (λz=>if z=x0∨z=y then ("":Str) else z)∨True:=λ_ _=>.inr trivial
  have out:∀q:Str,scope.names.lookup q=some .local->(q=x0∨q=y)->q ∉ X.N.map (λz=>if z=x0∨z=y then ("":Str) else z):=λq hq hqq z=>by
   obtain⟨z',hz,e⟩:=List.mem_map.mp z
   by_cases w':z'=x0∨z'=y
   ·rw[if_pos w'] at e
    subst e
    rw[c.nil] at hq;cases hq
   ·rw[if_neg w'] at e
    subst e
    exact w' hqq
  refine List.nodup_cons.mpr ⟨λz=>?_,List.nodup_cons.mpr ⟨out y c.loc.2.1 (.inr rfl),?_⟩⟩
  ·rcases List.mem_cons.mp z with e | e
   ·exact c.loc.2.2.1 e
   ·exact out x0 c.loc.1 (.inl rfl) e
  ·have inj:∀a∈X.N,∀b∈X.N,(if a=x0∨a=y then ("":Str) else a)=(if b=x0∨b=y then ("":Str) else b)->a=b∨((a=x0∨a=y)/\(b=x0∨b=y)):=λa ha b hb e=>by
    by_cases qa:a=x0∨a=y
    ·by_cases qb:b=x0∨b=y
     ·exact .inr ⟨qa,qb⟩
     ·rw[if_pos qa,if_neg qb] at e;exact absurd e.symm ((c.none.resolve_right λz=>qa.elim (λe=>z.1 (e ▸ ha)) λe=>z.2 (e ▸ ha)) b hb)
    ·by_cases qb:b=x0∨b=y
     ·rw[if_neg qa,if_pos qb] at e;exact absurd e ((c.none.resolve_right λz=>qb.elim (λe=>z.1 (e ▸ hb)) λe=>z.2 (e ▸ hb)) a ha)
     ·rw[if_neg qa,if_neg qb] at e;exact .inl e
   have gen:∀l:List Str,(∀a∈l,a∈X.N)->l.Nodup->(l.map (λz=>if z=x0∨z=y then ("":Str) else z)).Nodup:=by
    intro l
    induction l with
    | nil=>intro _ _;exact a5v
    | cons a l ih =>
      intro hs nd
      obtain⟨n1,n2⟩:=List.nodup_cons.mp nd
      rw[fN]
      refine List.nodup_cons.mpr ⟨λz=>?_,ih (λb hb=>hs b (ft _ hb)) n2⟩
      obtain⟨b,hb,e⟩:=List.mem_map.mp z
      rcases inj b (hs b (ft _ hb)) a (hs a gj) e with q | q
      ·exact n1 (q ▸ hb)
      ·have ha:=hs a gj
       have xV:=hs b (ft _ hb)
       have zd:b≠a:=λz=>n1 (z ▸ hb)
       have both:x0∈X.N/\y∈X.N:=by
        rcases q.1 with rfl | rfl<;>rcases q.2 with rfl | rfl
        ·exact absurd rfl zd
        ·exact⟨xV,ha⟩
        ·exact⟨ha,xV⟩
        ·exact absurd rfl zd
       rcases c.loc.2.2.2 with z | z
       ·exact z both.1
       ·exact z both.2
   exact gen X.N (λ_ h=>h) hN
 let L:Nat->ah->Prop:=λn s'=>∃(i:Nat) (H':Hp) (o o2:Option V) (xs:List V) (its:List Value) (acc:List D) (k:Nat),n=items.length-i/\i<=items.length/\Inv (gR X x0 y scope C ax aB fp (X.pn++pins)) [(Dd,{ cls:=.type "list",dict:=none,data:=.seq its.toArray k })] (o::o2::σ) H' s' /\
  aO aB H'/\(∀b∈fp,H' b=none)/\tn i s'.heap/\Vals xs its/\acc.length<=i/\aq X.K (aH F H') acc xs/\dF (y1c f Γ) (items.drop i) acc = .ok total
 have loop:∀dD:ah,L items.length dD->jl (aD X.prog X.w) X.A (.compLoop (.ListComp elt [⟨.Tuple [.Name x0 p0,.Name y px] kt pt,iter,ifs,0⟩] scope pos) 0 (.ref it) (.ref Dd) (gU scope (cK X.env scope.names []) C X.env)) (RR (.ref Dd) C) dD:=λdD h4=>by
  refine w0x L (λn s' hL=>az (E:=λ_ _=>False) ?_ (λ_ _ q=>q) λ_ _ z=>z.elim) items.length h4
  obtain⟨i,H',o,o2,xs,its,acc,k,en,hi,J',S',yJ,yK,rv,Hk,ia,eg⟩:=hL
  obtain⟨G5,G6⟩:=hj H' S'
  have hpD:=J'.pin (Dd,{ cls:=.type "list",dict:=none,data:=.seq its.toArray k }) (dW _ (by simp))
  have ot:xs.length<=100000:=by rw[<-ia.length];exact fG Hk (fG hi hl)
  have nj:(100000:Nat)<=b5:=by rw[lD];decide
  by_cases cW:i<items.length
  ·obtain⟨go,yl⟩:=G5 i cW
   refine ic (T.item (gR X x0 y scope C ax aB fp (X.pn++pins)) rfl rfl rfl fq i _ s' _ H' (λ_ _=>False) J' (t8 yJ) yK go) λr s2 ⟨u,hr,h1⟩=>?_
   subst hr
   refine az h1 (λ_ s2 ⟨x,H5,J5,r5,y5,nE,yL⟩=>?_) λ_ _ z=>z.elim
   obtain⟨S5,d1,d2,q,v1,v2,ed,rfl,sq5,iv1,iv2⟩:=yl x H5 y5
   have GL:=J5.pinned (t8 yL) (T.obj _ _ nE)
   have S6:=S'.trans S5
   have yQ:items.drop i = .tup [d1,d2]::items.drop (i+1):=by
    rw[KC cW]
    have:items[i] = .tup [d1,d2]:=by
     have:=fu cW
     rw[ed] at this;exact(mD this).symm
    rw[this]
   rw[yQ] at eg
   have hfo:∃od,f d1 d2 Γ = .ok od/\(match od with | some e=>dF (y1c f Γ) (items.drop (i+1)) (acc++[e]) | none=>dF (y1c f Γ) (items.drop (i+1)) acc) = .ok total:=by
    unfold dF at eg
    have ep:y1c f Γ (.tup [d1,d2])=f d1 d2 Γ:=rfl
    rw[ep] at eg
    cases q:f d1 d2 Γ with
    | no=>rw[q] at eg;cases eg
    | er c'=>rw[q] at eg;cases eg
    | ok od =>
      refine⟨od,rfl,?_⟩
      rw[q] at eg
      cases od with
      | none=>exact eg
      | some e=>exact eg
   obtain⟨od,Hl,PO⟩:=hfo
   have yM:PG (gR X x0 y scope C ax aB fp (X.pn++pins)).bY (.Tuple [.Name x0 p0,.Name y px] kt pt) (L2.d_ X.K 2 (L2.ae (xw 0) (L2.ae (xw 1) L2.ao))) :=
    Um (X:=(gR X x0 y scope C ax aB fp (X.pn++pins)).bY) fq (Al (uP (X:=(gR X x0 y scope C ax aB fp (X.pn++pins)).bY) BX rfl (.inl (w_ c.loc.1)) (.inr (w_ c.loc.1))) (Al (uP (X:=(gR X x0 y scope C ax aB fp (X.pn++pins)).bY) BX rfl (.inl (w_ c.loc.2.1)) (.inr (w_ c.loc.2.1))) Lg rfl) rfl) rfl rfl
   refine az (yM _ s2 (o::o2::σ) H5 (.ref q) u (λaJ H'=>aJ=some v1::some v2::σ/\H'=H5) (GL.dB _) r5 ⟨q,[v1,v2],rfl,sq5,rfl,v1,[v2],rfl,v2,[],rfl,rfl,rfl,rfl⟩) (λ_ s3 ⟨BY,H6,J6,e6,yN⟩=>?_) λ_ _ z=>z.elim
   subst e6 yN
   have J6':=J6.fw
   have Hh:=fo.same S6
   have back:∀{s5:ah} {H7:Hp} {dS:St},Inv (gR X x0 y scope C ax aB fp (X.pn++pins)) ([(Dd,{ cls:=.type "list",dict:=none,data:=.seq its.toArray k })]++uS fp s2.heap) dS H7 s5->tn (i+1) s5.heap/\(∀b∈fp,H7 b=none):=λ{s5 H7 dS} J7=>by
    refine⟨T.keep _ _ _ nE λb hb o' e=>(J7.pin (b,o') (dW _ (dW _ (sP hb e)))).1,λb hb=>?_⟩
    obtain⟨o',e,dd⟩:=T.obj _ _ nE b hb
    exact(J7.pin (b,o') (dW _ (dW _ (sP hb e)))).2.1
   refine az (hp.run C ax aB fp (X.pn++pins) _ s3 _ H6 F Γ d1 d2 J6' Hh (GK (GK (rl.same S6) iv2) iv1) ⟨od,Hl⟩) (λok s4 h4=>?_) λ_ _ z=>z.elim
   cases ok with
   | false =>
     rw[if_neg sC] at h4 ⊢
     obtain⟨ef,H7,J7,S7⟩:=h4
     rw[Hl] at ef;cases ef
     obtain⟨t9,t_⟩:=back J7
     exact⟨items.length-(i+1),BW en cW,i+1,H7,some v1,some v2,xs,its,acc,k,rfl,cW,J7.rh,S6.trans S7,t_,t9,rv,a5z Hk,ia.same (iT (S5.trans S7)),PO⟩
   | true =>
     rw[if_pos rfl] at h4 ⊢
     refine az h4 (λu7 s5 ⟨e,v7,H7,ef,J7,r7,S7,yR⟩=>?_) λ_ _ z=>z.elim
     rw[Hl] at ef;cases ef
     obtain⟨t9,t_⟩:=back J7
     have J8:=J7.rh
     have qx:=J8.pin (Dd,{ cls:=.type "list",dict:=none,data:=.seq its.toArray k }) (dW _ (by simp))
     have hlen:its.length=acc.length:=by rw[<-rv.length,<-ia.length]
     refine a5w (l:=Dd) (items:=its.toArray) (x:=u7) ⟨k,qx.1⟩ (λh' ml qy=>?_) (by rw[de,<-rv.length];exact fG ot nj)
     obtain⟨k',jP⟩:=ml
     have GN:its.toArray.push u7=(its++[u7]).toArray:=by simp
     rw[GN] at jP
     have J9:Inv (gR X x0 y scope C ax aB fp (X.pn++pins)) [] (some v1::some v2::σ) H7 s5:=J8.q_ λp cJ=>by simp at cJ
     have GO:Inv (gR X x0 y scope C ax aB fp (X.pn++pins)) [] (some v1::some v2::σ) H7 { s5 with heap:=h' }:=J9.turned (t':=s5.toks) (it:=Dd) (λb o' hb e'=>(qy.2 b hb).trans e') qx.2.1 fm (.inr hD) (λx' yO e' z=>by
      rcases ox scope.names [] (kg e') with q | q
      ·simp at q
      ·obtain⟨v',o',fv,_⟩:=I.cell x' yO q
       exact(below yO (bX fv)).2 z) (λp cJ z=>by
      rcases List.mem_append.mp cJ with q | q
      ·obtain⟨iW,_⟩:=I.pin p q
       exact(below p.1 (bX iW)).2 z
      ·simp at q)
     have GP:Inv (gR X x0 y scope C ax aB fp (X.pn++pins)) [(Dd,{ cls:=.type "list",dict:=none,data:=.seq (its++[u7]).toArray k' })] (some v1::some v2::σ) H7 { s5 with heap:=h' }:=GO.q_ λp cJ=>by
      have e':p=(Dd,{ cls:=.type "list",dict:=none,data:=.seq (its++[u7]).toArray k' }):=by simpa using cJ
      subst e'
      exact⟨jP,qx.2.1,fm,qx.2.2.2.1,λv z=>nomatch z⟩
     refine⟨items.length-(i+1),BW en cW,i+1,H7,some v1,some v2,xs++[v7],its++[u7],acc++[e],k',rfl,cW,GP,S6.trans S7,t_,T.keep _ _ _ t9 λb hb o' e'=>(qy.2 b (below b (ho b hb)).2).trans e',rv.append (.cons r7 .nil),by rw[dN,Sz];exact a6a Hk,(ia.same (iT (S5.trans S7))).append (aq.cons yR aq.nil),PO⟩
  ·have yP:i=items.length:=a5x hi (SD cW)
   subst yP
   refine ic (T.done (gR X x0 y scope C ax aB fp (X.pn++pins)) rfl rfl rfl fq _ _ s' _ H' (λ_ _=>False) J' (t8 yJ) yK G6) λr s1 ⟨hr,J1⟩=>?_
   subst hr
   have ua:=J1.pin (Dd,{ cls:=.type "list",dict:=none,data:=.seq its.toArray k }) (dW _ (by simp))
   rw[Kg] at eg
   have:acc=total:=by unfold dF at eg;cases eg;rfl
   subst this
   obtain⟨mC,jg,_⟩:=J1.loc
   exact hR Dd C xs H' mC s1 hC fm (I.aN.fresh hD) ua.2.1 J1.free hD S' ia (x4v I J1 hD ua.2.1 ua.1 rv (fG ot nj) hf) jg
 have L0:∀tk,L items.length { ax with heap:=dQ,toks:=tk }:=λtk=>⟨0,aB,none,none,[],[],[],_,rfl,pV _,J0 tk,.refl _,λb hb=>(hf b hb).1,t1,.nil,a9 _,aq.nil,by rw[zM];exact ht⟩
 exact a5y (loop _ (L0 _)) (T.self _ 0 _ _ _ t1 (loop _ (L0 _)))
def w0t{elt iter:Expr}{p0 px pt pos:Pos}{kt}{ifs:List Expr}{f:D->D->G->R (Option D)}{gi:G->R (List D)}(hi:mj Cc X (.Tuple [.Name x0 p0,.Name y px] kt pt) iter gi)(hp:Hj X x0 y scope ifs elt f)(hN:X.N.Nodup)(fq:X.calm=true)
 (oB:Hi X.N X.env x0 y scope=true:=by rfl) (mq:xc scope X.env=pure (cK X.env scope.names []):=by rfl) (hs:∀x,uH iter X.env x=pure x:=by intro _;rfl) :
 PF X (.ListComp elt [⟨.Tuple [.Name x0 p0,.Name y px] kt pt,iter,ifs,0⟩] scope pos) (y5q gi f):=by
 refine⟨λpins s σ H F Γ I fo rl hg=>?_⟩
 have c:=x4u oB
 rw[KD]
 refine C3 (use:=none) rfl hs mq c.kind c.names (az (hi.run pins s σ H F Γ I fo rl (R.left hg)) (λxv cD dQ=>az dQ (λlN ax mr=>?_) λ_ _ x=>x.bind _) λ_ _ x=>x.bind _)
 obtain⟨items,it,fp,tn,J,aB,e1,rfl,I2,S2,T,t0,fk,jc⟩:=mr
 have fL:=R.next hg e1
 obtain⟨hl,e2⟩:=R.cU fL
 have bS:dF (y1c f Γ) items [] ≠ .no:=by
  have:=R.next hg e1
  rw[e2] at this;exact this
 obtain⟨total,et⟩:=xQ bS
 refine x4w (RR:=λacc C=>C4 (aD X.prog X.w) X.A _ none _ acc C) hp c hN fq I2 (fo.same S2) (rl.same S2) T t0 fk jc et hl ?_
 intro Dd C xs H' m s' hC fm hn gI jg hD S' ia I' oE
 refine⟨m,oE,λjS kd=>?_⟩
 have ip:∀{b:Addr} {o:Obj},ax.heap.get? b=some o->b≠C:=λe=>dM (dc (bX e) hC)
 have qz:Inv X pins σ (upd H' Dd (.lst xs)) { s' with heap:=jS }:=I'.turned (t':=s'.toks) (it:=C) (λb o hb e=>kd.extBut b o hb e) (by rw[bM (eA fm)];exact jg) (nV (dc I2.lt hC)) (.inr (fG I2.sz hC))
  (λx k e=>by obtain⟨v,o,ho,_⟩:=I2.cell x k e;exact ip ho) (λp cJ=>ip (I2.pin p cJ).1)
 have S3:=g7 gI (.lst xs)
 refine⟨total,Dd,xs,_,(R.step e1 _).trans (e2.trans et),qz,rfl,(S2.trans S').trans S3,S2.free hn,dj,ia.same λb o hb=>?_⟩
 obtain⟨z1,z2⟩:=ja hb
 have gF:b≠Dd:=ib z2 gI
 rw[di λz=>(List.mem_cons.mp z).elim gF z1,bM gF]
 exact z2
end
section
variable {prog:aS}{w:aR}{A:Around}{E:Value->ah->Prop}{s:ah}
end
section
variable {prog:aS}{w:aR}{A:Around}{E:Value->ah->Prop}{s:ah}{b1 b2:Bool}
end
section
variable {prog:aS}{w:aR}{A:Around}{E:Value->ah->Prop}{s:ah}{b1 b2:Bool}
end
section
variable {X:Cx}{pins:List (Addr×Obj)}{σ:St}{H:Hp}{s:ah}{h':Heap}
def w9g{ch:List Addr}{t':Nat}(I:Inv X pins σ H s)(hf:∀b∈ch,fU X pins H b)(k:∀b o,b ∉ ch->s.heap.get? b=some o->h'.get? b=some o):Inv X pins σ H { s with heap:=h',toks:=t' }:=by
 have qZ:∀b u,H b=some u->b ∉ ch:=λb u e z=>by rw[(hf b z).1] at e;cases e
 have nL:X.env.locals ∉ ch:=λz=>(hf _ z).2.1 rfl
 refine I.step (g':=s.gens) (d':=s.drawn) (ch:=ch) (λb hb=>?_) (λb o _ _ hc e _=>k b o hc e) (λb o _ _ hc e _=>⟨o.slots,k b o hc e⟩) (λ_ _ _ _ n=>n) (λb o hc e=>⟨o,k b o hc e⟩) (λ_ _ e=>e) (λ_ _ _ e=>e) (λb ps e=>⟨#[],by rw[e];simp⟩) (λm hm=>?_) (λb u e=>?_) I.bare
 ·obtain⟨f0,f1,f2,f3,f4,f5⟩:=hf b hb
  exact⟨f3.imp_right λz=>wF z,f1,f4,f5⟩
 ·obtain⟨o,es,ep,ho,r⟩:=hm
  exact⟨o,es,ep,k _ o nL ho,r⟩
 ·refine(I.aN b u e).lH (λc v hc q=>k c v ?_ q) (λ_ q=>q) λ_ _ q=>q
  rcases hc with z | z
  ·rw[z];exact qZ b u e
  ·exact qZ c _ z
def w9f{ch:List Addr}{t':Nat}{T:Addr}{xs:List V}{its:List Value}(I:Inv X pins σ H s)(hf:∀b∈ch,fU X pins H b)(k:∀b o,b ∉ ch->s.heap.get? b=some o->h'.get? b=some o)(hT:s.heap.objs.size<=T)(hz:xs.length<=b5)(rv:Vals xs its)(ht:mL h' T its.toArray):Inv X pins σ (upd H T (.tup xs)) { s with heap:=h',toks:=t' }:=by
 have qZ:∀b u,H b=some u->b ∉ ch:=λb u e z=>by rw[(hf b z).1] at e;cases e
 have nL:X.env.locals ∉ ch:=λz=>(hf _ z).2.1 rfl
 have hn:H T=none:=I.aN.fresh hT
 have neT:∀b o,s.heap.get? b=some o->b≠T:=λb o e=>dM (dc (bX e) hT)
 have nT:∀b u,H b=some u->b≠T:=λb u e=>ib e hn
 refine I.step (g':=s.gens) (d':=s.drawn) (ch:=ch) (λb hb=>?_) (λb o _ _ hc e _=>k b o hc e) (λb o _ _ hc e _=>⟨o.slots,k b o hc e⟩) (λb o _ e n=>by rw[bM (neT b o e)];exact n) (λb o hc e=>⟨o,k b o hc e⟩)
  (λb u e=>by rw[bM (nT b _ e)];exact e) (λb o u e=>by rw[bM (nT b _ e)];exact e) (λb ps e=>⟨#[],by rw[bM (nT b _ e),e];simp⟩) (λm hm=>?_) (λb u e=>?_) I.bare
 ·obtain⟨f0,f1,f2,f3,f4,f5⟩:=hf b hb
  exact⟨f3.imp_right λz=>wF z,f1,f4,f5⟩
 ·obtain⟨o,es,ep,ho,r⟩:=hm
  exact⟨o,es,ep,k _ o nL ho,r⟩
 ·by_cases hb:b=T
  ·subst hb
   rw[dj] at e
   cases e
   exact⟨hz,its,rv,ht⟩
  ·rw[bM hb] at e
   refine(I.aN b u e).lH (λc v hc q=>k c v ?_ q) (λc q=>by rw[bM (nT c _ q)];exact q) λc u' q=>by rw[bM (nT c _ q)];exact q
   rcases hc with z | z
   ·rw[z];exact qZ b u e
   ·exact qZ c _ z
def Sq(b:Bool)(K:aE)(H:Hp)(l:Addr)(xs:List V):Prop:=if b=true then cA K H l xs else cC K H l xs
end
section
variable {X:Cx}{a b:Expr}{ga gb:G->R D}
end
section
variable {X:Cx}{e a b c:Expr}{g ga gb gc:G->R D}{pos:Pos}
end
def Hm(K:aE)(l:Addr):It :=
 ⟨λi H=>∃xs x,cA K H l xs/\xs[i]? = some x,
  λi H v H'=>∃T x,v = .ref T/\H T=none/\H'=upd H T (.tup [.int (i:Int),x])/\∀xs,cA K H l xs->xs[i]? = some x,
  λi H=>∃xs,cA K H l xs/\xs.length<=i⟩
def x5j{P:aS}{w:aR}{K:aE}{elts:List Expr}{kt}{pt:Pos}{e it l:Addr}(PR:e≠it):Turn P w K (.Tuple elts kt pt) (Hm K l) [e,it] e (λi h=>(∃old,IsEnum h e it (i:Nat) old)/\h.IsListIter it l i) where
 mem:=by simp
 obj:=λi h ⟨⟨old,q1⟩,q2⟩ c hc=>by
  simp only[jG,lG,or_false] at hc
  rcases hc with rfl | rfl
  ·exact⟨_,q1,λv z=>nomatch z⟩
  ·obtain⟨o,e,c,d⟩:=q2;exact⟨o,e,λv z=>by rw[d] at z;cases z⟩
 keep:=λi h h' ⟨⟨old,q1⟩,q2⟩ k=>⟨⟨old,k e (by simp) _ q1⟩,q2.at λo z=>k it (by simp) o z⟩
 item:=by
  intro X hP hw hK hc i pins s σ H E I hf ⟨⟨old,q1⟩,q2⟩ ⟨xs,x,s1,ex⟩
  subst hP hw hK
  obtain⟨its,rv,p,hz⟩:=I.list s1
  obtain⟨u,hu,ru⟩:=rv.get ex
  refine wpAny_pyNext_enum_item q1 q2 p.isList (x:=u) (by simpa using hu) PR λh' a1 a2 a3 a4 a5=>⟨_,rfl,?_⟩
  refine wpAny_letOwnedTupleGo_enum (s:={ s with heap:=h',toks:=s.toks+1 }) a1 λjS c1 c2=>?_
  have Te:s.heap.objs.size≠e:=nV (bX q1)
  have kk:∀c o,c ∉ [e,it]->s.heap.get? c=some o->jS.get? c=some o:=λc o hc z=>by
   simp only[jG,lG,or_false,not_or] at hc
   exact c2.extBut _ _ hc.1 (a5 c o hc.1 hc.2 z)
  have tT:mL jS s.heap.objs.size [nQ i s.toks,u].toArray:=⟨_,c2.extBut _ _ Te a3,rfl,_,rfl⟩
  have I1:=w9f (t':=s.toks+1) (xs:=[.int (i:Int),x]) I hf kk (a9 _) (by rw[lD];exact(by decide:(2:Nat)<=16777216)) (.cons ⟨_,rfl⟩ (.cons ru .nil)) tT
  refine⟨.ref s.heap.objs.size,_,I1,rfl,⟨_,x,rfl,I.aN.fresh (a9 _),rfl,λxs' q=>by rw[I.Le q s1];exact ex⟩,⟨⟨u,c1⟩,a2.extBut c2.extBut (eA PR)⟩,λc hc=>?_⟩
  rw[bM]
  ·exact(hf c hc).1
  ·intro z
   have ex:∃o,s.heap.get? c=some o:=by
    simp only[jG,lG,or_false] at hc
    rcases hc with rfl | rfl
    ·exact⟨_,q1⟩
    ·obtain⟨o,e,_⟩:=q2;exact⟨o,e⟩
   obtain⟨o,eo⟩:=ex
   exact absurd (bX eo) (by rw[z];exact mB _)
 done:=by
  intro X hP hw hK hc i pins s σ H E I hf ⟨⟨old,q1⟩,q2⟩ ⟨xs,s1,a8i⟩
  subst hP hw hK
  obtain⟨its,rv,p,hz⟩:=I.list s1
  have n1:=rv.length
  refine wpAny_pyNext_enum_end (I.ok.hd hc) q1 q2 p.isList (by simp;lia) λh' kk=>⟨rfl,w9g (t':=s.toks) I hf λc o hc z=>?_⟩
  simp only[jG,lG,or_false,not_or] at hc
  exact kk c o hc.2 z
 self:=λ_ _ _ _ _ st h=>by obtain⟨⟨old,q1⟩,_⟩:=st;exact a6n q1 h
def PS:∀{k:Nat} {xs:List D} {i:Nat} {x:D},xs[i]? = some x->(jO k xs)[i]? = some (.tup [.int ((k+i:Nat):Int),x])
 | _,[],_,_,h=>by simp at h
 | k,a::xs,0,x,h=>by simp at h;subst h;simp[jO]
 | k,a::xs,i+1,x,h=>by
   simp only[jO,a5l] at *
   rw[PS h,show k+1+i=k+(i+1) by lia]
def PU:∀(k:Nat) (xs:List D),(jO k xs).length=xs.length
 | _,[]=>rfl
 | k,a::xs=>by simp[jO,PU (k+1) xs]
def w1r{K:aE}{H:Hp}{F:List Addr}{l:Addr}{xs:List V}{ds:List D}(h1:cA K H l xs)(i1:aq K (aH F H) ds xs):Cc K H F (Hm K l) (jO 0 ds):=λH1 S=>by
 have q1:=S.seq h1
 have n1:=i1.length
 have nz:=PU 0 ds
 refine⟨λi hi=>⟨⟨xs,xs[i]'(by lia),q1,fu (by lia)⟩,λv H2 y=>?_⟩,⟨xs,q1,by lia⟩⟩
 obtain⟨T,x,rfl,hT,rfl,e1⟩:=y
 obtain⟨d,ed,iv⟩:=i1.yB (e1 xs q1)
 have S2:=g7 hT (.tup [.int (i:Int),x])
 have eg:=PS (k:=0) ed
 rw[qS] at eg
 exact⟨S2,.int (i:Int),d,T,.int (i:Int),x,eg,rfl,cC.of dj,Is.bZ.mpr rfl,iv.same (iT (S.trans S2))⟩
def x9m:lA ("enumerate":Str)=some (.type "enumerate"):=by decide +kernel
section
variable {X:Cx}{a b:Expr}{ga gb:G->R D}
def x6q{elts:List Expr}{kt}{pt p pos:Pos}(ha:PD X a ga)(hm:X.mg "enumerate"=none)(hg:Gl X "enumerate":=by rfl)(hs:aT [a] X.env=[(false,eval a X.env)]:=by rfl) :
 mj Cc X (.Tuple elts kt pt) (.Call (.Name "enumerate" p) [a] [] pos) (y8s ga):=by
 refine⟨λpins s σ H F Γ I fo rl bW=>?_⟩
 refine wY (iu I hg hm x9m (oV ?_ hs rfl))
 rw[hs]
 show au _ _ (e9 ((false,eval a X.env)::cH pos [])) _ _ s
 refine fT (az (ha.run pins s σ H F Γ I fo rl (R.left bW)) (λu s1 ⟨d,v,H1,e1,I1,r1,S1,i1⟩=>iJ ?_) λ_ _ x=>x.bind _)
 have aM:=R.next bW e1
 cases d with
 | lst ds =>
   obtain⟨n1,e5⟩:=R.cU (show R.guard (D.bC ds=true) (.ok (jO 0 ds)) ≠ .no from aM)
   obtain⟨l,xs,rfl,q1,j1⟩:=Is.fC.mp i1
   have Hn:=aq.aH (fo.same S1) _ xs n1 j1
   cases (show u=fF l from r1)
   obtain⟨its,rv,pl,hz⟩:=I1.list q1
   refine call_enumerate_list pl.isList λh' a1 a2 a3 a4=>?_
   refine a6n (s:={ s1 with heap:=h' }) a1 ?_
   have I3:Inv X pins σ H1 { s1 with heap:=h' }:=I1.kept (t':=s1.toks) a4
   refine⟨jO 0 ds,s1.heap.objs.size+1,_,_,Hm X.K l,H1,(R.step e1 _).trans e5,rfl,I3,S1,x5j (it:=s1.heap.objs.size) (by show @Ne Nat _ _;lia),⟨⟨_,a1⟩,a2⟩,λc hc=>?_,w1r q1 Hn⟩
   simp only[jG,lG,or_false] at hc
   have ze:s1.heap.objs.size<=c:=by rcases hc with rfl | rfl<;>lia
   exact I1.sO ze (I1.aN.fresh ze)
 | _=>exact absurd rfl aM
end
section
variable {X:Cx}{e a b c:Expr}{g ga gb gc:G->R D}{pos pos' p:Pos}
def Ho(ha:PD X a ga)(he:∀whole,nS a X.env whole=(do let v <-whole;Tb a.pos;zR [v] (truthy v)):=by intro _;rfl):jB X a (y0i ga):=by
 refine⟨λpins s σ H F Γ I fo rl hg=>?_⟩
 refine isTrue_plain (az (ha.run pins s σ H F Γ I fo rl (R.left hg)) (λv s1 ⟨d,x,H1,e1,I1,r1,S1,i1⟩=>?_) λ_ _ x=>x.bind _) (he _)
 have aM:=R.next hg e1
 cases d with
 | lst ds =>
   obtain⟨l,xs,rfl,q1,j1⟩:=Is.fC.mp i1
   cases (show v=fF l from r1)
   obtain⟨its,rv,pl,hz⟩:=I1.list q1
   have n1:=rv.length
   have n2:=j1.length
   refine wpAny_truthy_list pl.isList (by rw[lD] at hz;simp;lia) ⟨H1,(R.step e1 _).trans ?_,I1.tok _,S1⟩
   have:its.toArray.isEmpty=ds.isEmpty:=by
    cases ds with
    | nil=>cases its with
      | nil=>rfl
      | cons z zs=>simp at n1 n2;lia
    | cons d ds=>cases its with
      | nil=>rw[<-n2] at n1;simp at n1
      | cons z zs=>rfl
   rw[this]
 | _=>exact absurd rfl aM
end
section
variable {X:Cx}{e a b c:Expr}{g ga gb gc:G->R D}{pos pos' p:Pos}{gs:G->R (List D)}
end
def w5e(y:Str)(names:List (Str×oM)):Bool:=decide (names.filter (λp=>p.2 == .cell)=[(y,.cell)])
structure a8j (N:List Str) (env:Env) (y:Str) (scope:dz):Prop where
 kind:scope.kind = .function
 r8:∀p∈scope.names,p.2 ≠ .cell∨p.1=y
 names:∀p∈scope.names,p.2 = .local->scope.names.lookup p.1=some .local
 free:∀p∈scope.names,p.2 = .free->(∃c,env.cells.lookup p.1=some c)/\(env.scope.names.lookup p.1=some .cell∨env.scope.names.lookup p.1=some .free)
 loc:w5e y scope.names=true/\scope.names.lookup y=some .cell
 nil:scope.names.lookup (("":Str))=none
 only:∀z∈N,scope.names.lookup z≠some .local
 none:∀z∈N,z≠("":Str)
def Hr(X:Cx)(y:Str)(scope:dz)(C cc:Addr)(ax:ah)(aB:Hp)(fp:List Addr)(pn:List (Addr×Obj)):Cx :=
 { X with N:=y::X.N.map (λz=>if z=y then ("":Str) else z),s₀:=ax,H₀:=aB,env:=gU scope ((y,cc)::cK X.env scope.names []) C X.env,outer:=X.stack,ex:=fp,fn:=λz=>z==y,pn:=pn,xe:=λ_ _=>False }
section
variable {X:Cx}{y:Str}{scope:dz}
structure a8k (X:Cx) (y:Str) (scope:dz) (ifs:List Expr) (elt:Expr) (f:D->G->R (Option D)):Prop where
 run:∀(C cc:Addr) (ax:ah) (aB:Hp) (fp:List Addr) (pn:List (Addr×Obj)) (pins:List (Addr×Obj)) (s:ah) (σ:St) (H:Hp) (F:List Addr) (Γ:G) (d:D),Inv (Hr X y scope C cc ax aB fp pn) pins σ H s->bL H F->Rel X.K H F (.ro d::Γ) σ->(∃o,f d Γ = .ok o) ->
  au (aD X.prog X.w) X.A (forIn ifs true λc r=>if r=true then do let ok <-nS c (gU scope ((y,cc)::cK X.env scope.names []) C X.env) (eval c (gU scope ((y,cc)::cK X.env scope.names []) C X.env));pure (mJ ok) else pure (mJ r)) (λok dR =>
   if ok=true then au (aD X.prog X.w) X.A (eval elt (gU scope ((y,cc)::cK X.env scope.names []) C X.env)) (λu dD=>∃e v H',f d Γ = .ok (some e)/\Inv (Hr X y scope C cc ax aB fp pn) pins σ H' dD/\RelV v u/\aO H H'/\Is X.K (aH F H') e v) (λ_ _=>False) dR
   else f d Γ = .ok none/\∃H',Inv (Hr X y scope C cc ax aB fp pn) pins σ H' dR/\aO H H') (λ_ _=>False) s
end
section
variable {X:Cx}{e:Expr}{pos p:Pos}{x:Str}{es:List Expr}{gs:G->R (List D)}
def PV{P:aS}{w:aR}{H:Hp}{h:Heap}{F:List Addr}(fo:bL H F)(k:eB P w H h):eB P w (aH F H) h:=λb u e=>by
 have out:∀{c:Addr} {o:HO},H c=some o->(∀xs,o ≠ .lst xs)->aH F H c=some o:=λ{c o} q n=>by
  rw[di λz=>by obtain⟨xs,e⟩:=fo c z;rw[q] at e;cases e;exact n xs rfl];exact q
 exact(k b u (ja e).2).lH (λc v _ q=>q) (λc q=>out q λxs z=>nomatch z) λc xs q=>out q λxs z=>nomatch z
end
def PX(M:oK)(A:Around)(E:Value->ah->Prop)(Q:Value->ah->Prop)(env:Env)(acc:Value)(C:Addr)(r:mE)(s':ah):Prop :=
 match r with
 | .ok _=>∃m,s'.heap.Ns C m/\∀h',su C s'.heap h'->Q acc { s' with heap:=h' }
 | .error x=>∃m,s'.heap.Ns C m/\∀h',su C s'.heap h'->∀ce:Env,ce.frame=env.frame->au M A (PySem.passOn "comprehension.variables-let-go" x ce:Sem Value) (λ_ _=>False) E { s' with heap:=h' }
section
variable {M:oK}{A:Around}{E:Value->ah->Prop}{env:Env}{s:ah}
def x8x{e:Expr}{scope:dz}{pos:Pos}{PY first:Sem Value}{g:Comprehension}{gs:List Comprehension}{cl:List (Str×Addr)}{Q:Value->ah->Prop}
 (Cd:clausesOf e=g::gs) (hs:∀x,uH g.iter env x=pure x) (mq:xc scope env=pure cl) (Ao:scope.kind = .function) (a0m:∀x∈scope.names,x.2 = .local->scope.names.lookup x.1=some .local)
 (h:au M A first (λx cD=>au M A (qO x) (λit ax=>au M A PY (λacc dR=>au M A (w9 scope env.globals cl [] env.qual none .none (some env)) (λcenv dD=>cenv.frame=env.frame /\
   jl M A (.compStart e 0 it acc { cenv with scope:=iK scope env }) (PX M A E Q env acc cenv.locals) dD) E dR) E ax) E cD) E s) :
 au M A (KI e scope env pos PY false first none) Q E s:=by
 have Cf:∀{x:Value} {s':ah},E x s'->E x s':=λq=>q
 unfold KI
 rw[mq,Cd]
 refine aI (az h (λx cD dQ=>?_) λ_ _=>Cf)
 refine aI (zZ (aI (xi (hs x) (aI (jE (az dQ (λit ax mr=>?_) λ_ _=>Cf))))))
 refine wpAny_standIf (aI (az mr (λacc dR a0n=>?_) λ_ _=>Cf))
 refine aI (bR (aI (az a0n (λcenv dD Hs=>?_) λ_ _=>Cf)))
 obtain⟨ji,Hs⟩:=Hs
 dsimp only
 have PZ:∀x∈(scope.names.filter λx=>(x.2 == .local||x.2 == .cell)&&x.1 != (".0":Str)).reverse,x.2 = .local->Env.kindOf { cenv with scope:=iK scope env } x.1=some .local :=
  λx hx q=>w_ (a0m x (List.mem_filter.mp (List.mem_reverse.mp hx)).1 q)
 refine jE (aI (KR (jE (wpAny_run (qR Hs λr s' hr=>?_)))))
 cases r with
 | ok f =>
   obtain⟨m,hn,hr⟩:=hr
   exact aI (jE (a6o (cenv:={ cenv with scope:=iK scope env }) Ao _ s' m PZ hn λh' m' _ qy=>bR (hr h' qy)))
 | error x =>
   obtain⟨m,hn,hr⟩:=hr
   exact aI (jE (a6o (cenv:={ cenv with scope:=iK scope env }) Ao _ s' m PZ hn λh' m' _ qy=>az (hr h' qy _ ji) (λ_ _ f=>f.elim) λ_ _ y=>y))
end
section
variable {X:Cx}{y:Str}{scope:dz}
def P0{X:Cx}{pins rd:List (Addr×Obj)}{σ:St}{H:Hp}{s:ah}{Y:Cx}(J:Inv X pins σ H s)(h:∀p∈Y.pn++rd,p∈X.pn++pins)(e:Y={ X with pn:=Y.pn }:=by rfl):Inv Y rd σ H s:=by
 rw[e] at h ⊢
 exact⟨⟨J.ok.mod,J.ok.kind,J.ok.glob,J.ok.blt,J.ok.above,J.ok.inj,J.ok.has,J.ok.qX,J.ok.hd,J.ok.frames,J.ok.sM,J.ok.xq,J.ok.bs,J.ok.kl,J.ok.p4,J.ok.sN,J.ok.j4,J.ok.lJ⟩,J.os,J.bare,J.base,J.loc,J.cell,J.free,J.j5,λp hp=>J.pin p (h p hp),J.aN,J.len⟩
def x8y{C:Addr}{fp:List Addr}{pins pl pn:List (Addr×Obj)}{σ aJ:St}{aB H':Hp}{ax s1:ah}{c:Er}{x:Value}(I:Inv X pins σ aB ax)(hex:X.ex=[])(hC:ax.heap.objs.size<=C)(hf:∀b∈fp,fU X pins aB b)
 (J:pA (cY X y scope C ax aB fp pn) pl aJ H' c x s1):∃(oC:Obj) (m:Str->Option Value),(∀h:Heap,h.get? C=some oC->h.Ns C m)/\pA X (pins++[(C,oC)]) σ H' c x s1:=by
 obtain⟨J,e,Ce,oe,vs,h1,h2,h3,h4,h5,h6,h7,h8,h9,jh,jU,sf⟩:=J
 have os:s1.os=ax.os:=J.os
 have un:Un (dA X.stack) fp aB H' ax.heap s1.heap:=J.base
 have aN:eB X.prog X.w H' s1.heap:=J.aN
 have bare:nR s1.gens:=J.bare
 obtain⟨m,⟨oC,es,ep,ho,hd,hk⟩,_⟩:=J.loc
 have hCn:H' C=none:=J.free
 have I':Inv X pins σ H' s1:=I.Dl os un aN bare λb hb=>by
  obtain⟨f0,f1,f2,f3,f4,f5⟩:=hf b hb
  exact⟨f3.imp_right λz=>wF z,f1,f4,f5⟩
 have hCl:C≠X.env.locals:=nV (dc I.lt hC)
 have I2:Inv X (pins++[(C,oC)]) σ H' s1:=I'.q_ λp hp=>by
  rcases List.mem_append.mp hp with q | q
  ·exact I'.pin p (dW _ q)
  ·have:p=(C,oC):=by simpa using q
   subst this
   exact⟨ho,hCn,hCl,I.Ah hC,λv z=>by rw[hd] at z;cases z⟩
 have vZ:∀q:Addr,ax.heap.get? q=none->q≠C->X.s₀.heap.get? q=none/\q≠X.env.locals/\(∀y k,X.env.cells.lookup y=some k->k≠q)/\(∀p∈X.pn++(pins++[(C,oC)]),p.1≠q):=λq hq hqC=>by
  obtain⟨g1,g2,g3,g4⟩:=I.gone hex hq
  refine⟨g1,g2,g3,λp hp=>?_⟩
  rcases List.mem_append.mp hp with z | z
  ·exact g4 p (kH _ z)
  ·rcases List.mem_append.mp z with z | z
   ·exact g4 p (dW _ z)
   ·have:p=(C,oC):=by simpa using z
    subst this
    exact eA hqC
 refine⟨oC,m,λh q=>⟨oC,es,ep,q,hd,hk⟩,I2,e,Ce,oe,vs,h1,h2,h3,?_⟩
 obtain⟨g1,g2,g3,g4⟩:=vZ e h4 h5
 refine⟨g1,g2,g3,g4,h8,h9,jh,jU,?_⟩
 rcases sf with sf | ⟨T,oT,ts,k1,k2,k3,k4,k5,k6,k7,k8,k9,jV⟩
 ·exact .inl sf
 ·obtain⟨t1,t2,t3,t4⟩:=vZ T k3 k4
  exact .inr ⟨T,oT,ts,k1,k2,t1,t2,t3,t4,k7,k8,k9,jV⟩
structure Ht (X:Cx) (y:Str) (scope:dz) (ifs:List Expr) (elt:Expr) (f:D->G->R (Option D)):Prop where
 run:∀(C:Addr) (ax:ah) (aB:Hp) (fp:List Addr) (pn:List (Addr×Obj)),(∀b∈fp,∃o,(b,o)∈pn)->∀(pins:List (Addr×Obj)) (s:ah) (σ:St) (H:Hp) (F:List Addr) (Γ:G) (d:D),Inv (cY X y scope C ax aB fp pn) pins σ H s->bL H F->Rel X.K H F (.ro d::Γ) σ->f d Γ ≠ .no ->
  au (aD X.prog X.w) X.A (forIn ifs true λc r=>if r=true then do let ok <-nS c (gU scope (cK X.env scope.names []) C X.env) (eval c (gU scope (cK X.env scope.names []) C X.env));pure (mJ ok) else pure (mJ r)) (λok dR =>
   if ok=true then au (aD X.prog X.w) X.A (eval elt (gU scope (cK X.env scope.names []) C X.env)) (λu dD=>∃e v H',f d Γ = .ok (some e)/\Inv (cY X y scope C ax aB fp pn) pins σ H' dD/\RelV v u/\aO H H'/\Is X.K (aH F H') e v) (λx s'=>∃c H',f d Γ = .er c/\aO H H'/\pA (cY X y scope C ax aB fp pn) pins σ H' c x s') dR
   else f d Γ = .ok none/\∃H',Inv (cY X y scope C ax aB fp pn) pins σ H' dR/\aO H H') (λx s'=>∃c H',f d Γ = .er c/\aO H H'/\pA (cY X y scope C ax aB fp pn) pins σ H' c x s') s
def w4y{elt:Expr}{ge:G->R D}(he:∀C ax aB fp pn,(∀b∈fp,∃o,(b,o)∈pn)->ij (cY X y scope C ax aB fp pn) elt ge):Ht X y scope [] elt (dr ge):=by
 refine⟨λC ax aB fp pn kc pins s σ H F Γ d I fo rl ho=>?_⟩
 refine Ti ?_
 rw[if_pos rfl]
 have bS:ge (.ro d::Γ) ≠ .no:=λz=>by unfold dr at ho;rw[z] at ho;exact ho rfl
 exact az ((he C ax aB fp pn kc).run pins s σ H F (.ro d::Γ) I fo rl bS) (λu s4 ⟨e,v,H',e1,I',rv,S,iv⟩=>⟨e,v,H',R.step e1 _,I',rv,S,iv⟩) λx s' ⟨c,H',e1,S,fl⟩=>⟨c,H',R.stop e1 _,S,fl⟩
def x4t{elt iter:Expr}{px pos:Pos}{ifs:List Expr}{f:D->G->R (Option D)}{pins:List (Addr×Obj)}{σ:St}{aB:Hp}{ax:ah}{F:List Addr}{Γ:G}{items:List D}{it:Addr}{fp:List Addr}{tn:Nat->Heap->Prop}{J:It}{E:Value->ah->Prop}{res:R (List D)}{L:Addr}
 (hp:Ht X y scope ifs elt f) (c:r6 X.N X.env y scope) (hN:X.N.Nodup) (fq:X.calm=true) (I:Inv X pins σ aB ax) (fo:bL aB F) (rl:Rel X.K aB F Γ σ) (T:Turn X.prog X.w X.K (.Name y px) J fp it tn) (t0:tn 0 ax.heap) (hf:∀b∈fp,fU X pins aB b) (hj:JC X.K aB F J items)
 (hex:X.ex=[]) (nJ:X.stack=X.env::X.outer) (ji:X.env.frame=some L) (ht:j9 (λd=>f d Γ) items []=res) (n6:res ≠ .no) (hl:items.length<=100000) {RR:Value->Addr->mE->ah->Prop}
 (hE:∀(Dd C:Addr) (oC:Obj) (m:Str->Option Value) (c:Er) (x:Value) (H':Hp) (s':ah),ax.heap.objs.size<=C->res = .er c->aO aB H'->(∀h:Heap,h.get? C=some oC->h.Ns C m)->se X (pins++[(C,oC)]) σ H' c x s' (lB L)->RR (.ref Dd) C (.error x) s')
 (hR:∀(total:List D) (Dd C:Addr) (xs:List V) (H':Hp) (m:Str->Option Value) (s':ah),res = .ok total->ax.heap.objs.size<=C->Dd≠C->aB Dd=none->H' Dd=none->H' C=none->ax.heap.objs.size<=Dd->aO aB H'->aq X.K (aH F H') total xs->Inv X pins σ (upd H' Dd (.lst xs)) s'->s'.heap.Ns C m->RR (.ref Dd) C (.ok .next) s') :
 au (aD X.prog X.w) X.A (uG []) (λacc dR=>au (aD X.prog X.w) X.A (w9 scope X.env.globals (cK X.env scope.names []) [] X.env.qual none .none (some X.env)) (λcenv dD=>cenv.frame=X.env.frame /\
  jl (aD X.prog X.w) X.A (.compStart (.ListComp elt [⟨.Name y px,iter,ifs,0⟩] scope pos) 0 (.ref it) acc { cenv with scope:=iK scope X.env }) (RR acc cenv.locals) dD) E dR) E ax:=by
 refine Pa (f:=f) (Γ:=Γ) (F:=F) (λDd C ps s x H d hC kc J S fo rl bS rY=>?_) c hN fq I fo rl T t0 hf hj ht n6 hl hR
 have vm:∀{s5:ah} {H7:Hp} {dS:St},Inv (cY X y scope C ax aB fp (X.pn++pins++ps)) [] dS H7 s5->Inv (cY X y scope C ax aB fp (X.pn++pins)) ps dS H7 s5:=λJ=>P0 J λp cJ=>kH _ cJ
 have P1:∀{xx:Value} {s5:ah},(∃c' H7,f d Γ = .er c'/\aO H H7/\pA (cY X y scope C ax aB fp (X.pn++pins++ps)) [] (some x::σ) H7 c' xx s5)->NX X scope RR Dd C xx s5:=λ{xx s5} ⟨c',H7,ef,S7,fl⟩=>by
  obtain⟨oC,m,hC1,fl'⟩:=x8y I hex hC hf fl
  show au _ X.A (KL xx X.env) _ _ s5
  exact B5 hex nJ ji fl' λs6 f6=>hE Dd C oC m c' xx H7 s6 hC (rY c' ef) (S.trans S7) hC1 f6
 refine az (hp.run C ax aB fp (X.pn++pins++ps) (λb hb=>(kc b hb).imp λo h=>dW _ h) [] s _ H F Γ d (P0 J λp cJ=>(List.mem_append.mp cJ).elim (λq=>q) λq=>nomatch q) fo rl bS) (λok s4 h4=>?_) λ_ _=>P1
 cases ok with
 | false =>
   obtain⟨ef,H7,J7,S7⟩:=h4
   exact⟨ef,H7,vm J7,S7⟩
 | true=>exact az h4 (λu7 s5 ⟨e,v7,H7,ef,J7,r7,S7,yR⟩=>⟨e,v7,H7,ef,vm J7,r7,S7,yR⟩) λ_ _=>P1
def w0s{L:Addr}{elt iter:Expr}{px pos:Pos}{ifs:List Expr}{f:D->G->R (Option D)}{gi:G->R (List D)}(hi:tV X (.Name y px) iter gi)(hp:Ht X y scope ifs elt f)(hN:X.N.Nodup)(fq:X.calm=true)(hex:X.ex=[])(nJ:X.stack=X.env::X.outer)(ji:X.env.frame=some L)
 (oB:tZ X.N X.env y scope=true:=by rfl) (mq:xc scope X.env=pure (cK X.env scope.names []):=by rfl) (hs:∀x,uH iter X.env x=pure x:=by intro _;rfl) :
 PF X (.ListComp elt [⟨.Name y px,iter,ifs,0⟩] scope pos) (z9w gi f):=by
 refine⟨λpins s σ H F Γ I fo rl hg=>?_⟩
 have c:=yF oB
 rw[KD]
 refine x8x rfl hs mq c.kind c.names (az (hi.run pins s σ H F Γ I fo rl (R.left hg)) (λxv cD dQ=>az dQ (λlN ax mr=>?_) λ_ _ x=>x.bind _) λ_ _ x=>x.bind _)
 obtain⟨items,it,fp,tn,J,aB,e1,rfl,I2,S2,T,t0,fk,jc⟩:=mr
 have fL:=R.next hg e1
 obtain⟨hl,e2⟩:=R.cU fL
 have bS:j9 (λd=>f d Γ) items [] ≠ .no:=by
  have:=R.next hg e1
  rw[e2] at this;exact this
 have eR:z9w gi f Γ=j9 (λd=>f d Γ) items []:=(R.step e1 _).trans e2
 refine x4t (RR:=λacc C=>PX (aD X.prog X.w) X.A _ _ X.env acc C) hp c hN fq I2 (fo.same S2) (rl.same S2) T t0 fk jc hex nJ ji rfl bS hl ?_ ?_
 ·intro Dd C oC m c' x H' s' hC er S' hCm fl
  obtain⟨I',e,Ce,oe,vs,h1,h2,h3,h4,h5,h6,h7,h8,h9,jh,jU,T',oT,ts,k1,k2,k3,k4,k5,k6,k7,k8,k9,jV⟩:=fl
  have pC:=I'.pin (C,oC) (dW _ (dW _ (by simp)))
  have eC:C≠e:=h7 (C,oC) (dW _ (dW _ (by simp)))
  have TC:C≠T':=k6 (C,oC) (dW _ (dW _ (by simp)))
  refine⟨m,hCm _ pC.1,λjS kd ce hce=>?_⟩
  have I0:Inv X pins σ H' s':=I'.q_ λp cJ=>I'.pin p (dW _ (kH _ cJ))
  have ip:∀{b:Addr} {o:Obj},ax.heap.get? b=some o->b≠C:=λe=>dM (dc (bX e) hC)
  have qz:Inv X pins σ H' { s' with heap:=jS }:=I0.turned (t':=s'.toks) (it:=C) (λb o hb e=>kd.extBut b o hb e) pC.2.1 pC.2.2.1 (.inr (fG I2.sz hC))
   (λx k e=>by obtain⟨v,o,ho,_⟩:=I2.cell x k e;exact ip ho) (λp cJ=>ip (I2.pin p cJ).1)
  have zc:se X pins σ H' c' x { s' with heap:=jS } (lB L):=⟨qz,e,Ce,oe,vs,h1,h2,h3,h4,h5,h6,λp cJ=>h7 p (by
   rcases List.mem_append.mp cJ with q | q
   ·exact kH _ q
   ·exact dW _ (kH _ q)),kd.extBut e oe (eA eC) h8,h9,jh,jU,T',oT,ts,k1,k2,k3,k4,k5,λp cJ=>k6 p (by
   rcases List.mem_append.mp cJ with q | q
   ·exact kH _ q
   ·exact dW _ (kH _ q)),k7,kd.extBut T' oT (eA TC) k8,k9,jV⟩
  subst h1
  unfold PySem.passOn
  refine aI (oN (kd.extBut e oe (eA eC) h8) jh k1 ?_)
  rw[if_neg (show ¬((fF T'==qL)=true) from by simp)]
  rw[hce,ji]
  refine aI (y9 zc λs9 f9=>?_)
  exact wpAny_throw ⟨c',H',eR.trans er,S2.trans S',f9.here ji⟩
 ·intro total Dd C xs H' m s' et hC fm hn gI jg hD S' ia I' oE
  refine⟨m,oE,λjS kd=>?_⟩
  have ip:∀{b:Addr} {o:Obj},ax.heap.get? b=some o->b≠C:=λe=>dM (dc (bX e) hC)
  have qz:Inv X pins σ (upd H' Dd (.lst xs)) { s' with heap:=jS }:=I'.turned (t':=s'.toks) (it:=C) (λb o hb e=>kd.extBut b o hb e) (by rw[bM (eA fm)];exact jg) (nV (dc I2.lt hC)) (.inr (fG I2.sz hC))
   (λx k e=>by obtain⟨v,o,ho,_⟩:=I2.cell x k e;exact ip ho) (λp cJ=>ip (I2.pin p cJ).1)
  have S3:=g7 gI (.lst xs)
  refine⟨total,Dd,xs,_,eR.trans et,qz,rfl,(S2.trans S').trans S3,S2.free hn,dj,ia.same λb o hb=>?_⟩
  obtain⟨z1,z2⟩:=ja hb
  have gF:b≠Dd:=ib z2 gI
  rw[di λz=>(List.mem_cons.mp z).elim gF z1,bM gF]
  exact z2
end
section
variable {X:Cx}{e a b c:Expr}{g ga gb gc:G->R D}{pos p:Pos}{x:Str}{es:List Expr}{gs:G->R (List D)}
def w8n{pins:List (Addr×Obj)}{σ:St}{H:Hp}{s:ah}{q:Addr}(I:Inv X pins σ H s)(kc:∀b∈X.ex,∃o,(b,o)∈X.pn)(hq:s.heap.get? q=none):X.s₀.heap.get? q=none/\q≠X.env.locals/\(∀y k,X.env.cells.lookup y=some k->k≠q)/\(∀p∈X.pn++pins,p.1≠q):=by
 refine⟨?_,λz=>?_,λy k ek z=>?_,λp hp z=>?_⟩
 ·cases e0:X.s₀.heap.get? q with
  | none=>rfl
  | some o =>
    obtain⟨o',e1⟩:=I.base.there q o e0 λz=>by
     obtain⟨o,hm⟩:=kc q z
     have:=(I.pin (q,o) (kH _ hm)).1
     rw[hq] at this;cases this
    rw[hq] at e1;cases e1
 ·obtain⟨m,⟨o,_,_,ho,_⟩,_⟩:=I.loc
  rw[<-z,hq] at ho;cases ho
 ·obtain⟨v,o,ho,_⟩:=I.cell y k ek
  rw[z,hq] at ho;cases ho
 ·have ho:=(I.pin p hp).1
  rw[z,hq] at ho;cases ho
def y7e{pins:List (Addr×Obj)}{σ:St}{H:Hp}{s s':ah}{u:Value}{r:R D}{E:XK}(kc:∀b∈X.ex,∃o,(b,o)∈X.pn)(I:Inv X pins σ H s)(h:nC X.prog X.w X.stack H s E u s')
 (hE:∀C H',E (.ref C) none H'->∃c,r = .er c/\X.mg c.nm=some (.ref C)/\aO H H'):cw X pins σ H r u s':=by
 obtain⟨e,C,T,oe,oT,vs,ts,H',rfl,os,bare,un,aN,Gr,Gs,tU,Gu,Gv,Gw,hv,Gx,Gy,vN,Gz,GA,vS,BQ⟩:=h
 obtain⟨c,er,hm,S⟩:=hE C H' BQ
 obtain⟨hh,gg,dd,tt,nZ⟩:=s'
 obtain rfl:nZ=s.os:=os
 have I':Inv X pins σ H' { s with heap:=hh,gens:=gg,drawn:=dd,toks:=tt }:=I.call (h':=hh) (g':=gg) (d':=dd) (t':=tt) (ch:=[]) un aN bare (λb z=>absurd z (by simp))
 have fr:∀q:Addr,s.heap.get? q=none->X.s₀.heap.get? q=none/\q≠X.env.locals/\(∀y k,X.env.cells.lookup y=some k->k≠q)/\(∀p∈X.pn++pins,p.1≠q):=λq hq=>w8n I kc hq
 obtain⟨f1,f2,f3,f4⟩:=fr e Gs
 obtain⟨g1,g2,g3,g4⟩:=fr T Gy
 exact⟨c,H',er,S,I',e,C,oe,vs,rfl,hm,Gr,f1,f2,f3,f4,tU,Gu,Gv,Gw,.inr ⟨T,oT,ts,hv,Gx,g1,g2,g3,g4,vN,Gz,GA,.inl vS⟩⟩
def w9j{k:Nat}{f:Addr}{fd:cB}{ps:List Str}{φ:List D->R D}(Fn:g8 X.prog X.w X.K X.mg X.base k f fd ps φ)(hr:dO k X.A){pins:List (Addr×Obj)}{σ:St}{H:Hp}{s:ah}{us:List Value}{vs:List V}{ds:List D}
 (I:Inv X pins σ H s) (r:Vals vs us) (i:aq X.K H ds vs) (hg:φ ds ≠ .no) (kc:∀b∈X.ex,∃o,(b,o)∈X.pn):au (aD X.prog X.w) X.A (call (.ref f) us) (du X pins σ H (φ ds)) (cw X pins σ H (φ ds)) s:=by
 have eE:yE X.K X.mg φ vs H (λv H'=>∃d,φ ds = .ok d/\aO H H'/\Is X.K H' d v) (λC' _ H'=>∃c C,C' = .ref C/\φ ds = .er c/\X.mg c.nm=some (.ref C)/\aO H H') :=
  ⟨ds,i,hg,λd v H' e S iv=>⟨d,e,S,iv⟩,λc C H' e hm S=>⟨c,C,rfl,e,hm,S⟩⟩
 have hl:us.length=ps.length:=by rw[<-r.length];exact Fn.ok.len _ _ _ _ eE
 have hb:=Fn.binds s us I.gH (by rw[kJ];exact hl)
 rw[kJ] at hb
 refine zV (qR (Fn.ok.run X.A X.stack s H ⟨us,[]⟩ us vs _ _ hr I.xA hb r eE) λr' s' hq=>?_)
 cases r' with
 | error u =>
   refine y7e (E:=λC' _ H'=>∃c C,C' = .ref C/\φ ds = .er c/\X.mg c.nm=some (.ref C)/\aO H H') kc I hq λC H' hE=>?_
   obtain⟨c,C',e,h1,h2,h3⟩:=hE
   cases e
   exact⟨c,h1,h2,h3⟩
 | ok fl =>
   cases fl with
   | ret u =>
     obtain⟨v,H',I',rv,d,e,S,iv⟩:=I.after hq
     exact⟨d,v,H',e,I',rv,S,iv⟩
   | next=>exact cx hq
   | brk=>exact cx hq
   | cont=>exact cx hq
def w0v{k:Nat}{f:Addr}{fd:cB}{ps:List Str}{φ:List D->R D}(Fn:g8 X.prog X.w X.K X.mg X.base k f fd ps φ)(hr:dO k X.A)(hm:X.mg x=some (.ref f))(ha:nv X (e::es) gs)(kc:∀b∈X.ex,∃o,(b,o)∈X.pn)(hg:Gl X x:=by rfl)(gN:(x==("__debug__":Str))=false:=by decide)
 (he:aT (e::es) X.env=(false,eval e X.env)::aT es X.env:=by rfl) (gu:(cH pos (aT es X.env)).any (·.1)=false:=by rfl):PD X (.Call (.Name x p) (e::es) [] pos) (ay φ gs):=by
 refine⟨λpins s σ H F Γ I fo rl bW=>?_⟩
 refine kL (nX I hg hm ?_ gN)
 refine wX (h₀:=X.base) I.ok.mod.oW Fn.kp (az (ha.run pos pins s σ H F Γ I fo rl (R.left bW)) (λus s1 ⟨ds,vs,H1,e1,I1,r1,S1,i1⟩=>⟨I1.gH,?_⟩) λ_ _ x=>x.bind _) he gu
 exact az (w9j Fn hr I1 r1 i1 (R.next bW e1) kc) (λ_ _ q=>du.bind e1 S1 q) λ_ _ q=>cw.later e1 S1 q
end
section
variable {X:Cx}{e:Expr}{g:G->R D}{pos p pos':Pos}
end
section
variable {X:Cx}{e a b c:Expr}{g ga gb gc:G->R D}{pos:Pos}
def P2:∀bs:List Bool,((eW bs.length).all λi=>(bs[i]?).getD true)=bs.all (λb=>b)
 | []=>rfl
 | b::bs=>by
   rw[b6,Km,zQ,CK,zQ,<-P2 bs]
   rfl
def x9s(hc:X.calm=true):i6 X (.builtin "all") (λxs H Q=>∃(a:Addr) (bs:List Bool),xs=[.ref a]/\cA X.K H a (bs.map V.bl)/\Q (.bl (bs.all (λb=>b))) H):=by
 intro pins s σ H xs us Q I r h
 obtain⟨a,bs,rfl,hq,q⟩:=h
 obtain⟨u,rfl,ru⟩:=mM r
 cases ru
 obtain⟨its,rv,pl,_⟩:=I.list hq
 have hl:=pl.isList
 have cW:a<s.heap.objs.size:=by obtain⟨_,e,_⟩:=hl;exact bX e
 have hlen:its.length=bs.length:=by rw[<-rv.length,aX]
 refine call_all_walk (C2 hl ?_)
 refine⟨s.heap.objs.size,[s.heap.objs.size,a],[s.heap.objs.size],its.toArray.size,_,_,λi=>(bs[i]?).getD true,rfl,Th (A:=X.A.in1) (I.ok.hd hc) _ a (dM cW) its.toArray,
  ⟨⟨_,gf _ rfl,rfl,rfl⟩,hl.push _⟩,λi v s' Q' E' hP hQ=>?_,λh' tk hk=>?_⟩
 ·obtain⟨b,e,rfl⟩:=Gq rv (i:=i) (v:=v) (by simpa using hP)
  simp only[e,CQ] at hQ
  exact wW hQ
 ·have e:((eW its.toArray.size).all λi=>(bs[i]?).getD true)=bs.all (λb=>b):=by
   rw[de,hlen];exact P2 bs
  refine⟨.bl (bs.all (λb=>b)),H,I.kept (λb x ex=>hk b x (λhm=>by rw[List.mem_singleton.mp hm] at ex;exact mB _ (bX ex)) (dE _ ex)),by rw[e];rfl,q⟩
def Hu(hc:X.calm=true):kx X (.builtin "all") n7:=by
 refine⟨_,x9s (X:=X.bY) hc,λH xs ds i hg=>?_⟩
 unfold n7 at hg
 split at hg
 ·rename_i ys
  obtain⟨v,rfl,h⟩:=jR i
  obtain⟨a,zs,rfl,h1,h2⟩:=Is.fC.mp h
  cases q:mT ys with
  | none=>rw[q] at hg;exact absurd rfl hg
  | some ns =>
    have:=DS q
    subst this
    rw[h2.Gp] at h1
    exact⟨a,ns,rfl,h1,.bl (ns.all (λb=>b)),by show n7 [.lst (ns.map D.bl)]=_;simp only[n7,q],.refl _,Is.gD.mpr rfl⟩
 ·exact absurd rfl hg
end
namespace Rv
def a0o:isSubtype (.type "reversed") (.type "object")=pure true:=by rw[Tv];rfl
def w6y:Slot "reversed" (jn "__init__") "object.__init__":=Tw (owner:="object") (n:="__init__") (by rw[xj,xl];rfl) (by decide +kernel) (by decide +kernel) (by decide +kernel) (.inl (by decide +kernel)) a0o (by decide +kernel)
def zf:Slot "reversed" (jn "__next__") "reversed.__next__":=Tw (owner:="reversed") (n:="__next__") (by rw[xj,xl];rfl) (by decide +kernel) (by decide +kernel) (by decide +kernel) (.inl (by decide +kernel)) Tx (by decide +kernel)
def P4:Slot "reversed" (jn "__iter__") "reversed.__iter__":=Tw (owner:="reversed") (n:="__iter__") (by rw[xj,xl];rfl) (by decide +kernel) (by decide +kernel) (by decide +kernel) (.inl (by decide +kernel)) Tx (by decide +kernel)
def called:TypeCalled "reversed" "reversed.__new__" "object.__init__":=⟨by decide +kernel,by decide +kernel,⟨_,_,F.mro_reversed⟩,F.made_reversed,by decide +kernel,Tx,w6y⟩
def P5:entryFor table "reversed.__next__"=some Builtin.«reversed.__next__»:=entryFor_of_tree rfl
def a0p:entryFor table "reversed.__iter__"=some Builtin.«dict_keyiterator.__iter__»:=entryFor_alias rfl rfl (show _="dict_keyiterator.__iter__" from by decide +kernel) rfl
def owner:List.lookup (String.ofList ['d','e','s','r','e','v','e','r'].reverse) Manifest.owners=some Manifest.sig_reversed:=rfl
def P6(a:Value):argsOk "reversed.__next__" ⟨[a],[]⟩:=by
 show(match a6p "reversed.__next__" with | some sig=>a6q "reversed.__next__" sig ⟨[a],[]⟩ | none=>pure ())=pure ()
 rw[signature?_of (n:=['_','_','t','x','e','n','_','_']) (o:=['d','e','s','r','e','v','e','r']) rfl owner];rfl
def a0q(a:Value):argsOk "reversed.__iter__" ⟨[a],[]⟩:=by
 show(match a6p "reversed.__iter__" with | some sig=>a6q "reversed.__iter__" sig ⟨[a],[]⟩ | none=>pure ())=pure ()
 rw[signature?_of (n:=['_','_','r','e','t','i','_','_']) (o:=['d','e','s','r','e','v','e','r']) rfl owner];rfl
def a0r:CJ (.type "tuple") (jn "__reversed__")=pure none:=by rw[xj,xl];rfl
def P7:CJ (.type "tuple") (jn "__getitem__")=pure (some (.builtin "tuple.__getitem__")):=by rw[xj,xl];rfl
def a0s:isSubtype (.type "tuple") (.type "dict")=pure false:=by rw[Tv];rfl
end Rv
abbrev qB (h:Heap) (r t:Addr) (i:Int):Prop:=h.get? r=some { cls:=.type "reversed",data:=.fields #[.ref t,lB i] }
section
variable {prog:aS}{w:aR}{A:Around}{E:Value->ah->Prop}{s:ah}
def x5a{t:Addr}{items:Array Value}{Q:Value->ah->Prop}(ht:s.heap.IsTuple t items)(hz:(items.size:Int)<2^63)(h:∀tk,Q (.ref s.heap.objs.size) { s with heap:=s.heap.push { cls:=.type "reversed",data:=.fields #[.ref t,lB ((items.size:Int)-1)] },toks:=tk }) :
 au (aD prog w) A (Builtin.«reversed.__new__» ⟨[.type "reversed",.ref t],[]⟩) (λfin s'=>∃v,fin = .done (.ret v)/\Q v s') E s:=by
 refine(show au _ _ (Builtin.SmallTypes.newClass "reversed" ⟨[.type "reversed",.ref t],[]⟩>>=_) _ _ _ from aI (xi (newClass_reversed (.ref t)) ?_))
 refine(show au _ _ (Builtin.SmallTypes.refuseKeywords "reversed" (.type "reversed") ⟨[.type "reversed",.ref t],[]⟩>>=_) _ _ _ from aI (xi rfl (aI (xi rfl (aI (z9 ht.typeIs Rv.a0r ?_))))))
 refine(show au _ _ ((isInstance (.ref t) (.type "dict")>>=_)>>=_) _ _ _ from aI (aI (Tz ht.typeIs Rv.a0s ?_)))
 refine(show au _ _ (specialOf (.ref t) (jn "__getitem__")>>=_) _ _ _ from aI (z9 ht.typeIs Rv.P7 ?_))
 have hl:sr s.heap t items:=ht
 refine xi (a:=true) rfl ?_
 refine(show au _ _ (call (.builtin "len") [.ref t]>>=_) _ _ _ from aI (Sd hl hz ?_))
 refine(show au _ _ (asInt? (.int (items.size:Int) (s.toks+1))>>=_) _ _ _ from aI (bR ?_))
 refine(show au _ _ (newObj (.type "reversed") (.fields #[.ref t,lB ((items.size:Int)-1)])>>=_) _ _ _ from aI (sA ?_ (by size_fits)))
 exact bR ⟨_,rfl,h _⟩
def x2z{r t:Addr}{i:Nat}{items:Array Value}{x:Value}{Q:Option Value->ah->Prop}(hr:qB s.heap r t (i:Int))(ht:s.heap.IsTuple t items)(hz:(i:Int)<2^63)(hx:items[i]? = some x)(hQ:∀h' tk,qB h' r t ((i:Int)-1)->su r s.heap h'->Q (some x) { s with heap:=h',toks:=tk }):au (aD prog w) A (qN (.ref r)) Q E s:=by
 have hT:s.TypeIs (.ref r) "reversed":=⟨_,hr,rfl⟩
 have hl:sr s.heap t items:=ht
 unfold qN
 refine aI (KR (J4 (name:=jn "__next__") hT Rv.zf (zH Rv.zf hT Rv.P5 ?_ (Rv.P6 _))))
 refine(show au _ _ (C7 (.ref r) 0>>=_) _ _ _ from aI (oN hr rfl (x:=.ref t) rfl (show au _ _ (C7 (.ref r) 1>>=_) _ _ _ from aI (oN hr rfl (x:=.int (i:Int) 0) rfl ?_))))
 have Hv:¬((i:Int)<0):=by lia
 simp only[Hv,if_false]
 refine aI (z9 ht.typeIs Rv.P7 ?_)
 simp only[Option.isNone_some,oU,if_false]
 refine aI (wpAny_mkInt ?_)
 refine aI (KR (getItem_tuple hl (by lia) (by lia) (j:=i) ?_ hx ?_))
 ·have cW:i<items.size:=by
   rcases Kr i items.size with z | z
   ·exact z
   ·rw[a6r z] at hx;cases hx
  unfold Ss
  simp
  lia
 ·refine(show au _ _ (C7 (.ref r) 1>>=_) _ _ _ from aI (oN (s:={ s with toks:=s.toks+1 }) hr rfl (x:=.int (i:Int) 0) rfl (aI (TB (s:={ s with toks:=s.toks+1 }) hr (by simp) λh' (hr':qB h' r t ((i:Int)-1)) hn=>bR ⟨x,rfl,bR (hQ h' _ hr' hn)⟩))))
def x5b{r t:Addr}{Q:Option Value->ah->Prop}(hh:A.handled=none)(hr:qB s.heap r t (-1))(hQ:∀h' tk,(∀c o,c≠r->s.heap.get? c=some o->h'.get? c=some o)->Q none { s with heap:=h',toks:=tk }):au (aD prog w) A (qN (.ref r)) Q E s:=by
 have hT:s.TypeIs (.ref r) "reversed":=⟨_,hr,rfl⟩
 unfold qN
 refine aI (KR (J4 (name:=jn "__next__") hT Rv.zf (zH Rv.zf hT Rv.P5 ?_ (Rv.P6 _))))
 refine(show au _ _ (C7 (.ref r) 0>>=_) _ _ _ from aI (oN hr rfl (x:=.ref t) rfl (show au _ _ (C7 (.ref r) 1>>=_) _ _ _ from aI (oN hr rfl (x:=.int (-1) 0) rfl ?_))))
 have Hv:((-1:Int)<0):=by decide
 simp only[Hv,if_true]
 refine aI (KN (show au _ _ ((setField (.ref r) 1 (lB (-1))>>=_)>>=_) _ _ _ from aI (aI (TB hr (by simp) λh1 (hr1:qB h1 r t (-1)) n1=>TB hr1 (by simp) λh2 Cg n2=>?_))))
 refine aI (show au _ _ (newExc (.type "StopIteration") []>>=_) _ _ _ from aI ?_)
 simp only[newExc,newTuple]
 refine aI (sA (aI (m:=a6s _ _) (xi (a:=qL) (by first | rfl | (simp only[a6s];rfl)) (sA ?_ (by size_fits)))) (by size_fits))
 simp only[raiseNew]
 refine aI (wpAny_handled ?_)
 first | rw[show A.in1.handled=none from hh] | rw[hh]
 refine aI (bR (wpAny_throw ?_))
 exact aI (Tz (T:="StopIteration") (b:=true) ⟨_,gf _ rfl,rfl⟩ isSubtype_stop (bR (hQ _ _ λc o hc e=>dE _ (dE _ (n2.extBut _ _ hc (n1.extBut _ _ hc e))))))
def P8{r t:Addr}{i:Int}{Q:Value->ah->Prop}(hr:qB s.heap r t i)(h:Q (.ref r) s):au (aD prog w) A (qO (.ref r)) Q E s:=by
 have hT:s.TypeIs (.ref r) "reversed":=⟨_,hr,rfl⟩
 exact wpAny_pyIter_slot hT Rv.P4 (zH Rv.P4 hT Rv.a0p (bR ⟨.ref r,rfl,"reversed",_,hT,Rv.zf.lookup,h⟩) (Rv.a0q _))
def w1f(t:Addr)(items:Array Value):C0 (Builtin.«reversed.__new__» ⟨[.type "reversed",.ref t],[]⟩) (λ_ R s=>s.heap.IsTuple t items/\(items.size:Int)<2^63/\∀tk,R (.ok (.ret (.ref s.heap.objs.size))) { s with heap:=s.heap.push { cls:=.type "reversed",data:=.fields #[.ref t,lB ((items.size:Int)-1)] },toks:=tk }) :=
 .of_wp λprog w A R s h=>x5a h.1 h.2.1 λtk=>h.2.2 tk
def w6j{t:Addr}{items:Array Value}{Q:Value->ah->Prop}(ht:s.heap.IsTuple t items)(hz:(items.size:Int)<2^63)(h:∀h' tk,qB h' s.heap.objs.size t ((items.size:Int)-1)->(∀c o,s.heap.get? c=some o->h'.get? c=some o)->Q (.ref s.heap.objs.size) { s with heap:=h',toks:=tk }):au (aD prog w) A (call (.type "reversed") [.ref t]) Q E s:=by
 refine callType_new Rv.called (by decide) (F.typeCall_reversed_1 _) (F.newCall_reversed_1 _) (λobj=>F.args_object_init_2 obj _) F.entry_reversed_new (w1f t items) ⟨ht,hz,λtk=>?_⟩
 exact⟨⟨_,gf _ rfl,rfl⟩,h _ tk (gf _ rfl) λc o e=>dE _ e⟩
end
def Hw(K:aE)(a:Addr)(n:Nat):It :=
 ⟨λi H=>∃xs x,cC K H a xs/\xs.length=n/\i<n/\xs[n-1-i]? = some x,λi H x H'=>H'=H/\∀xs,cC K H a xs->xs[n-1-i]? = some x,λi H=>∃xs,cC K H a xs/\xs.length=n/\i=n⟩
def w0b{P:aS}{w:aR}{K:aE}{tg:Expr}(a it:Addr)(n:Nat):Turn P w K tg (Hw K a n) [it] it (λi h=>qB h it a ((n:Int)-1-(i:Nat))) where
 mem:=by simp
 obj:=λi h st b hb=>by
  have e:b=it:=by simpa using hb
  subst e
  exact⟨_,st,λv z=>by
   have z':Sa _=Sb v:=z
   cases z'⟩
 keep:=λi h h' st k=>k it (by simp) _ st
 item:=by
  intro X hP hw hK hc i pins s σ H E I hf st hg
  subst hP hw hK
  obtain⟨xs,x,hq,hl,hi,hx⟩:=hg
  obtain⟨its,rv,p,hz⟩:=I.tuple hq
  obtain⟨u,hu,ru⟩:=rv.get hx
  obtain⟨f0,f1,f2,f3,f4,f5⟩:=hf it (by simp)
  have hle:=lD
  have e1:((n:Int)-1-(i:Nat))=((n-1-i:Nat):Int):=by lia
  rw[e1] at st
  refine x2z st (show s.heap.IsTuple a its.toArray from p) (by rw[hle] at hz;lia) (x:=u) (by simpa using hu) λh' tk iL sb=>?_
  have I1:Inv X pins σ H { s with heap:=h',toks:=tk }:=I.turned (λb o hb e=>(sb.2 b hb).trans e) f0 f1 f3 f4 f5
  rw[<-e1,show((n:Int)-1-(i:Nat)-1)=(n:Int)-1-((i+1:Nat):Int) by lia] at iL
  exact⟨u,rfl,uR (s:={ s with heap:=h',toks:=tk }) (n:="reversed") iL rfl rfl (by decide) ⟨x,H,I1,ru,⟨rfl,λys hy=>by rw[I.Lf hy hq];exact hx⟩,iL,λb hb=>(hf b hb).1⟩⟩
 done:=by
  intro X hP hw hK hc i pins s σ H E I hf st hg
  subst hP hw hK
  obtain⟨xs,hq,hl,hi⟩:=hg
  obtain⟨f0,f1,f2,f3,f4,f5⟩:=hf it (by simp)
  rw[show((n:Int)-1-(i:Nat)) = -1 by lia] at st
  exact x5b (I.ok.hd hc) st λh' tk kk=>⟨rfl,I.turned (λb o hb e=>kk b o hb e) f0 f1 f3 f4 f5⟩
 self:=λ_ _ _ _ _ st h=>P8 st h
def w8j{K:aE}{H:Hp}{F:List Addr}{p:Addr}{xs:List V}{ds:List D}(h:cC K H p xs)(i:aq K (aH F H) ds xs):JC K H F (Hw K p xs.length) ds.reverse:=λH1 S=>by
 have h1:cC K H1 p xs:=qq S h
 have il:=i.length
 refine⟨λj hj=>?_,⟨xs,h1,rfl,by rw[qT];lia⟩⟩
 rw[qT] at hj
 refine⟨⟨xs,xs[xs.length-1-j]'(by lia),h1,rfl,by lia,fu (by lia)⟩,λx H2 y=>⟨y.1,?_⟩⟩
 obtain⟨d,ed,iv⟩:=i.yB (y.2 xs h1)
 exact⟨d,by rw[a6t hj,<-ed];congr 1;lia,iv.same (iT S)⟩
def P9:lA ("reversed":Str)=some (.type "reversed"):=by decide +kernel
section
variable {X:Cx}{a:Expr}{ga:G->R D}
def w4u{tg:Expr}{p pos:Pos}(ha:PD X a ga)(hm:X.mg "reversed"=none)(hg:Gl X "reversed":=by rfl)(hs:aT [a] X.env=[(false,eval a X.env)]:=by rfl) :
 tV X tg (.Call (.Name "reversed" p) [a] [] pos) (gRev ga):=by
 refine⟨λpins s σ H F Γ I fo rl bW=>?_⟩
 refine wY (iu I hg hm P9 (oV ?_ hs rfl))
 rw[hs]
 show au _ _ (e9 ((false,eval a X.env)::cH pos [])) _ _ s
 refine fT (az (ha.run pins s σ H F Γ I fo rl (R.left bW)) (λu s1 ⟨d,v,H1,e1,I1,r1,S1,i1⟩=>iJ ?_) λ_ _ x=>x.bind _)
 have aM:=R.next bW e1
 cases d with
 | tup ds =>
   obtain⟨n1,e5⟩:=R.cU (show R.guard (D.bC ds=true) (.ok ds.reverse) ≠ .no from aM)
   obtain⟨l,xs,rfl,q1,j1⟩:=Is.fB.mp i1
   have Hn:=aq.aH (fo.same S1) _ xs n1 j1
   cases (show u=fF l from r1)
   obtain⟨its,rv,pl,hz⟩:=I1.tuple q1
   have hle:=lD
   have hlen:=rv.length
   refine w6j (show s1.heap.IsTuple l its.toArray from pl) (by rw[hle] at hz;simp;lia) λh' tk a1 a2=>?_
   refine P8 (s:={ s1 with heap:=h',toks:=tk }) a1 ?_
   have I3:Inv X pins σ H1 { s1 with heap:=h',toks:=tk }:=I1.kept a2
   refine⟨ds.reverse,s1.heap.objs.size,_,_,Hw X.K l xs.length,H1,(R.step e1 _).trans e5,rfl,I3,S1,w0b l _ xs.length,?_,λc hc=>?_,w8j q1 Hn⟩
   ·show qB h' s1.heap.objs.size l ((xs.length:Int)-1-((0:Nat):Int))
    rw[show((xs.length:Int)-1-((0:Nat):Int))=(its.toArray.size:Int)-1 by simp;lia]
    exact a1
   ·have e:c=s1.heap.objs.size:=by simpa using hc
    subst e
    exact I1.sO (a9 _) (I1.aN.fresh (a9 _))
 | _=>exact absurd rfl aM
end
section
variable {X:Cx}{e:Expr}{pos p:Pos}{x:Str}{es:List Expr}{gs:G->R (List D)}
def P_{k:Nat}{f:Addr}{fd:cB}{ps:List Str}{φ:List D->R D}(Fn:g8 X.prog X.w X.K X.mg X.base k f fd ps φ)(hr:dO k X.A){pins:List (Addr×Obj)}{σ:St}{H:Hp}{F:List Addr}{s:ah}{us:List Value}{vs:List V}{ds:List D}{d':D}{EE:Value->ah->Prop}
 (I:Inv X pins σ H s) (fo:bL H F) (r:Vals vs us) (i:aq X.K (aH F H) ds vs) (hg:φ ds = .ok d'):au (aD X.prog X.w) X.A (call (.ref f) us) (λu s'=>∃v H',Inv X pins σ H' s'/\RelV v u/\aO H H'/\Is X.K (aH F H') d' v) EE s:=by
 have eE:yE X.K X.mg φ vs (aH F H) (λv H'=>aO (aH F H) H'/\Is X.K H' d' v) (λ_ _ _=>False) :=
  ⟨ds,i,(by rw[hg];exact λz=>nomatch z),λd v H' e S iv=>by rw[hg] at e;cases e;exact⟨S,iv⟩,λc C H' e=>by rw[hg] at e;cases e⟩
 have hl:us.length=ps.length:=by rw[<-r.length];exact Fn.ok.len _ _ _ _ eE
 have hb:=Fn.binds s us I.gH (by rw[kJ];exact hl)
 rw[kJ] at hb
 have nh:∀{b:Addr},H b=none->aH F H b=none:=λ{b} q=>by
  by_cases hb:b∈F
  ·exact rX hb
  ·rw[di hb];exact q
 have e0:=I.xA
 have en:uU X.prog X.w X.K X.mg X.base X.A X.stack s (aH F H):=⟨e0.frames,e0.mod,λb o q=>⟨(e0.bs b o q).1,nh (e0.bs b o q).2⟩,e0.kl,e0.j4,λb hb=>nh (e0.lJ b hb),PV fo e0.aN,e0.bare⟩
 refine zV (qR (Fn.ok.run X.A X.stack s (aH F H) ⟨us,[]⟩ us vs _ _ hr en hb r eE) λr' s' hq=>?_)
 cases r' with
 | error u=>obtain⟨_,_,_,_,_,_,_,_,_,_,_,_,_,_,_,_,_,_,_,_,_,_,_,_,_,_,hE⟩:=hq;exact hE.elim
 | ok fl =>
   cases fl with
   | ret u =>
     obtain⟨v,H1,os,bare,un,aN,rv,S,h3⟩:=hq
     have own:∀b,b∈F->∃ys its n,H b=some (.lst ys)/\ys.length<=b5/\Vals ys its/\s'.heap.get? b=some { cls:=.type "list",data:=.seq its.toArray n }/\H1 b=none:=λb hb=>by
      obtain⟨ys,ey⟩:=fo b hb
      obtain⟨z,its,n,uf,gt⟩:=I.aN b _ ey
      exact⟨ys,its,n,ey,z,uf,un.keep b _ gt (rX hb) (λz=>by rw[e0.lJ b z] at ey;cases ey) (by simp),un.free b _ gt (rX hb) (by simp)⟩
     let H2:Hp:=λb=>if b∈F then H b else H1 b
     have zg:∀{b},b∈F->H2 b=H b:=λ{b} h=>if_pos h
     have kB:∀{b},b ∉ F->H2 b=H1 b:=λ{b} h=>if_neg h
     have up:∀{b o},H1 b=some o->b ∉ F/\H2 b=some o:=λ{b o} q=>by
      have hb:b ∉ F:=λz=>by obtain⟨_,_,_,_,_,_,_,z2⟩:=own b z;rw[q] at z2;cases z2
      exact⟨hb,(kB hb).trans q⟩
     have ug:∀{b o},H b=some o->(∀ys,o ≠ .lst ys)->b ∉ F:=λ{b o} q n z=>by obtain⟨ys,e⟩:=fo b z;rw[q] at e;cases e;exact n ys rfl
     have Hx:Un (dA X.stack) [] H H2 s.heap s'.heap:=by
      refine⟨λb o q n=>un.keep b o q (nh n),λb o q n=>un.slot b o q (nh n),λb o q n hx=>?_,un.there,λb ys q=>?_,λb o u q=>?_,λb ps q=>?_⟩
      ·have hb:b ∉ F:=λz=>by obtain⟨ys,e⟩:=fo b z;rw[n] at e;cases e
       rw[kB hb];exact un.free b o q (nh n) hx
      ·have hb:=ug q λys z=>nomatch z
       rw[kB hb];exact un.kM b ys (by rw[di hb];exact q)
      ·have hb:=ug q λys z=>nomatch z
       rw[kB hb];exact un.kj b o u (by rw[di hb];exact q)
      ·have hb:=ug q λys z=>nomatch z
       rw[kB hb];exact un.kN b ps (by rw[di hb];exact q)
     have Hy:eB X.prog X.w H2 s'.heap:=λb u q=>by
      by_cases hb:b∈F
      ·obtain⟨ys,its,n,ey,z,uf,gt,_⟩:=own b hb
       rw[zg hb,ey] at q
       cases q
       exact⟨z,its,n,uf,gt⟩
      ·rw[kB hb] at q
       exact(aN b u q).lH (λc v _ e=>e) (λc e=>(up e).2) λc ys e=>(up e).2
     have I2:Inv X pins σ H2 s':=I.Dl os Hx Hy bare (λb z=>absurd z (by simp))
     have S2:aO H H2:=λb o q=>by
      by_cases hb:b∈F
      ·rw[zg hb];exact q
      ·rw[kB hb];exact S b o (by rw[di hb];exact q)
     have Sx:aO H1 (aH F H2):=λb o q=>by rw[di (up q).1];exact(up q).2
     exact⟨v,H2,I2,rv,S2,h3.same Sx⟩
   | next=>exact cx hq
   | brk=>exact cx hq
   | cont=>exact cx hq
def Ci{k:Nat}{f:Addr}{fd:cB}{ps:List Str}{φ:List D->R D}(Fn:g8 X.prog X.w X.K X.mg X.base k f fd ps φ)(hr:dO k X.A)(hm:X.mg x=some (.ref f))(ha:si X (e::es) gs)(hg:Gl X x:=by rfl)(gN:(x==("__debug__":Str))=false:=by decide)
 (he:aT (e::es) X.env=(false,eval e X.env)::aT es X.env:=by rfl) (gu:(cH pos (aT es X.env)).any (·.1)=false:=by rfl):ij X (.Call (.Name x p) (e::es) [] pos) (z8i φ gs):=by
 refine⟨λpins s σ H F Γ I fo rl bW=>?_⟩
 refine kL (nX I hg hm ?_ gN)
 refine wX (h₀:=X.base) I.ok.mod.oW Fn.kp (az (ha.run pos pins s σ H F Γ I fo rl (R.left bW)) (λus s1 ⟨ds,vs,H1,e1,I1,r1,S1,i1⟩=>⟨I1.gH,?_⟩) λ_ _ x=>x.bind _) he gu
 have aM:=R.next bW e1
 cases q:φ ds with
 | no=>rw[q] at aM;exact absurd rfl aM
 | er c=>rw[q] at aM;exact absurd rfl aM
 | ok d =>
   refine az (P_ (EE:=cw X pins σ H (z8i φ gs Γ)) Fn hr I1 (fo.same S1) r1 i1 q) (λu s' ⟨v,H',I',rv,S,h2⟩=>?_) λ_ _ z=>z
   have e2:z8i φ gs Γ = .ok d:=(R.step e1 _).trans (by rw[q])
   exact⟨d,v,H',e2,I',rv,S1.trans S,h2⟩
end
section
variable {X:Cx}{e:Expr}{g:G->R D}{pos pt:Pos}
def w4p{es:List Expr}{t:rf}{is:List Nat}{kt}(hp:xu X.bY es t)(ht:∀(vs:List V) σ H (Q:St->Hp->Prop),vs.length=is.length->Q (ud is vs σ) H->t vs σ H Q)(he:ij X e g)(hc:X.calm=true)(Qa:es.length=is.length)
 (hn:(nU es X.env).length=es.length:=by rfl) (lM:(nU es X.env).findIdx? (·.1)=none:=by rfl)
 (hs:Tj [.Tuple es kt pt] e pos.line X.env=pure false:=by rfl) (hw:Tn [.Tuple es kt pt] e X.env=pure none:=by rfl)
 (h1:(nU [.Tuple es kt pt] X.env).map (·.2)=[kI (.Tuple es kt pt) X.env]:=by rfl):PQ X (.Assign [.Tuple es kt pt] e pos) (y2n is g):=by
 refine⟨λpins s σ H F Γ I fo rl hg=>?_⟩
 refine a6e (az (he.run pins s σ H F Γ I fo rl (jM hg)) (λu s1 ⟨d,v,H1,e1,I1,r1,S1,i1⟩=>?_) λ_ _ x=>x.lift fo rl _) hs hw
 rw[h1]
 have aM:=xS hg e1
 have fin:∀(ds:List D) (xs:List V) (its:List Value) (s2:ah),o9 d = .ok ds->ds.length=is.length->y2n is g Γ = .ok (.nx (L3.lZ is ds Γ))->Vals xs its->aq X.K (aH F H1) ds xs->Inv X pins σ H1 s2 ->
  au (aD X.prog X.w) X.A (R9 ((nU es X.env).map (·.2)) its) (λ_ s3=>r9 X pins H F (y2n is g Γ) .next s3) (nH X pins H F (y2n is g Γ)) s2:=λds xs its s2 ed hl ev rv ia I2=>by
  refine az (hp pins s2 σ H1 xs its (λaJ H'=>aJ=ud is xs σ/\H'=H1) (I2.dB _) rv (ht xs σ H1 _ (by rw[<-ia.length,hl]) ⟨rfl,rfl⟩)) (λ_ s3 ⟨aJ,H',I3,e3,e4⟩=>?_) λ_ _ z=>cx z
  subst e3 e4
  exact⟨_,ev,_,H',F,I3.fw,fo.same S1,Rel.lZ is ds xs _ _ ia (rl.same S1),.of_same S1⟩
 cases d with
 | tup ds =>
   obtain⟨hl,e2⟩:=R.cU (show R.guard (ds.length=is.length) (R.ok (Fl.nx (L3.lZ is ds Γ)))≠R.no from aM)
   obtain⟨p,xs,rfl,iW,h2⟩:=Is.fB.mp i1
   cases (show u=fF p from r1)
   obtain⟨its,rv,hT,hz⟩:=I1.tuple (qq (jA (F:=F)) iW)
   refine a4a (I1.ok.hd hc) hT (by rw[hn,Qa,de,<-rv.length,<-h2.length,hl]) lM λh' hx=>?_
   exact fin ds xs its _ rfl hl ((jv e1).trans e2) rv h2 (I1.kept (t':=s1.toks) λb o e=>hx b o (dM (bX e)) e)
 | lst ds =>
   obtain⟨hl,e2⟩:=R.cU (show R.guard (ds.length=is.length) (R.ok (Fl.nx (L3.lZ is ds Γ)))≠R.no from aM)
   obtain⟨p,xs,rfl,iW,h2⟩:=Is.fC.mp i1
   cases (show u=fF p from r1)
   obtain⟨its,rv,hT,hz⟩:=I1.list ((jA (F:=F)).seq iW)
   refine y2d (I1.ok.hd hc) hT.isList (by rw[hn,Qa,de,<-rv.length,<-h2.length,hl]) lM λh' hx=>?_
   exact fin ds xs its _ rfl hl ((jv e1).trans e2) rv h2 (I1.kept (t':=s1.toks) λb o e=>hx b o (dM (bX e)) e)
 | _=>exact absurd rfl aM
def Qb(i j:Nat){x y:Str}{px py:Pos}{kt}(he:ij X e g)(nd:X.N.Nodup)(hc:X.calm=true)(hi:X.N[i]? = some x:=by rfl)(hj:X.N[j]? = some y:=by rfl)
 (hx:Loc X.env.scope x:=by first | exact gq rfl | exact dX rfl) (hy:Loc X.env.scope y:=by first | exact gq rfl | exact dX rfl)
 (fx:X.fn x=true∨X.env.scope.names.lookup x=some .local:=by first | exact .inl rfl | exact .inr rfl) (fy:X.fn y=true∨X.env.scope.names.lookup y=some .local:=by first | exact .inl rfl | exact .inr rfl)
 (hs:Tj [.Tuple [.Name x px,.Name y py] kt pt] e pos.line X.env=pure false:=by rfl) (hw:Tn [.Tuple [.Name x px,.Name y py] kt pt] e X.env=pure none:=by rfl) :
 PQ X (.Assign [.Tuple [.Name x px,.Name y py] kt pt] e pos) (y2n [i,j] g) :=
 w4p (Al (uP (X:=X.bY) nd hi hx fx) (Al (uP (X:=X.bY) nd hj hy fy) Lg rfl) rfl)
  (λvs σ H Q hl q=>match vs,hl,q with | [a,b],_,q=>⟨a,[b],rfl,b,[],rfl,rfl,q⟩) he hc rfl rfl rfl hs hw
end
section
variable {prog:aS}{w:aR}{A:Around}{E:Value->ah->Prop}{s:ah}
end
section
variable {X:Cx}{a:Expr}{ga:G->R D}{st:Expr}{gt:G->R (Option Int)}{pos p2:Pos}
end
section
variable {X:Cx}{e a b c:Expr}{g ga gb gc:G->R D}{pos:Pos}
end
section
variable {X:Cx}{e a b c:Expr}{g ga gb gc:G->R D}{pos:Pos}
end
def x0l{M:oK}{A:Around}{E:Value->ah->Prop}{s:ah}{x c:Value}{Q:Value->ah->Prop}(h:au M A (iY .In x c) (λv s'=>∃b,v = .bool b/\Q (.bool (!b)) s') E s):au M A (iY .NotIn x c) Q E s:=by
 intro Γ p BV
 have h1:=h Γ p BV
 have e1:iY .In x c=(contains c x>>=λb=>pure (.bool b)):=rfl
 have e2:iY .NotIn x c=(contains c x>>=λb=>pure (.bool (!b))):=rfl
 rw[e1,Sem.wp_bind'] at h1
 rw[e2,Sem.wp_bind']
 refine Sem.wp_mono M Γ _ (λb p' s' hb=>?_) (λ_ _ _ z=>z) p s h1
 rw[Sem.wp_pure'] at hb ⊢
 obtain⟨b',eb,hq⟩:=hb
 cases eb
 exact hq
def Cj(d:D):∀ys:List D,((D.fD ys).any λy=>y.eqv d.py)=ys.any λy=>bO y d
 | []=>by simp[D.fD]
 | y::ys=>by rw[D.fD,wR,wR,Cj d ys,BP]
section
variable {X:Cx}
end
section
variable {prog:aS}{w:aR}{A:Around}{E:Value->ah->Prop}{s:ah}
end
section
variable {X:Cx}{a b:Expr}{ga gb:G->R D}
end
section
variable {X:Cx}{e a b c:Expr}{g ga gb gc:G->R D}{gs:G->R (List D)}{pos pos' p:Pos}
def x6j(i:Nat){x:Str}{apos cL:Pos}(he:PF X e gs)(hN:X.N[i]? = some x:=by rfl)(hv:lI X.env.scope x:=by first | exact gq rfl | exact dX (gq rfl) | exact dX (dX rfl))(hd:(x==("__debug__":Str))=false:=by decide)(dY:(x==("__classdict__":Str))=false:=by decide)
 (oF:pY (.Call (.Attribute (.Name x p) "extend" apos) [e] [] cL) none pos.line X.env=pure false:=by rfl)
 (ky:uJ (.Name x p) "extend" X.env (eval (.Name x p) X.env)=eval (.Name x p) X.env:=by rfl)
 (mx:((cH cL (aT [e] X.env)).all (λx=>!x.1)&&(uw cL (ux [] X.env)).all (λx=>x.1.isSome)
   && decide ([e].length+([]:List kK).length+(if ([]:List kK).isEmpty then 0 else 1)<30))=true:=by rfl)
 (kz:(apos.endLine==cL.line)=true:=by rfl) (hs:aT [e] X.env=(false,eval e X.env)::aT [] X.env:=by rfl) :
 PQ X (.Expr (.Call (.Attribute (.Name x p) "extend" apos) [e] [] cL) pos) (sX i gs):=by
 refine⟨λpins s σ H F Γ I fo rl hg=>?_⟩
 refine C5 ?_ I.quiet oF
 have yW:∃ds,Γ[i]? = some (.own ds):=by
  unfold sX at hg
  split at hg
  ·rename_i ds e1;exact⟨ds,e1⟩
  ·exact absurd rfl hg
 obtain⟨ds,eo⟩:=yW
 have yX:sX i gs Γ=lift (gs Γ) Γ λes=>R.guard (ds.length+es.length<=100000) (.ok (.nx (Γ.set i (.own (ds++es))))):=by unfold sX;rw[eo]
 rw[yX] at hg ⊢
 obtain⟨a',xs,h1,hF,h3,h4⟩:=rl.own i ds eo
 refine xf ky mx kz rfl (az (p6 (X:=X.bY) hN hv hd dY pins s σ H (λv' H'=>v' = .ref a'/\H'=H) (I.dB _) ⟨.ref a',h1,rfl,rfl⟩) (λv s1 ⟨v',H',I1,r1,e1,e2⟩=>?_) λ_ _ z=>cx z)
 subst e1 e2
 have r_:=I1.fw
 obtain⟨t1,t2⟩:=As (T:="list") r_ r1 (.inl ⟨rfl,xs,cA.of h3⟩)
 refine⟨"list",_,KJ,PySem.F.slot_list_extend,PySem.F.type_list_extend,t1,t2,?_⟩
 rw[hs]
 refine uK rfl (xg ?_)
 show au _ _ (e9 ((false,eval e X.env)::cH cL [])) _ _ s1
 refine fT (az (he.run pins s1 σ H' F Γ r_ fo rl (jM hg)) (λu s2 hq=>iJ ?_) λ_ _ x=>x.lift fo rl _)
 obtain⟨es,l,zs,H2,e3,I2,r2,S2,xt,Au,ia⟩:=hq
 have fL:=xS hg e3
 obtain⟨hl,e4⟩:=R.cU fL
 have B0:=S2 _ _ h3
 have nj:(100001:Nat)<=b5:=by rw[lD];decide
 have ot:=h4.length
 have Qc:=ia.length
 refine az (Vl (X:=X.bY) pins s2 σ H2 (.ref a') [.ref l] v [u] (λz my=>z = .cQ/\my=upd H2 a' (.lst (xs++zs))) (I2.dB _) r1 (.cons r2 .nil) ⟨a',l,xs,zs,rfl,rfl,B0,Au,by lia,rfl,rfl⟩) (λw' s3 ⟨z,my,I3,rz,ez,eH⟩=>?_) λ_ _ z=>cx z
 subst ez eH
 have ne:l≠a':=λz=>by rw[z,h3] at xt;cases xt
 have yU:aq X.K (aH F H2) es zs:=ia.same λb o hb=>by
  obtain⟨z1,z2⟩:=ja hb
  rw[di λz=>z1 (ft _ z)]
  exact z2
 obtain⟨mw,yY⟩:=(rl.same S2).put eo h1 (xs':=xs++zs) (ds':=ds++es) ((h4.same (iT S2)).append yU)
 refine⟨_,(jv e3).trans e4,σ,_,F,I3.fw,λb hb=>?_,mw,⟨λb o hb h=>?_,λb hb=>.inl hb⟩⟩
 ·by_cases oG:b=a'
  ·exact⟨xs++zs,by rw[oG];exact dj⟩
  ·obtain⟨ys,q⟩:=fo b hb
   exact⟨ys,by rw[bM oG];exact S2 _ _ q⟩
 ·rw[bM (λz=>hb (by rw[z];exact hF))];exact S2 _ _ h
end
def At(xs:Array Nat)(j i:Nat):Prop:=i<=xs.size/\(∀(k v:Nat),k<i->xs[k]? = some v->v<j)/\(∀(k v:Nat),i<=k->xs[k]? = some v->j<=v)
def Hz{xs:Array Nat}{j:Nat}(qC:xs.toList.Pairwise (·<·)):∀(fuel lo hi:Nat),hi-lo<=fuel->lo<=hi->hi<=xs.size->(∀(k v:Nat),k<lo->xs[k]? = some v->v<j)->(∀(k v:Nat),hi<=k->xs[k]? = some v->j<=v) ->
 At xs j (KS xs j fuel lo hi)
 | 0,lo,hi,h1,h2,h3,h4,h5=>by
   have e:lo=hi:=by lia
   subst e
   exact⟨h3,h4,h5⟩
 | fuel+1,lo,hi,h1,h2,h3,h4,h5=>by
   rw[show KS xs j (fuel+1) lo hi=(if lo<hi then (if xs.getD ((lo+hi)/2) j<j then KS xs j fuel ((lo+hi)/2+1) hi else KS xs j fuel lo ((lo+hi)/2)) else lo) from rfl]
   by_cases q:lo<hi
   ·rw[if_pos q]
    have hm:(lo+hi)/2<xs.size:=by lia
    have hg:xs.getD ((lo+hi)/2) j=xs[(lo+hi)/2]:=by simp[Array.getD,hm]
    have mono:∀(a b va vb:Nat),a<=b->xs[a]? = some va->xs[b]? = some vb->va<=vb:=λa b va vb zd ea eb=>by
     rcases Kr a b with w | w
     ·obtain⟨ha,ea'⟩:=Array.getElem?_eq_some_iff.mp ea
      obtain⟨hb,eb'⟩:=Array.getElem?_eq_some_iff.mp eb
      have:=List.pairwise_iff_getElem.mp qC a b (by simpa using ha) (by simpa using hb) w
      rw[z_,z_,ea',eb'] at this
      lia
     ·have:a=b:=by lia
      rw[this,eb] at ea;cases ea;exact a9 _
    have em:xs[(lo+hi)/2]? = some xs[(lo+hi)/2]:=Aa hm
    by_cases z:xs.getD ((lo+hi)/2) j<j
    ·rw[if_pos z]
     rw[hg] at z
     exact Hz qC fuel _ hi (by lia) (by lia) h3 (λk v hk e=>Kf (mono k _ v _ (by lia) e em) z) h5
    ·rw[if_neg z]
     rw[hg] at z
     exact Hz qC fuel lo _ (by lia) (by lia) (by lia) h4 (λk v hk e=>fG (by lia) (mono _ k _ v hk em e))
   ·rw[if_neg q]
    have e:lo=hi:=by lia
    subst e
    exact⟨h3,h4,h5⟩
def x2u{xs:Array Nat}(qC:xs.toList.Pairwise (·<·))(j:Nat):At xs j (C8 xs j) :=
 Hz qC xs.size 0 xs.size (by lia) (pV _) (a9 _) (λk v hk=>absurd hk (CL _)) λk v hk e=>by
  obtain⟨h,_⟩:=Array.getElem?_eq_some_iff.mp e
  lia
def y8o{xs:Array Nat}{j:Nat}(qC:xs.toList.Pairwise (·<·))(hj:xs[C8 xs j]? ≠ some j):(SetTable.insertAt xs (C8 xs j) j).toList.Pairwise (·<·):=by
 obtain⟨b1,b2,b3⟩:=x2u qC j
 generalize C8 xs j=i at *
 rw[SetTable.toList_insertAt]
 have ht:xs.toList=xs.toList.take i++xs.toList.drop i:=(Kq i _).symm
 have hp:=qC
 rw[ht] at hp
 obtain⟨p1,p2,p3⟩:=List.pairwise_append.mp hp
 have Qd:∀v∈xs.toList.take i,v<j:=λv hv=>by
  obtain⟨k,hk,e⟩:=List.mem_take_iff_getElem.mp hv
  refine b2 k v (by lia) ?_
  have zh:k<xs.size:=by have:=hk;simp at this;lia
  rw[Aa zh,<-e,z_]
 have Qe:∀v∈xs.toList.drop i,j<v:=λv hv=>by
  obtain⟨k,hk,e⟩:=List.mem_drop_iff_getElem.mp hv
  have zh:i+k<xs.size:=by simp at hk;lia
  have ek:xs[i+k]? = some v:=by rw[Aa zh,<-e,z_]
  have h1:=b3 (i+k) v (by lia) ek
  by_cases z:j=v
  ·exfalso
   subst z
   cases k with
   | zero=>exact hj ek
   | succ k =>
     have Qf:i<xs.size:=by lia
     have h2:=b3 i xs[i] (a9 _) (Aa Qf)
     have h3:=List.pairwise_iff_getElem.mp qC i (i+(k+1)) (by simpa using Qf) (by simpa using zh) (by lia)
     rw[z_,z_] at h3
     have h4:xs[i+(k+1)]=j:=by rw[Aa zh] at ek;exact mD ek
     lia
  ·lia
 refine List.pairwise_append.mpr ⟨p1,List.pairwise_cons.mpr ⟨Qe,p2⟩,λx hx y hy=>?_⟩
 rcases List.mem_cons.mp hy with e | e
 ·rw[e];exact Qd x hx
 ·exact Nat.lt_trans (Qd x hx) (Qe y e)
structure h_ (led:Bool) (t:mK):Prop where
 led:t.led=led
 pM:t.dummies=#[]
 up:t.plain=true->t.place.toList.Pairwise (·<·)
def h_.Ck{led:Bool}{t:mK}(h:h_ led t)(n:Nat):h_ led (t.standIn n):=⟨h.led,rfl,λz=>by cases z⟩
def h_.a0t{led:Bool}{t:mK}(h:h_ led t)(n:Nat):h_ led (t.orStandIn n):=by
 unfold SetTable.orStandIn
 split
 ·exact h
 ·exact h.Ck n
def Qg{t:mK}(h:t.dummies=#[])(j:Nat):SetTable.has t.dummies j=false:=by rw[h];rfl
def Qh{t:mK}(h:t.dummies=#[]){f:Nat->Int}{x:Int}:∀(fuel:Nat) (q:xm) {j:Nat} {d:Option Nat},q.dummy=none->a6u t f x fuel q=some (.empty j d)->d=none/\t.slot j = .empty
 | 0,q,j,d,_,e=>by cases e
 | fuel+1,q,j,d,hq,e=>by
   unfold a6u at e
   cases hs:t.slot q.j with
   | empty =>
     rw[hs] at e
     simp only[wU,SetTable.Met.empty.injEq] at e
     obtain⟨rfl,rfl⟩:=e
     exact⟨hq,hs⟩
   | dummy =>
     exfalso
     unfold SetTable.slot at hs
     rw[Qg h] at hs
     dsimp only at hs
     split at hs
     ·cases hs
     ·simp at hs
   | live i =>
     rw[hs] at e
     dsimp only at e
     split at e
     ·cases e
     ·refine Qh h fuel _ ?_ e
      unfold SetTable.advance
      split<;>exact hq
def h_.a0u{led:Bool}{t:mK}{x:Int}{j:Nat}{d:Bool}(h:h_ led t)(e:t.freeSlot x=some (j,d)):h_ led (t.put j).1:=by
 unfold SetTable.freeSlot at e
 cases hq:t.probe (λ_=>x+1) x (t.probeStart x) with
 | none=>rw[hq] at e;cases e
 | some m =>
   rw[hq] at e
   cases m with
   | candidate _ _ _=>cases e
   | empty j' d' =>
     obtain⟨rfl,hs⟩:=Qh h.pM _ _ rfl hq
     simp only[Ke,wU,KU] at e
     obtain⟨rfl,_⟩:=e
     have hn:t.place[C8 t.place j']? ≠ some j':=λz=>by
      unfold SetTable.slot at hs
      dsimp only at hs
      rw[z] at hs
      simp at hs
     refine⟨h.led,?_,λz=>y8o (h.up z) hn⟩
     show(if SetTable.has t.dummies j' then _ else t.dummies)=#[]
     rw[Qg h.pM,h.pM];rfl
def h_.a0v{led:Bool}{t:mK}(h:h_ led t)(es:Array (Int×Value))(x:Int)(v:Value):h_ led (layNew t es x v).2.1:=by
 unfold layNew
 cases hq:t.freeSlot x with
 | none=>exact h.Ck _
 | some p =>
   obtain⟨j,d⟩:=p
   exact(h.a0u hq).a0t _
def w5r{mask finger moves:Nat}{led plain:Bool}{hs:Array Int}{t:mK}{o:Array Nat}(e:SetTable.laid mask finger moves led plain hs=some (t,o)):h_ led t:=by
 unfold SetTable.laid at e
 cases hq:SetTable.layClean mask hs with
 | none=>rw[hq] at e;cases e
 | some owner =>
   rw[hq] at e
   simp only[Option.bind_eq_bind,S_,Option.pure_def,wU,KU] at e
   obtain⟨rfl,_⟩:=e
   refine⟨rfl,rfl,λ_=>?_⟩
   show(List.map (·.1) ((eW (mask+1)).filterMap λj=>(owner.getD j none).map (j,·))).Pairwise (·<·)
   rw[List.pairwise_map]
   refine List.pairwise_filterMap.mpr (List.pairwise_lt_range.imp λ{a b} zd x hx y hy=>?_)
   cases ha:owner.getD a none with
   | none=>rw[ha] at hx;cases hx
   | some u =>
     cases hb:owner.getD b none with
     | none=>rw[hb] at hy;cases hy
     | some w =>
       rw[ha] at hx;rw[hb] at hy
       cases hx;cases hy
       exact zd
def h_.a0w{led:Bool}{t:mK}(h:h_ led t)(es:Array (Int×Value))(n:Nat):h_ led (Ab t es n).2.1:=by
 unfold Ab
 cases hq:t.relaid (es.map (·.1)) n with
 | none=>exact h.Ck _
 | some p =>
   obtain⟨t',o⟩:=p
   dsimp only
   split
   ·unfold SetTable.relaid at hq
    have:=w5r hq
    rw[h.led] at this
    exact this
   ·exact h.Ck _
def h_.a0x{led:Bool}{t:mK}(h:h_ led t):h_ led { t with plain:=false }:=⟨h.led,h.pM,λz=>by cases z⟩
section
variable {prog:aS}{w:aR}{A:Around}{E:Value->ah->Prop}{s:ah}
end
section
variable {prog:aS}{w:aR}{A:Around}{E:Value->ah->Prop}{s:ah}
def kC(w:aR):Bool:=!(w.params.followText "set-order")
def a0y(v:Value){Q1:Value->ah->Prop}(q:Q1 (.ref s.heap.objs.size) { s with heap:=s.heap.push { cls:=.type "set",dict:=none,data:=.set #[] 0 (.fresh 0 0 (kC w)) } }) :
 jl (aD prog w) A (.call (.builtin "set.__new__") ⟨[.type "set",v],[]⟩) (wants Q1 E) s:=by
 refine a6v (show au _ A.in1 (do Tr "set.__new__" ⟨[.type "set",v],[]⟩;again (.builtin "set.__new__" ⟨[.type "set",v],[]⟩)) _ _ s from ?_)
 refine aI (xi (F.newCall_set_1 v) (bR ⟨TF a6w _,C6 F.entry_set_new ?_⟩))
 rw[TH a6w _];unfold Builtin.«set.__new__» Builtin.Frozenset.newClass
 have a0z:=sub_set_self
 obtain⟨hp,g,d,tk,os⟩:=s
 dsimp only
 wp_walk
 refine wpAny_askSetting (bR ?_)
 dsimp only
 simp only[newObj]
 exact aI (wpAny_alloc (bR (bR q)))
end
section
variable {prog:aS}{w:aR}{A:Around}{E:Value->ah->Prop}{s:ah}
end
section
variable {prog:aS}{w:aR}{A:Around}{E:Value->ah->Prop}{s:ah}
end
section
variable {prog:aS}{w:aR}{A:Around}{E:Value->ah->Prop}{s:ah}
end
section
variable {prog:aS}{w:aR}{A:Around}{E:Value->ah->Prop}{s:ah}
end
section
variable {prog:aS}{w:aR}{A:Around}{E:Value->ah->Prop}{s:ah}
end
section
variable {prog:aS}{w:aR}{A:Around}{E:Value->ah->Prop}{s:ah}
end
def w2l:lA ("set":Str)=some (.type "set"):=by decide +kernel
section
variable {X:Cx}{e a b c:Expr}{g ga gb gc:G->R D}{gs:G->R (List D)}{pos pos' p p2:Pos}
end
section
variable {X:Cx}
def v0b(hu:X.A.units+64<iZ):gE X (iY .In) dIn:=by
 refine⟨λx y H Q=>∃dx ys,(Is X.K H (.lst ys) y/\D.lay 40 (.lst ys)=true∨Is X.K H (.tup ys) y/\D.lay 40 (.tup ys)=true)/\Is X.K H dx x/\D.lay 40 dx=true/\Q (.bl (ys.any λy=>bO y dx)) H,?_,λH x y dx dy ix iy hg=>?_⟩
 ·intro pins s σ H x y v u Q I rx ry h
  obtain⟨dx,ys,hy,ix,l1,q⟩:=h
  obtain⟨as,ra⟩:=pE I 40 dx x v l1 ix rx
  have p1:=pD 40 dx l1
  have Gn:X.A.units+64<iZ:=hu
  rcases hy with ⟨iy,l2⟩ | ⟨iy,l2⟩
  ·obtain⟨bs,rb⟩:=pE I 40 (.lst ys) y u l2 iy ry
   have p2:=pD 40 (.lst ys) l2
   have ey:D.py (.lst ys) = .list (D.fD ys):=by simp[D.py]
   rw[ey] at rb p2
   have c2:zT (D.fD ys)=true:=by simpa [sH] using p2.1
   refine PySem.SeqAt.in_list_reads rb ra c2 p1.1 (show X.A.units+1+min (zU (D.fD ys)) dx.py.depth<iZ by lia) ⟨.bl (ys.any λy=>bO y dx),H,I,?_,q⟩
   rw[Cj];rfl
  ·obtain⟨bs,rb⟩:=pE I 40 (.tup ys) y u l2 iy ry
   have p2:=pD 40 (.tup ys) l2
   have ey:D.py (.tup ys) = .tuple (D.fD ys):=by simp[D.py]
   rw[ey] at rb p2
   have c2:zT (D.fD ys)=true:=by simpa [sH] using p2.1
   refine a6x rb ra c2 p1.1 (show X.A.units+1+min (zU (D.fD ys)) dx.py.depth<iZ by lia) ⟨.bl (ys.any λy=>bO y dx),H,I,?_,q⟩
   rw[Cj];rfl
 ·cases dy with
  | lst ys =>
    obtain⟨⟨l1,l2⟩,e⟩:=R.cU (show R.guard (D.lay 40 dx=true/\D.lay 40 (.lst ys)=true) (R.ok (D.bl (ys.any λy=>bO y dx))) ≠ .no from hg)
    exact⟨dx,ys,.inl ⟨iy,l2⟩,ix,l1,.bl (ys.any λy=>bO y dx),e,.refl _,Is.gD.mpr rfl⟩
  | tup ys =>
    obtain⟨⟨l1,l2⟩,e⟩:=R.cU (show R.guard (D.lay 40 dx=true/\D.lay 40 (.tup ys)=true) (R.ok (D.bl (ys.any λy=>bO y dx))) ≠ .no from hg)
    exact⟨dx,ys,.inr ⟨iy,l2⟩,ix,l1,.bl (ys.any λy=>bO y dx),e,.refl _,Is.gD.mpr rfl⟩
  | _=>exact absurd rfl hg
end
section
variable {prog:aS}{w:aR}{A:Around}{E:Value->ah->Prop}{s:ah}
end
section
variable {prog:aS}{w:aR}{A:Around}{E:Value->ah->Prop}{s:ah}
end
section
variable {X:Cx}{a b:Expr}{ga gb:G->R D}
end
def spT(K:aE)(mg:Str->Option Value)(φ:List D->R D):Sp:=λvs H Q E=>∃ds,aq K H ds vs/\φ ds ≠ .no /\
 (∀d1 d2 es p x y a xs H',φ ds = .ok (.tup [d1,d2,.lst es])->aO H H'->H a=none->H' a=some (.lst xs)->cC K H' p [x,y,.ref a]->Is K H' d1 x->Is K H' d2 y->aq K H' es xs->Q (.ref p) H') /\
 (∀c C H',φ ds = .er c->mg c.nm=some (.ref C)->aO H H'->E (.ref C) none H')
structure FnT (P:aS) (w:aR) (K:aE) (mg:Str->Option Value) (base:Heap) (k:Nat) (f:Addr) (fd:cB) (ps:List Str) (φ:List D->R D):Prop where
 ok:jH P w K mg base (nC P w) k f fd ps (spT K mg φ)
 binds:km K fd ps []
 kp:wG K (.ref f)=true
section
variable {X:Cx}{e e1 e2 e3:Expr}{es:List Expr}{gs:G->R (List D)}{g g1 g2:G->R D}{g3:G->R (List D)}{pos p:Pos}{x:Str}{st:Stmt}{rest:List Stmt}{t u g':G->R Fl}
def RtT(X:Cx)(pins:List (Addr×Obj))(H:Hp)(F:List Addr)(r:R Fl)(u:Value)(s':ah):Prop:=∃aJ H' F' p x y a xs d1 d2 es,Inv X pins aJ H' s'/\u = .ref p/\Ext H F H' F'/\r = .ok (.rt (.tup [d1,d2,.lst es])) /\
 (a∈F∨H a=none)/\H' a=some (.lst xs)/\cC X.K H' p [x,y,.ref a]/\Is X.K H' d1 x/\Is X.K H' d2 y/\aq X.K H' es xs
def FlT(X:Cx)(pins:List (Addr×Obj))(H:Hp)(F:List Addr)(r:R Fl)(fl:Flow)(s':ah):Prop:=match fl with
 | .ret u=>RtT X pins H F r u s'
 | _=>False
structure PT (X:Cx) (st:List Stmt) (g:G->R Fl):Prop where
 run:∀(pins:List (Addr×Obj)) (s:ah) (σ:St) (H:Hp) (F:List Addr) (Γ:G),Inv X pins σ H s->bL H F->Rel X.K H F Γ σ->g Γ ≠ .no ->
  au (aD X.prog X.w) X.A (sv st X.env) (FlT X pins H F (g Γ)) (nH X pins H F (g Γ)) s
structure PAL (X:Cx) (n:Nat) (es:List Expr) (g:G->R (List D)):Prop where
 run:∀(pos:Pos) (pins:List (Addr×Obj)) (s:ah) (σ:St) (H:Hp) (F:List Addr) (Γ:G),Inv X pins σ H s->bL H F->Rel X.K H F Γ σ->g Γ ≠ .no ->
  au (aD X.prog X.w) X.A (e9 (cH pos (aT es X.env))) (λus s'=>∃ds cT vs a xs H',g Γ = .ok (ds++[.lst cT])/\ds.length=n/\Inv X pins σ H' s'/\Vals (vs++[.ref a]) us/\aO H H'/\H a=none/\H' a=some (.lst xs)/\aq X.K H' ds vs/\aq X.K H' cT xs) (cw X pins σ H (g Γ)) s
end
section
variable {P:aS}{w:aR}{K:aE}{mg:Str->Option Value}{base:Heap}
end
def HA(X:Cx)(pins:List (Addr×Obj))(H:Hp)(F:List Addr)(Γ:G)(P:St->Prop)(s':ah):Prop:=∃aJ H' F',Inv X pins aJ H' s'/\bL H' F'/\Rel X.K H' F' Γ aJ/\Ext H F H' F'/\P aJ
def v8(X:Cx)(pins:List (Addr×Obj))(H:Hp)(F:List Addr)(r:R Fl)(P:St->Prop)(fl:Flow)(s':ah):Prop:=match fl with
 | .next=>∃Γ',r = .ok (.nx Γ')/\HA X pins H F Γ' P s'
 | .brk=>∃Γ',r = .ok (.bk Γ')/\HA X pins H F Γ' P s'
 | .cont=>∃Γ',r = .ok (.ct Γ')/\HA X pins H F Γ' P s'
 | .ret u=>nG X pins H F r u s'
structure PK (X:Cx) (i:Nat) (st:Stmt) (g:G->R Fl):Prop where
 run:∀(pins:List (Addr×Obj)) (s:ah) (σ:St) (H:Hp) (F:List Addr) (Γ:G),Inv X pins σ H s->bL H F->Rel X.K H F Γ σ->g Γ ≠ .no ->
  au (aD X.prog X.w) X.A (exec st X.env) (v8 X pins H F (g Γ) λaJ=>aJ[i]? = σ[i]?) (nH X pins H F (g Γ)) s
structure qD (X:Cx) (i:Nat) (st:List Stmt) (g:G->R Fl):Prop where
 run:∀(pins:List (Addr×Obj)) (s:ah) (σ:St) (H:Hp) (F:List Addr) (Γ:G),Inv X pins σ H s->bL H F->Rel X.K H F Γ σ->g Γ ≠ .no ->
  au (aD X.prog X.w) X.A (sv st X.env) (v8 X pins H F (g Γ) λaJ=>aJ[i]? = σ[i]?) (nH X pins H F (g Γ)) s
section
variable {X:Cx}{e c:Expr}{g:G->R D}{pos pos':Pos}{st:Stmt}{rest:List Stmt}{t u:G->R Fl}{i:Nat}
def v8.later{pins:List (Addr×Obj)}{H H1:Hp}{F F1:List Addr}{r:R Fl}{P P':St->Prop}{fl:Flow}{s':ah}(E:Ext H F H1 F1)(hP:∀σ,P σ->P' σ)(h:v8 X pins H1 F1 r P fl s'):v8 X pins H F r P' fl s':=by
 cases fl with
 | next=>obtain⟨Γ',e,aJ,H',F',h1,h2,h3,h4,h5⟩:=h;exact⟨Γ',e,aJ,H',F',h1,h2,h3,E.trans h4,hP _ h5⟩
 | brk=>obtain⟨Γ',e,aJ,H',F',h1,h2,h3,h4,h5⟩:=h;exact⟨Γ',e,aJ,H',F',h1,h2,h3,E.trans h4,hP _ h5⟩
 | cont=>obtain⟨Γ',e,aJ,H',F',h1,h2,h3,h4,h5⟩:=h;exact⟨Γ',e,aJ,H',F',h1,h2,h3,E.trans h4,hP _ h5⟩
 | ret u=>exact nG.map h E (λ_ _ I=>I) (λ_ e=>e) λ_ e=>e
def HB:qD X i [] cF:=⟨λpins s σ H F Γ I fo rl _=>pX ⟨Γ,rfl,σ,H,F,I,fo,rl,.refl,rfl⟩⟩
def Qi(h1:PK X i st t):qD X i [st] t:=by
 refine⟨λpins s σ H F Γ I fo rl hg=>?_⟩
 refine uI (ic (h1.run pins s σ H F Γ I fo rl hg) λfl s1 q=>?_)
 cases fl with
 | next=>exact pX q
 | ret v=>exact q
 | brk=>exact q
 | cont=>exact q
def HC{cs ds:List Stmt}{gc:G->R Bool}(hc:jB X c gc)(ha:qD X i cs t)(hb:qD X i ds u):PK X i (.If c cs ds pos) (bU gc t u):=by
 refine⟨λpins s σ H F Γ I fo rl hg=>?_⟩
 refine KG (az (hc.run pins s σ H F Γ I fo rl (jM hg)) (λk s1 q=>?_) λ_ _ x=>x.lift fo rl _)
 obtain⟨H1,e1,I1,S1⟩:=q
 have e2:bU gc t u Γ=if k=true then t Γ else u Γ:=jv e1
 rw[e2] at hg ⊢
 cases k with
 | true=>exact az (ha.run pins s1 σ H1 F Γ I1 (fo.same S1) (rl.same S1) hg) (λ_ _ q=>q.later (.of_same S1) λ_ z=>z) λ_ _ q=>q.later (.of_same S1)
 | false=>exact az (hb.run pins s1 σ H1 F Γ I1 (fo.same S1) (rl.same S1) hg) (λ_ _ q=>q.later (.of_same S1) λ_ z=>z) λ_ _ q=>q.later (.of_same S1)
def w0p(n:Nat){y6:Expr}{body:List Stmt}{gc:G->R Bool}{gb:G->R Fl}(hp:yZ X)(hc:jB X y6 gc)(hb:qD X i body gb):PK X i (.While y6 body [] pos) (fc gc gb n):=by
 refine⟨λpins s σ H F Γ I fo rl hg=>?_⟩
 have cJ:=hp pins H F (fc gc gb n Γ)
 refine wpAny_While (a6f (λm s'=>∃(aJ:St) (H':Hp) (F':List Addr) (Γ':G),Inv X pins aJ H' s'/\bL H' F'/\Rel X.K H' F' Γ' aJ/\Ext H F H' F'/\fc gc gb m Γ'=fc gc gb n Γ/\aJ[i]? = σ[i]?) ?_ n ⟨σ,H,F,Γ,I,fo,rl,.refl,rfl,rfl⟩)
 rintro m s1 ⟨lK,H1,F1,d8,I1,fE,fS,E1,dv,k1⟩
 have aM:fc gc gb m d8 ≠ .no:=by rw[dv];exact hg
 cases m with
 | zero=>exact absurd rfl aM
 | succ m =>
   have G8:fc gc gb (m+1) d8=lift (gc d8) d8 λk=>if k=true then (match gb d8 with
    | .ok (.nx Γ')=>fc gc gb m Γ'
    | .ok (.ct Γ')=>fc gc gb m Γ'
    | .ok (.bk Γ')=>.ok (.nx Γ')
    | .ok (.rt d)=>.ok (.rt d)
    | .ok (.fW d)=>.ok (.fW d)
    | .ok (.ex c Γ')=>.ok (.ex c Γ')
    | _=>.no) else .ok (.nx d8):=rfl
   rw[G8] at aM dv
   refine sI cJ (az (hc.run pins s1 lK H1 F1 d8 I1 fE fS (jM aM)) (λk s2 q2=>?_) λ_ _ x=>by rw[<-dv];exact(x.lift fE fS _).later E1)
   obtain⟨H2,e2,I2,S2⟩:=q2
   rw[jv e2] at aM dv
   have E2:=E1.trans (Ext.of_same S2)
   cases k with
   | false =>
     rw[if_neg sC] at dv ⊢
     exact pX ⟨d8,dv.symm,lK,H2,F1,I2,fE.same S2,fS.same S2,E2,k1⟩
   | true =>
     rw[if_pos rfl] at dv aM ⊢
     have g9:gb d8 ≠ .no:=λz=>by rw[z] at aM;exact aM rfl
     refine sI cJ (az (hb.run pins s2 lK H2 F1 d8 I2 (fE.same S2) (fS.same S2) g9) (λf s3 q3=>?_) λx3 s3 q3=>?_)
     ·cases f with
      | next =>
        obtain⟨g_,e7,dS,H7,F7,I7,hG,hJ,E7,k7⟩:=q3
        rw[e7] at dv
        exact⟨m,wV _,dS,H7,F7,g_,I7,hG,hJ,E2.trans E7,dv,k7.trans k1⟩
      | cont =>
        obtain⟨g_,e7,dS,H7,F7,I7,hG,hJ,E7,k7⟩:=q3
        rw[e7] at dv
        exact⟨m,wV _,dS,H7,F7,g_,I7,hG,hJ,E2.trans E7,dv,k7.trans k1⟩
      | brk =>
        obtain⟨g_,e7,dS,H7,F7,I7,hG,hJ,E7,k7⟩:=q3
        rw[e7] at dv
        exact⟨g_,dv.symm,dS,H7,F7,I7,hG,hJ,E2.trans E7,k7.trans k1⟩
      | ret v =>
        exact nG.map q3 E2 (λ_ _ I7=>I7) (λd7 e7=>by rw[e7] at dv;exact dv.symm) λd7 e7=>by rw[e7] at dv;exact dv.symm
     ·obtain⟨c7,g_,dS,H7,F7,e7,y4,hG,hJ,E7⟩:=q3
      rw[e7] at dv
      exact⟨c7,g_,dS,H7,F7,dv.symm,y4,hG,hJ,E2.trans E7⟩
end
structure Cm (K:aE) (H:Hp) (F:List Addr) (p:Nat) (σ:St) (lr:List (List D)) (a:Addr) (as:List Addr):Prop where
 loc:σ[p]? = some (some (.ref a))
 top:H a=some (.lst (as.map V.ref))
 len:as.length=lr.length
 each:∀(j:Nat) (b:Addr) (ds:List D),as[j]? = some b->lr[j]? = some ds->D.bC ds=true/\∃xs,H b=some (.lst xs)/\aq K H ds xs
 nodup:(a::as).Nodup
 out:∀b∈a::as,b ∉ F
def Qj(X:Cx)(p:Nat)(pins:List (Addr×Obj))(H:Hp)(A:List Addr)(Γ':G)(s':ah):Prop:=∃aJ H' F' lr a as,Inv X pins aJ H' s'/\bL H' F'/\Rel X.K H' F' Γ' aJ/\Γ'[p]? = some (.ro (.lst (lr.map D.lst)))/\Cm X.K H' F' p aJ lr a as/\Ext H A H' (F'++a::as)
structure PP (X:Cx) (p:Nat) (st:Stmt) (g:G->R Fl):Prop where
 run:∀(pins:List (Addr×Obj)) (s:ah) (σ:St) (H:Hp) (F:List Addr) (Γ Γ':G) (lr:List (List D)) (a:Addr) (as:List Addr),Inv X pins σ H s->bL H F->Rel X.K H F Γ σ->Γ[p]? = some (.ro (.lst (lr.map D.lst)))->Cm X.K H F p σ lr a as->g Γ = .ok (.nx Γ') ->
  au (aD X.prog X.w) X.A (exec st X.env) (λfl s'=>fl = .next/\Qj X p pins H (F++a::as) Γ' s') (λ_ _=>False) s
structure PPs (X:Cx) (p:Nat) (st:List Stmt) (g:G->R Fl):Prop where
 run:∀(pins:List (Addr×Obj)) (s:ah) (σ:St) (H:Hp) (F:List Addr) (Γ Γ':G) (lr:List (List D)) (a:Addr) (as:List Addr),Inv X pins σ H s->bL H F->Rel X.K H F Γ σ->Γ[p]? = some (.ro (.lst (lr.map D.lst)))->Cm X.K H F p σ lr a as->g Γ = .ok (.nx Γ') ->
  au (aD X.prog X.w) X.A (sv st X.env) (λfl s'=>fl = .next/\Qj X p pins H (F++a::as) Γ' s') (λ_ _=>False) s
section
variable {X:Cx}{p:Nat}{st:Stmt}{rest:List Stmt}{t u:G->R Fl}{c:Expr}{pos:Pos}
structure PM (X:Cx) (e:Expr) (gm:G->R (D×G)):Prop where
 run:∀(pins:List (Addr×Obj)) (s:ah) (σ:St) (H:Hp) (F:List Addr) (Γ d8:G) (d:D),Inv X pins σ H s->bL H F->Rel X.K H F Γ σ->gm Γ = .ok (d,d8) ->
  au (aD X.prog X.w) X.A (eval e X.env) (λu s'=>∃y H',Inv X pins σ H' s'/\RelV y u/\bL H' F/\Rel X.K H' F d8 σ/\Ext H F H' F/\Is X.K H' d y) (λ_ _=>False) s
structure PPq (X:Cx) (p:Nat) (st:List Stmt) (g:G->R Fl):Prop where
 run:∀(pins:List (Addr×Obj)) (s:ah) (σ:St) (H:Hp) (F:List Addr) (Γ:G) (lr:List (List D)) (a:Addr) (as:List Addr),Inv X pins σ H s->bL H F->Rel X.K H F Γ σ->Γ[p]? = some (.ro (.lst (lr.map D.lst)))->Cm X.K H F p σ lr a as->g Γ ≠ .no ->
  au (aD X.prog X.w) X.A (sv st X.env) (r9 X pins H (F++a::as) (g Γ)) (nH X pins H (F++a::as) (g Γ)) s
end
section
variable {X:Cx}{e:Expr}{g:G->R D}{pos pos' p pt:Pos}
def w4r(i:Nat){m0:Nat}{x:Str}{g:G->R (List D)}(he:PF X e g)(hN:X.N.Nodup)(zi:i≠m0:=by decide)(hi:X.N[i]? = some x:=by rfl)(hx:Loc X.env.scope x:=by first | exact gq rfl | exact dX rfl)(hs:pY e (some (.Name x pos')) pos.line X.env=pure false:=by rfl)(hf:X.fn x=true∨X.env.scope.names.lookup x=some .local:=by first | exact .inl rfl | exact .inr rfl | assumption) :
 PK X m0 (.Assign [.Name x pos'] e pos) (e_ i g):=by
 refine⟨λpins s σ H F Γ I fo rl hg=>?_⟩
 refine KH (az (he.run pins s σ H F Γ I fo rl (jM hg)) (λv s1 ⟨ds,a,xs,H1,e1,I1,eu,S1,hn,ha,i1⟩=>?_) λ_ _ x=>x.lift fo rl _) hs
 subst eu
 exact uO (v:=.ref a) I1 hN hi hx rfl (λs2 I2=>⟨_,jv e1,_,H1,a::F,I2,(fo.same S1).cons ha,rl.set_own fo S1 hn ha i1,⟨λb o _ h=>S1 _ _ h,λb hb=>(List.mem_cons.mp hb).elim (λz=>.inr (z ▸ hn)) .inl⟩,eZ zi⟩) hf
end
section
variable {X:Cx}{e:Expr}{pos p:Pos}{x:Str}{es:List Expr}{gs:G->R (List D)}
end
section
variable {X:Cx}{pins:List (Addr×Obj)}{σ:St}{H:Hp}{s:ah}{a b:Addr}{ob:Obj}{ks:List (List Int)}{k:List Int}
end
def Qk(m i pt:Nat):xm:={ j:=i,more:=a6y m i-i,i:=i,perturb:=pt,dummy:=none }
def a1a(m:Nat)(p:xm):xm :=
 if p.more>0 then { p with j:=p.j+1,more:=p.more-1 } else
 { p with j:=(C9 m p.i p.perturb).1,more:=a6y m (C9 m p.i p.perturb).1-(C9 m p.i p.perturb).1,i:=(C9 m p.i p.perturb).1,perturb:=(C9 m p.i p.perturb).2 }
def HD(m:Nat)(p:xm):Nat->xm
 | 0=>p
 | n+1=>HD m (a1a m p) n
structure a8l (m:Nat) (p:xm):Prop where
 i:p.i<=m
 pt:p.perturb<2^64
 more:p.more<=9
 pM:p.dummy=none
 jm:p.j+p.more<=m
def Ql(m:Nat)(occ:Nat->Prop)(h:Int)(j:Nat):Prop :=
 ∃n,(HD m (Qk m (KW h%(m+1)) (KW h)) n).j=j/\∀k,k<n->occ (HD m (Qk m (KW h%(m+1)) (KW h)) k).j
structure a8m (t:mK) (L:List (Nat×Int×Value)):Prop where
 mask:t.mask=7∨t.mask=31
 pM:t.dummies=#[]
 plc:t.place.toList=L.map (·.1)
 up:(L.map (·.1)).Pairwise (·<·)
 le:∀q∈L,q.1<=t.mask
 room:L.length<=t.mask
 reach:∀q∈L,Ql t.mask (λj=>j∈L.map (·.1)) q.2.1 q.1
structure a8n (m:Nat) (ow:Array (Option Nat)) (done:List Int) (Lo:List Nat):Prop where
 sz:ow.size=m+1
 len:Lo.length=done.length
 le:∀j∈Lo,j<=m
 own:∀(j k:Nat),ow[j]? = some (some k)↔Lo[k]? = some j
 rch:∀(k j:Nat) (h:Int),Lo[k]? = some j->done[k]? = some h->Ql m (λj=>j∈Lo) h j
section
variable {prog:aS}{w:aR}{A:Around}{E:Value->ah->Prop}{s:ah}
end
section
variable {prog:aS}{w:aR}{A:Around}{E:Value->ah->Prop}{s:ah}
end
section
variable {prog:aS}{w:aR}{A:Around}{E:Value->ah->Prop}{s:ah}
end
section
variable {X:Cx}{e a b c:Expr}{g ga gb gc:G->R D}{pos pos' p p2:Pos}
end
section
variable {X:Cx}{e a b c:Expr}{g ga gb gc:G->R D}{pos pos' p p2:Pos}
def uh:kx X (.type "str") k_:=by
 refine⟨_,UM (X:=X.bY),λH xs ds i hg=>?_⟩
 unfold k_ at hg
 split at hg
 ·rename_i n
  obtain⟨v,rfl,h⟩:=jR i
  obtain⟨hz,e⟩:=R.cU hg
  cases Is.bZ.mp h
  exact⟨n,rfl,hz,.str (toString n),e,.refl _,Is.iC.mpr rfl⟩
 ·exact absurd rfl hg
def Qm:kx X (.builtin "len") x4r:=by
 refine⟨_,UO (X:=X.bY),λH xs ds i hg=>?_⟩
 unfold x4r at hg
 split at hg
 ·rename_i x
  obtain⟨v,rfl,h⟩:=jR i
  obtain⟨hz,e⟩:=R.cU hg
  cases Is.iC.mp h
  exact⟨.str x,x.length,rfl,⟨by rw[lD];lia,rfl⟩,.int x.length,e,.refl _,Is.bZ.mpr rfl⟩
 ·exact absurd rfl hg
def Cn:gE X (iI .Add) y7i:=by
 refine⟨_,UH (X:=X.bY),λH x y dx dy ix iy hg=>?_⟩
 unfold y7i at hg
 split at hg
 ·rename_i i j
  obtain⟨hz,e⟩:=R.cU hg
  exact⟨i,j,Is.iC.mp ix,Is.iC.mp iy,by rw[lD];lia,.str (i++j),e,.refl _,Is.iC.mpr rfl⟩
 ·exact absurd rfl hg
def w7q:gE X (iY .In) dInS:=by
 refine⟨_,UG (X:=X.bY),λH x y dx dy ix iy hg=>?_⟩
 unfold dInS at hg
 split at hg
 ·rename_i i j
  exact⟨i,j,Is.iC.mp ix,Is.iC.mp iy,.bl (vg i j),rfl,.refl _,Is.gD.mpr rfl⟩
 ·exact absurd rfl hg
def Qn(ha:PD X a ga)(hb:PD X b gb)(hs:Dt b:=by intro _ _;rfl):PD X (.Subscript a b pos) (aj dIxS ga gb):=by
 refine⟨λpins s σ H F Γ I fo rl hg=>?_⟩
 refine Ky (az (ha.run pins s σ H F Γ I fo rl (R.left hg)) (λv s1 ⟨dx,x,H1,e1,I1,r1,S1,i1⟩=>?_) λ_ _ x=>x.bind _)
 have aM:=R.next hg e1
 refine az (hb.run pins s1 σ H1 F Γ I1 (fo.same S1) (rl.same S1) (R.left aM)) (λu s2 ⟨dy,y,H2,e2,I2,r2,S2,i2⟩=>?_) λ_ _ x=>cw.later e1 S1 (x.bind _)
 have dC:=R.next aM e2
 have qv:=i1.same S2
 cases dx with
 | str z =>
   cases dy with
   | int i =>
     obtain⟨hz,e5⟩:=R.cU (show R.guard (z.length<=100000) (match c5 z.cps.toList i with | some c=>R.ok (D.str ⟨#[c]⟩) | none=>R.no) ≠ .no from dC)
     cases q:c5 z.cps.toList i with
     | none=>exact absurd (show dIxS (.str z) (.int i) = .no from e5.trans (by rw[q])) dC
     | some c =>
       cases Is.iC.mp qv
       exact az (U7 (X:=X.bY) a b pins s2 σ H2 _ y v u (λz' H'=>z' = .str ⟨#[c]⟩/\H'=H2) (I2.dB _) r1 r2 ⟨z,i,c,rfl,Is.bZ.mp i2,by rw[lD];lia,q,rfl,rfl⟩ (hs _ _)) (λw' s' ⟨z',H',I',rz,ez,eH⟩=>by
        subst ez eH
        exact du.bind e1 S1 (du.bind e2 S2 ⟨.str ⟨#[c]⟩,.str ⟨#[c]⟩,H',e5.trans (by rw[q]),I'.fw,rz,.refl _,Is.iC.mpr rfl⟩)) λ_ _ z=>cx z
   | _=>exact absurd rfl dC
 | _=>exact absurd rfl dC
def Co{K:aE}{H:Hp}:∀{xs:List Str} {vs:List V} {its:List Value},aq K H (xs.map D.str) vs->Vals vs its->∃l:List (Str×Tok),its=kh l/\l.map (·.1)=xs
 | [],vs,its,h,r=>by
   cases aq.jq.mp h
   cases r
   exact⟨[],rfl,rfl⟩
 | x::xs,vs,its,h,r=>by
   obtain⟨v,G9,rfl,h1,h2⟩:=aq.i_.mp h
   cases Is.iC.mp h1
   cases r with
   | cons r1 r2 =>
     obtain⟨t,rfl⟩:=r1
     obtain⟨l,rfl,rfl⟩:=Co h2 r2
     exact⟨(x,t)::l,rfl,rfl⟩
def Qo:∀(l:List (Str×Tok)),Vals ((l.map (·.1)).map V.str) (kh l)
 | []=>.nil
 | (x,t)::l=>.cons ⟨t,rfl⟩ (Qo l)
def Qp{K:aE}{H:Hp}:∀(xs:List Str),aq K H (xs.map D.str) (xs.map V.str)
 | []=>aq.nil
 | x::xs=>aq.cons (Is.iC.mpr rfl) (Qp xs)
def ui{sep:Str}{j}{cp apos cL:Pos}(he:PD X e g)
 (ky:uJ (.Constant (.str sep) j cp) "join" X.env (eval (.Constant (.str sep) j cp) X.env)=eval (.Constant (.str sep) j cp) X.env:=by rfl)
 (mx:((cH cL (aT [e] X.env)).all (λx=>!x.1)&&(uw cL (ux [] X.env)).all (λx=>x.1.isSome)
   && decide ([e].length+([]:List kK).length+(if ([]:List kK).isEmpty then 0 else 1)<30))=true:=by rfl)
 (kz:(apos.endLine==cL.line)=true:=by rfl) (hs:aT [e] X.env=(false,eval e X.env)::aT [] X.env:=by rfl) :
 PD X (.Call (.Attribute (.Constant (.str sep) j cp) "join" apos) [e] [] cL) (la sep g):=by
 refine⟨λpins s σ H F Γ I fo rl hg=>?_⟩
 refine xf ky mx kz rfl (R8 ?_)
 refine⟨"str",_,a6z,PySem.F.slot_str_join,PySem.F.type_str_join,typeIs_str _ _ _,(λ_ e=>nomatch e),?_⟩
 rw[hs]
 refine uK rfl (xg ?_)
 show au _ _ (e9 ((false,eval e X.env)::cH cL [])) _ _ _
 refine fT (az (he.run pins _ σ H F Γ (I.tok _) fo rl (R.left hg)) (λu s2 ⟨d,y,H2,e2,I2,r2,S2,i2⟩=>iJ ?_) λ_ _ x=>x.bind _)
 have dC:=R.next hg e2
 cases d with
 | lst ds =>
   cases q:strs? ds with
   | none=>exact absurd (show(match strs? ds with | some xs=>R.guard (sG sep xs=true) (R.ok (D.str (mH sep xs))) | none=>R.no) = .no by rw[q]) dC
   | some xs =>
     have mz:R.guard (sG sep xs=true) (R.ok (D.str (mH sep xs))) ≠ .no:=by
      have h:=dC
      dsimp only at h
      rw[q] at h;exact h
     obtain⟨aN,e3⟩:=R.cU mz
     obtain rfl:=A0 q
     obtain⟨l,vs,rfl,h1,h2⟩:=Is.fC.mp i2
     cases (show u=fF l from r2)
     obtain⟨its,rv,pl,hz⟩:=I2.list h1
     obtain⟨lt,rfl,cW⟩:=Co h2 rv
     refine SC.join pl.isList cW aN λt' k=>?_
     refine du.bind e2 S2 ⟨.str (mH sep xs),.str (mH sep xs),H2,?_,I2.tok _,⟨t',rfl⟩,.refl _,Is.iC.mpr rfl⟩
     show(match strs? (xs.map D.str) with | some xs=>R.guard (sG sep xs=true) (R.ok (D.str (mH sep xs))) | none=>R.no)=_
     rw[q];exact e3
 | _=>exact absurd rfl dC
def x3i{prog:aS}{w:aR}{A:Around}{E:Value->ah->Prop}{s:ah}{x y:Str}{t u:Tok}{Q:Value->ah->Prop}(hy:(y.length==0)=false)
 (hq:∀(l:List (Str×Tok)) (k:Nat),l.map (·.1)=oQ x y->Q (.ref s.heap.objs.size) { s with toks:=k,heap:=s.heap.push { cls:=.type "list",data:=.seq (kh l).toArray } })
 (j6:x.length<=b5) (a1b:(a7a x (zG x y 0 x.length (x.length+1)) y.length).length<=b5) :
 au (aD prog w) A (call (.builtin "str.split") [.str x t,.str y u]) Q E s:=by
 cases h1:(decide (x.length<y.length)||decide (a7b x<a7b y))
 ·cases hf:(zG x y 0 x.length (x.length+1)).isEmpty
  ·refine qQ KY (typeIs_str _ _ _) TJ (TK _ _) (meets_str_split_sep x y t u h1 hy hf j6 a1b) ?_
   show wants Q E _ { s with toks:=_,heap:=s.heap.push { cls:=.type "list",data:=.seq (strsFrom s.toks (a7a x (zG x y 0 x.length (x.length+1)) y.length)).toArray } }
   rw[strsFrom_eq]
   exact hq (numbered s.toks _) _ ((numbered_texts _ _).trans ((if_neg (ne_true_of_eq_false h1)).trans (if_neg (ne_true_of_eq_false hf))).symm)
  ·exact qQ KY (typeIs_str _ _ _) TJ (TK _ _) (meets_str_split_not_found x y t u h1 hy hf)
    (hq [(x,t)] _ ((if_neg (ne_true_of_eq_false h1)).trans (if_pos hf)).symm)
 ·exact qQ KY (typeIs_str _ _ _) TJ (TK _ _) (meets_str_split_cannot_occur x y t u h1)
   (hq [(x,t)] _ (if_pos h1).symm)
def Qq{sep:Str}{j}{cp apos cL:Pos}(he:PD X e g)
 (ky:uJ e "split" X.env (eval e X.env)=eval e X.env:=by rfl)
 (mx:((cH cL (aT [.Constant (.str sep) j cp] X.env)).all (λx=>!x.1)&&(uw cL (ux [] X.env)).all (λx=>x.1.isSome)
   && decide ([Expr.Constant (.str sep) j cp].length+([]:List kK).length+(if ([]:List kK).isEmpty then 0 else 1)<30))=true:=by rfl)
 (kz:(apos.endLine==cL.line)=true:=by rfl) (hs:aT [.Constant (.str sep) j cp] X.env=(false,eval (.Constant (.str sep) j cp) X.env)::aT [] X.env:=by rfl) :
 PF X (.Call (.Attribute e "split" apos) [.Constant (.str sep) j cp] [] cL) (xW sep g):=by
 refine⟨λpins s σ H F Γ I fo rl hg=>?_⟩
 refine xf ky mx kz rfl (az (he.run pins s σ H F Γ I fo rl (R.left hg)) (λv s1 ⟨dl,vl,H1,e1,I1,r1,S1,i1⟩=>?_) λ_ _ x=>x.bind _)
 have aM:=R.next hg e1
 cases dl with
 | str x =>
   obtain⟨⟨hx,hy⟩,e3⟩:=R.cU (show R.guard (x.length<=100000/\(sep.length==0)=false) (R.ok ((oQ x sep).map D.str)) ≠ .no from aM)
   cases Is.iC.mp i1
   obtain⟨t,rfl⟩:=r1
   refine⟨"str",_,a6z,KY,PySem.F.type_str_split,typeIs_str _ _ _,(λ_ e=>nomatch e),?_⟩
   rw[hs]
   refine uK rfl (xg ?_)
   show au _ _ (e9 ((false,eval (.Constant (.str sep) j cp) X.env)::cH cL [])) _ _ s1
   refine fT (R8 (iJ ?_))
   have hy1:1<=sep.length:=by
    have:sep.length≠0:=by simpa using hy
    lia
   have hw:=split_weight x sep hy1
   have nj:=lD
   refine x3i (s:={ s1 with toks:=s1.toks+1 }) hy (λlt k cW=>?_) (by lia) (by rw[length_partsBetween];have:=StrLaws.occ_length_le x sep 0 x.length (x.length+1);lia)
   have Qr:lt.length=(oQ x sep).length:=by rw[<-cW,aX]
   have j6:s1.heap.objs.size<=s1.heap.objs.size:=a9 _
   have ji:H1 s1.heap.objs.size=none:=I1.aN.fresh j6
   have kp:∀b u,s1.heap.get? b=some u->(s1.heap.push { cls:=.type "list",data:=.seq (kh lt).toArray }).get? b=some u:=λb u h=>dE _ h
   have I2:Inv X pins σ (upd H1 s1.heap.objs.size (.lst ((lt.map (·.1)).map V.str))) { s1 with toks:=k,heap:=s1.heap.push { cls:=.type "list",data:=.seq (kh lt).toArray } } :=
    I1.laid (t':=k) kp j6 (show jo X.prog X.w _ _ _ (.lst ((lt.map (·.1)).map V.str)) from⟨by rw[aX,aX,Qr];lia,kh lt,_,Qo lt,gf _ rfl⟩)
   have S2:=g7 ji (.lst ((lt.map (·.1)).map V.str))
   refine⟨(oQ x sep).map D.str,s1.heap.objs.size,(lt.map (·.1)).map V.str,_,(R.step e1 _).trans e3,I2,rfl,S1.trans S2,S1.free ji,dj,?_⟩
   rw[<-cW]
   exact Qp _
 | _=>exact absurd rfl aM
end
def Qs(x:Str):It:=⟨λi _=>i<x.cps.size,λi H v H'=>H'=H/\∃c,x.cps[i]? = some c/\v = .str ⟨#[c]⟩,λi _=>x.cps.size<=i⟩
def x5g{P:aS}{w:aR}{K:aE}{tg:Expr}{n:String}(hn:n="str_ascii_iterator"∨n="str_iterator")(it:Addr)(x:Str)(t:Tok):Turn P w K tg (Qs x) [it] it (λi h=>h.IsStrIter it n x t i):=by
 have W:∀(A:Around),A.handled=none->Walks P w A it [it] [it] x.cps.size (SignAt x) (λi h=>h.IsStrIter it n x t i):=λA hA=>by
  rcases hn with rfl | rfl
  ·exact Walks.strAscii hA it x t
  ·exact Walks.strWide hA it x t
 exact {
  mem:=by simp
  obj:=λi h st b hb=>by
   have e:b=it:=by simpa using hb
   subst e
   obtain⟨o,e,c,d⟩:=st
   exact⟨o,e,λv z=>by rw[d] at z;cases z⟩
  keep:=λi h h' st k=>let ⟨o,ho,r⟩:=st;⟨o,k it (by simp) o ho,r⟩
  item:=by
   intro X hP hw hK hc i pins s σ H E I hf st hg
   subst hP hw hK
   obtain⟨f0,f1,f2,f3,f4,f5⟩:=hf it (by simp)
   refine(W X.A (I.ok.hd hc)).item i s _ _ hg st λv h' tk hv iL kk=>?_
   obtain⟨c,u,uN,rfl⟩:=hv
   have I1:Inv X pins σ H { s with heap:=h',toks:=tk }:=I.turned (λb o hb e=>kk b o (by simpa using hb) e) f0 f1 f3 f4 f5
   obtain⟨o,e,c',d⟩:=id iL
   exact⟨_,rfl,uR (s:={ s with heap:=h',toks:=tk }) e c' d (by rcases hn with rfl | rfl<;>decide) ⟨.str ⟨#[c]⟩,H,I1,⟨u,rfl⟩,⟨rfl,c,uN,rfl⟩,iL,λb hb=>(hf b hb).1⟩⟩
  done:=by
   intro X hP hw hK hc i pins s σ H E I hf st hg
   subst hP hw hK
   obtain⟨f0,f1,f2,f3,f4,f5⟩:=hf it (by simp)
   have hx:x.cps[i]? = none:=a6r hg
   rcases hn with rfl | rfl
   ·exact wpAny_pyNext_ascii_end (I.ok.hd hc) st hx λh' eb=>⟨rfl,I.turned (t':=s.toks) (λb o hb e=>eb b o hb e) f0 f1 f3 f4 f5⟩
   ·exact wpAny_pyNext_wide_end (I.ok.hd hc) st hx λh' eb=>⟨rfl,I.turned (t':=s.toks) (λb o hb e=>eb b o hb e) f0 f1 f3 f4 f5⟩
  self:=λA i s Q E st h=>by
   rcases hn with rfl | rfl
   ·exact wpAny_pyIter_striter_ascii st h
   ·exact wpAny_pyIter_striter_wide st h }
def w5v{K:aE}{H:Hp}{F:List Addr}(x:Str):JC K H F (Qs x) (n8 x):=λH1 S=>by
 have hl:(n8 x).length=x.cps.size:=by unfold n8;simp
 rw[hl]
 refine⟨λj hj=>⟨hj,λv H2 y=>⟨y.1,?_⟩⟩,a9 _⟩
 obtain⟨_,c,hc,rfl⟩:=y
 refine⟨.str ⟨#[c]⟩,?_,Is.iC.mpr rfl⟩
 unfold n8
 rw[e8,SA,hc];rfl
section
variable {X:Cx}{tg a:Expr}{ga:G->R D}
def w0r(ha:PD X a ga):tV X tg a (y3y ga):=by
 refine⟨λpins s σ H F Γ I fo rl hg=>?_⟩
 refine az (ha.run pins s σ H F Γ I fo rl (R.left hg)) (λv s1 ⟨d,x,H1,e1,I1,r1,S1,i1⟩=>?_) λ_ _ x=>x.bind _
 have aM:=R.next hg e1
 cases d with
 | str z =>
   obtain⟨hz,e2⟩:=R.cU (show R.guard (z.length<=100000) (.ok (n8 z)) ≠ .no from aM)
   cases Is.iC.mp i1
   obtain⟨t,rfl⟩:=r1
   have fin:∀(n:String) (o:Obj),(n="str_ascii_iterator"∨n="str_iterator")->(s1.heap.push o).IsStrIter s1.heap.objs.size n z t 0->∃(ds:List D) (it:Addr) (fp:List Addr) (tn:Nat->Heap->Prop) (J:It) (H':Hp),y3y ga Γ = .ok ds/\fF s1.heap.objs.size = .ref it/\Inv X pins σ H' { s1 with heap:=s1.heap.push o }/\aO H H' /\
    Turn X.prog X.w X.K tg J fp it tn/\tn 0 (s1.heap.push o)/\(∀b∈fp,fU X pins H' b)/\JC X.K H' F J ds:=λn o hn st =>
    ⟨n8 z,s1.heap.objs.size,_,_,_,H1,(R.step e1 _).trans e2,rfl,I1.kept (t':=s1.toks) λb o e=>dE _ e,S1,x5g hn _ z t,st,λb hb=>by
      have e:b=s1.heap.objs.size:=by simpa using hb
      subst e
      exact I1.sO (a9 _) (I1.aN.fresh (a9 _)),w5v z⟩
   cases hq:z.cps.all (·<128)
   ·exact wpAny_pyIter_wide hq (fin _ _ (.inr rfl) ⟨_,gf _ rfl,rfl,rfl⟩)
   ·exact wpAny_pyIter_ascii hq (fin _ _ (.inl rfl) ⟨_,gf _ rfl,rfl,rfl⟩)
 | _=>exact absurd rfl aM
end
def uj(l:Addr)(H H':Hp):Prop:=∀b o,b≠l->H b=some o->H' b=some o
def Qt(K:aE)(i:Nat)(φ:List D->R (D×List D)):Sp:=λvs H Q E=>∃as bs xs ys ws l zs,vs=xs ++ .ref l::ys/\as.length=i/\aq K (aH [l] H) as xs/\aq K (aH [l] H) bs ys/\H l=some (.lst zs)/\aq K (aH [l] H) ws zs /\
 φ (as ++ .lst ws::bs) ≠ .no/\(∀c,φ (as ++ .lst ws::bs) ≠ .er c)/\∀d iH v H' iX,φ (as ++ .lst ws::bs) = .ok (d,iH)->uj l H H'->H' l=some (.lst iX)->aq K (aH [l] H') iH iX->Is K (aH [l] H') d v->Q v H'
structure pN (P:aS) (w:aR) (K:aE) (mg:Str->Option Value) (base:Heap) (k:Nat) (f:Addr) (fd:cB) (ps:List Str) (i:Nat) (φ:List D->R (D×List D)):Prop where
 ok:jH P w K mg base (nC P w) k f fd ps (Qt K i φ)
 binds:km K fd ps []
 kp:wG K (.ref f)=true
def pN.mono{P:aS}{w:aR}{K:aE}{mg:Str->Option Value}{base:Heap}{j k:Nat}{f:Addr}{fd:cB}{ps:List Str}{i:Nat}{φ:List D->R (D×List D)}(F:pN P w K mg base j f fd ps i φ)(h:j<=k):pN P w K mg base k f fd ps i φ:=⟨F.ok.mono h,F.binds,F.kp⟩
section
variable {X:Cx}{e:Expr}{es:List Expr}{g:G->R D}{gs:G->R (List D)}{pos p:Pos}{x:Str}
structure zj (X:Cx) (i w:Nat) (es:List Expr) (g:G->R (List D)):Prop where
 run:∀(pos:Pos) (pins:List (Addr×Obj)) (s:ah) (σ:St) (H:Hp) (F:List Addr) (Γ:G),Inv X pins σ H s->bL H F->Rel X.K H F Γ σ->g Γ ≠ .no ->
  au (aD X.prog X.w) X.A (e9 (cH pos (aT es X.env))) (λus s'=>∃as bs xs ys ws l H',g Γ = .ok (as ++ .lst ws::bs)/\Inv X pins σ H' s'/\Vals (xs ++ .ref l::ys) us/\aO H H'/\as.length=i/\Γ[w]? = some (.own ws)/\σ[w]? = some (some (.ref l)) /\
   aq X.K (aH F H') as xs/\aq X.K (aH F H') bs ys) (cw X pins σ H (g Γ)) s
def pO{i w:Nat}(ha:ij X e g)(hr:zj X i w es gs)(hs:aT (e::es) X.env=(false,eval e X.env)::aT es X.env:=by rfl):zj X (i+1) w (e::es) (ae g gs):=by
 refine⟨λpos pins s σ H F Γ I fo rl hg=>?_⟩
 rw[hs]
 show au _ _ (e9 ((false,eval e X.env)::cH pos (aT es X.env))) _ _ s
 refine fT (az (ha.run pins s σ H F Γ I fo rl (R.left hg)) (λu s1 ⟨d,x,H1,e1,I1,r1,S1,i1⟩=>?_) λ_ _ x=>x.bind _)
 have aM:=R.next hg e1
 refine az (hr.run pos pins s1 σ H1 F Γ I1 (fo.same S1) (rl.same S1) (R.left aM)) (λus s2 ⟨as,bs,xs,ys,ws,l,H2,e2,I2,r2,S2,hl,hw,jD,j1,j2⟩=>?_) λ_ _ x=>cw.later e1 S1 (x.bind _)
 refine⟨d::as,bs,x::xs,ys,ws,l,H2,?_,I2,.cons r1 r2,S1.trans S2,by rw[b6,hl],hw,jD,aq.cons (i1.same (iT S2)) j1,j2⟩
 exact(R.step e1 _).trans ((R.step e2 _))
def nM(w:Nat)(hN:X.N[w]? = some x)(hr:si X es gs)(hv:lI X.env.scope x:=by first | exact gq rfl | exact dX (gq rfl) | exact dX (dX rfl))(hd:(x==("__debug__":Str))=false:=by decide)(dY:(x==("__classdict__":Str))=false:=by decide)
 (hs:aT (.Name x p::es) X.env=(false,eval (.Name x p) X.env)::aT es X.env:=by rfl):zj X 0 w (.Name x p::es) (z9c w gs):=by
 show zj X 0 w (.Name x p::es) (λΓ=>match Γ[w]? with | some (.own ws)=>gs Γ>>=λbs=>.ok (.lst ws::bs) | _=>.no)
 refine⟨λpos pins s σ H F Γ I fo rl hg=>?_⟩
 cases hw:Γ[w]? with
 | none=>rw[hw] at hg;exact absurd rfl hg
 | some en =>
   cases en with
   | no=>rw[hw] at hg;exact absurd rfl hg
   | ro d=>rw[hw] at hg;exact absurd rfl hg
   | own ws =>
     rw[hw] at hg
     dsimp only at hg ⊢
     obtain⟨l,zs,jD,hF,hH,qE⟩:=rl.own w ws hw
     rw[hs]
     show au _ _ (e9 ((false,eval (.Name x p) X.env)::cH pos (aT es X.env))) _ _ s
     refine fT (az (p6 (X:=X.bY) hN hv hd dY pins s σ H (λv' H'=>v' = .ref l/\H'=H) (I.dB _) ⟨.ref l,jD,rfl,rfl⟩) (λu s1 ⟨v',H',I',r,e1,e2⟩=>?_) λ_ _ z=>cx z)
     subst e1 e2
     refine az (hr.run pos pins s1 σ H' F Γ I'.fw fo rl (R.left hg)) (λus s2 ⟨bs,ys,H2,e2,I2,r2,S2,j2⟩=>?_) λ_ _ x=>x.bind _
     exact⟨[],bs,[],ys,ws,l,H2,R.step e2 _,I2,.cons r r2,S2,rfl,by first | exact hw | rfl,jD,aq.nil,j2⟩
def Qu(X:Cx)(w:Nat)(pins:List (Addr×Obj))(σ:St)(H:Hp)(F:List Addr)(Γ:G)(r:R (D×List D))(u:Value)(s':ah):Prop :=
 ∃d ws v H',r = .ok (d,ws)/\Inv X pins σ H' s'/\RelV v u/\bL H' F/\Rel X.K H' F (Γ.set w (.own ws)) σ/\Ext H F H' F/\Is X.K (aH F H') d v/\w<Γ.length
structure oJ (X:Cx) (w:Nat) (e:Expr) (g:G->R (D×List D)):Prop where
 run:∀(pins:List (Addr×Obj)) (s:ah) (σ:St) (H:Hp) (F:List Addr) (Γ:G),Inv X pins σ H s->bL H F->Rel X.K H F Γ σ->g Γ ≠ .no ->
  au (aD X.prog X.w) X.A (eval e X.env) (Qu X w pins σ H F Γ (g Γ)) (λ_ _=>False) s
def runM{k:Nat}{f:Addr}{fd:cB}{ps:List Str}{i:Nat}{φ:List D->R (D×List D)}(Fn:pN X.prog X.w X.K X.mg X.base k f fd ps i φ)(hr:dO k X.A){pins:List (Addr×Obj)}{σ:St}{H:Hp}{F:List Addr}{s:ah}{us:List Value}{as bs ws iH:List D}{xs ys:List V}{l:Addr}{zs:List V}{d:D}{EE:Value->ah->Prop}
 (I:Inv X pins σ H s) (fo:bL H F) (r:Vals (xs ++ .ref l::ys) us) (hi:as.length=i) (j1:aq X.K (aH F H) as xs) (j2:aq X.K (aH F H) bs ys) (hF:l∈F) (hH:H l=some (.lst zs)) (j3:aq X.K (aH F H) ws zs) (hg:φ (as ++ .lst ws::bs) = .ok (d,iH)) :
 au (aD X.prog X.w) X.A (call (.ref f) us) (λu s'=>∃v H' iX,Inv X pins σ H' s'/\RelV v u/\uj l H H'/\H' l=some (.lst iX)/\aq X.K (aH F H') iH iX/\Is X.K (aH F H') d v) EE s:=by
 let F0:=F.filter (·≠l)
 have m0:∀{b},b∈F0↔b∈F/\b≠l:=λ{b}=>by simp[F0]
 have lF0:l ∉ F0:=λz=>(m0.mp z).2 rfl
 have Cp:bL H F0:=λb hb=>fo b (m0.mp hb).1
 have sub:aO (aH F H) (aH [l] (aH F0 H)):=λb o h=>by
  obtain⟨h1,h2⟩:=ja h
  have gF:b≠l:=λz=>h1 (by rw[z];exact hF)
  rw[di (by simpa using gF),di λz=>h1 (m0.mp z).1];exact h2
 have eE:Qt X.K i φ (xs ++ .ref l::ys) (aH F0 H) (λv H'=>∃iX,uj l (aH F0 H) H'/\H' l=some (.lst iX)/\aq X.K (aH [l] H') iH iX/\Is X.K (aH [l] H') d v) (λ_ _ _=>False) :=
  ⟨as,bs,xs,ys,ws,l,zs,rfl,hi,j1.same sub,j2.same sub,by rw[di lF0];exact hH,j3.same sub,(by rw[hg];exact λz=>nomatch z),(λc z=>by rw[hg] at z;cases z),λd' w' v H' iX e B hl jw jd=>by rw[hg] at e;cases e;exact⟨iX,B,hl,jw,jd⟩⟩
 have hl:us.length=ps.length:=by rw[<-r.length];exact Fn.ok.len _ _ _ _ eE
 have hb:=Fn.binds s us I.gH (by rw[kJ];exact hl)
 rw[kJ] at hb
 have nh:∀{b:Addr},H b=none->aH F0 H b=none:=λ{b} q=>by
  by_cases hb:b∈F0
  ·exact rX hb
  ·rw[di hb];exact q
 have e0:=I.xA
 have en:uU X.prog X.w X.K X.mg X.base X.A X.stack s (aH F0 H):=⟨e0.frames,e0.mod,λb o q=>⟨(e0.bs b o q).1,nh (e0.bs b o q).2⟩,e0.kl,e0.j4,λb hb=>nh (e0.lJ b hb),PV Cp e0.aN,e0.bare⟩
 refine zV (qR (Fn.ok.run X.A X.stack s (aH F0 H) ⟨us,[]⟩ us _ _ _ hr en hb r eE) λr' s' hq=>?_)
 cases r' with
 | error u=>obtain⟨_,_,_,_,_,_,_,_,_,_,_,_,_,_,_,_,_,_,_,_,_,_,_,_,_,_,hE⟩:=hq;exact hE.elim
 | ok fl =>
   cases fl with
   | ret u =>
     obtain⟨v,H1,os,bare,un,aN,rv,iX,B,v9,jw,jd⟩:=hq
     have own:∀b,b∈F0->∃ys its n,H b=some (.lst ys)/\ys.length<=b5/\Vals ys its/\s'.heap.get? b=some { cls:=.type "list",data:=.seq its.toArray n }/\H1 b=none:=λb hb=>by
      obtain⟨ys,ey⟩:=Cp b hb
      obtain⟨z,its,n,uf,gt⟩:=I.aN b _ ey
      exact⟨ys,its,n,ey,z,uf,un.keep b _ gt (rX hb) (λz=>by rw[e0.lJ b z] at ey;cases ey) (by simp),un.free b _ gt (rX hb) (by simp)⟩
     let H2:Hp:=λb=>if b∈F0 then H b else H1 b
     have zg:∀{b},b∈F0->H2 b=H b:=λ{b} h=>if_pos h
     have kB:∀{b},b ∉ F0->H2 b=H1 b:=λ{b} h=>if_neg h
     have up:∀{b o},H1 b=some o->b ∉ F0/\H2 b=some o:=λ{b o} q=>by
      have hb:b ∉ F0:=λz=>by obtain⟨_,_,_,_,_,_,_,z2⟩:=own b z;rw[q] at z2;cases z2
      exact⟨hb,(kB hb).trans q⟩
     have ug:∀{b o},H b=some o->(∀ys,o ≠ .lst ys)->b ∉ F0:=λ{b o} q n z=>by obtain⟨ys,e⟩:=Cp b z;rw[q] at e;cases e;exact n ys rfl
     have Hx:Un (dA X.stack) [] H H2 s.heap s'.heap:=by
      refine⟨λb o q n=>un.keep b o q (nh n),λb o q n=>un.slot b o q (nh n),λb o q n hx=>?_,un.there,λb ys q=>?_,λb o u q=>?_,λb ps q=>?_⟩
      ·have hb:b ∉ F0:=λz=>by obtain⟨ys,e⟩:=Cp b z;rw[n] at e;cases e
       rw[kB hb];exact un.free b o q (nh n) hx
      ·have hb:=ug q λys z=>nomatch z
       rw[kB hb];exact un.kM b ys (by rw[di hb];exact q)
      ·have hb:=ug q λys z=>nomatch z
       rw[kB hb];exact un.kj b o u (by rw[di hb];exact q)
      ·have hb:=ug q λys z=>nomatch z
       rw[kB hb];exact un.kN b ps (by rw[di hb];exact q)
     have Hy:eB X.prog X.w H2 s'.heap:=λb u q=>by
      by_cases hb:b∈F0
      ·obtain⟨ys,its,n,ey,z,uf,gt,_⟩:=own b hb
       rw[zg hb,ey] at q
       cases q
       exact⟨z,its,n,uf,gt⟩
      ·rw[kB hb] at q
       exact(aN b u q).lH (λc v _ e=>e) (λc e=>(up e).2) λc ys e=>(up e).2
     have I2:Inv X pins σ H2 s':=I.Dl os Hx Hy bare (λb z=>absurd z (by simp))
     have B2:uj l H H2:=λb o gF q=>by
      by_cases hb:b∈F0
      ·rw[zg hb];exact q
      ·rw[kB hb];exact B b o gF (by rw[di hb];exact q)
     have Sx:aO (aH [l] H1) (aH F H2):=λb o q=>by
      obtain⟨q1,q2⟩:=ja q
      have gF:b≠l:=by simpa using q1
      have hb:=up q2
      rw[di λz=>hb.1 (m0.mpr ⟨z,gF⟩)];exact hb.2
     exact⟨v,H2,iX,I2,rv,B2,(up v9).2,jw.same Sx,jd.same Sx⟩
   | next=>exact cx hq
   | brk=>exact cx hq
   | cont=>exact cx hq
def Rel.but{K:aE}{H H':Hp}{F:List Addr}{Γ:G}{σ:St}{w:Nat}{ws iH:List D}{l:Addr}{iX:List V}(r:Rel K H F Γ σ)(fo:bL H F)(e:Γ[w]? = some (.own ws))(ea:σ[w]? = some (some (.ref l)))(B:uj l H H')(hl:H' l=some (.lst iX))(iv:aq K (aH F H') iH iX):Rel K H' F (Γ.set w (.own iH)) σ/\bL H' F/\Ext H F H' F:=by
 obtain⟨a',zs,h1,hF,h3,h4⟩:=r.own w ws e
 rw[ea] at h1;cases h1
 have S:aO (aH F H) (aH F H'):=λb o h=>by
  obtain⟨q1,q2⟩:=ja h
  rw[di q1]
  exact B b o (λz=>q1 (by rw[z];exact hF)) q2
 have hi:w<Γ.length:=(List.getElem?_eq_some_iff.mp e).1
 refine⟨⟨by rw[gp,r.len],λj d' h=>?_,λj es h=>?_,λj k eO vV b h1 h2 GS GU=>?_⟩,λb hb=>?_,⟨λb o hb q=>B b o (λz=>hb (by rw[z];exact hF)) q,λb hb=>.inl hb⟩⟩
 ·by_cases ej:w=j
  ·subst ej;rw[iq hi] at h;cases h
  ·rw[eZ ej] at h
   obtain⟨v,q1,q2⟩:=r.ro j d' h
   exact⟨v,q1,q2.same S⟩
 ·by_cases ej:w=j
  ·subst ej;rw[iq hi] at h;cases h
   exact⟨l,iX,ea,hF,hl,iv⟩
  ·rw[eZ ej] at h
   obtain⟨b,ys,q1,q2,q3,q4⟩:=r.own j es h
   exact⟨b,ys,q1,q2,B b _ (λz=>ej (r.inj w j ws es l e h ea (by rw[<-z];exact q1))) q3,q4.same S⟩
 ·have old:∀(m:Nat) (cT:List D),(Γ.set w (En.own iH))[m]? = some (En.own cT)->∃GV,Γ[m]? = some (En.own GV):=λm cT h=>by
   by_cases el:w=m
   ·subst el;exact⟨ws,e⟩
   ·rw[eZ el] at h;exact⟨cT,h⟩
  obtain⟨e1,q1⟩:=old j eO h1
  obtain⟨e2,q2⟩:=old k vV h2
  exact r.inj j k e1 e2 b q1 q2 GS GU
 ·by_cases z:b=l
  ·rw[z];exact⟨iX,hl⟩
  ·obtain⟨xs,q⟩:=fo b hb
   exact⟨xs,B b _ z q⟩
def nO{k i w:Nat}{f:Addr}{fd:cB}{ps:List Str}{φ:List D->R (D×List D)}(Fn:pN X.prog X.w X.K X.mg X.base k f fd ps i φ)(hr:dO k X.A)(hm:X.mg x=some (.ref f))(ha:zj X i w (e::es) gs)(hg:Gl X x:=by rfl)(gN:(x==("__debug__":Str))=false:=by decide)
 (he:aT (e::es) X.env=(false,eval e X.env)::aT es X.env:=by rfl) (gu:(cH pos (aT es X.env)).any (·.1)=false:=by rfl):oJ X w (.Call (.Name x p) (e::es) [] pos) (iA φ gs):=by
 refine⟨λpins s σ H F Γ I fo rl bW=>?_⟩
 obtain⟨ds,⟨d,iH⟩,e1,e2,e3⟩:=Wq bW
 rw[e3]
 refine kL (nX I hg hm ?_ gN)
 refine wX (h₀:=X.base) I.ok.mod.oW Fn.kp (az (ha.run pos pins s σ H F Γ I fo rl (by rw[e1];exact λz=>nomatch z)) (λus s1 ⟨as,bs,xs,ys,ws,l,H1,f1,I1,r1,S1,hi,hw,jD,j1,j2⟩=>⟨I1.gH,?_⟩) λ_ _ ⟨c,_,z,_⟩=>by rw[e1] at z;cases z) he gu
 rw[e1] at f1;cases f1
 obtain⟨a',zs,h1,hF,h3,h4⟩:=(rl.same S1).own w ws hw
 rw[jD] at h1;cases h1
 refine az (runM Fn hr (EE:=λ_ _=>False) I1 (fo.same S1) r1 hi j1 j2 hF h3 h4 e2) (λu s2 ⟨v,H2,iX,I2,rv,B,hl,jw,jd⟩=>?_) λ_ _ z=>z
 obtain⟨R2,F2,E2⟩:=(rl.same S1).but (fo.same S1) hw jD B hl jw
 exact⟨d,iH,v,H2,rfl,I2,rv,F2,R2,(Ext.of_same S1).trans E2,jd,(List.getElem?_eq_some_iff.mp hw).1⟩
end
structure PW (X:Cx) (i:Nat) (b:List Stmt) (g:G->R (D×List D)):Prop where
 run:∀(pins:List (Addr×Obj)) (s:ah) (σ:St) (H:Hp) (F:List Addr) (Γ:G),Inv X pins σ H s->bL H F->Rel X.K H F Γ σ->g Γ ≠ .no ->
  au (aD X.prog X.w) X.A (sv b X.env) (λfl s'=>∃u,fl = .ret u/\∃d ws v aJ H' F' l zs,g Γ = .ok (d,ws)/\Inv X pins aJ H' s'/\RelV v u/\Ext H F H' F'/\σ[i]? = some (some (.ref l))/\H' l=some (.lst zs)/\l∈F'/\aq X.K (aH F' H') ws zs/\Is X.K (aH F' H') d v) (λ_ _=>False) s
section
variable {X:Cx}{e c:Expr}{g:G->R D}{pos pos':Pos}{st:Stmt}{rest:List Stmt}{t:G->R Fl}{u v:G->R (D×List D)}{i:Nat}
def Qv{Γ:G}{d:D}(h:(match Γ[i]? with | some (.own ws)=>R.ok (d,ws) | _=>R.no) ≠ .no):∃ws,Γ[i]? = some (.own ws):=by
 cases q:Γ[i]? with
 | none=>rw[q] at h;exact absurd rfl h
 | some en =>
   cases en with
   | no=>rw[q] at h;exact absurd rfl h
   | ro d'=>rw[q] at h;exact absurd rfl h
   | own ws=>exact⟨ws,rfl⟩
def HE(he:ij X e g):PW X i (.Return (some e) pos::rest) (qj i g):=by
 refine⟨λpins s σ H F Γ I fo rl hg=>?_⟩
 obtain⟨d,e1⟩:=R.A1 (R.left hg)
 have e2:qj i g Γ=(match Γ[i]? with | some (.own ws)=>R.ok (d,ws) | _=>R.no):=by unfold qj;rw[e1];rfl
 rw[e2] at hg ⊢
 obtain⟨ws,hw⟩:=Qv hg
 obtain⟨l,zs,jD,hF,hH,qE⟩:=rl.own i ws hw
 refine uI (zY (az (he.run pins s σ H F Γ I fo rl (by rw[e1];exact λz=>nomatch z)) (λu s1 ⟨d',v,H1,f1,I1,r1,S1,i1⟩=>?_) λ_ _ ⟨c,_,z,_⟩=>by rw[e1] at z;cases z))
 rw[e1] at f1;cases f1
 exact⟨u,rfl,d,ws,v,σ,H1,F,l,zs,by rw[hw],I1,r1,.of_same S1,jD,S1 _ _ hH,hF,qE.same (iT S1),i1⟩
def nP(h1:PK X i st t)(h2:PW X i rest u):PW X i (st::rest) (d9 t u):=by
 refine⟨λpins s σ H F Γ I fo rl hg=>?_⟩
 cases ht:t Γ with
 | no=>exact absurd (show d9 t u Γ = .no by unfold d9;rw[ht]) hg
 | er c=>exact absurd (show d9 t u Γ = .no by unfold d9;rw[ht]) hg
 | ok f =>
   cases f with
   | nx d8 =>
     have e2:d9 t u Γ=u d8:=by unfold d9;rw[ht]
     rw[e2] at hg ⊢
     refine uI (az (h1.run pins s σ H F Γ I fo rl (by rw[ht];exact λz=>nomatch z)) (λfl s1 q=>?_) λx s1 q=>?_)
     ·rw[ht] at q
      cases fl with
      | next =>
        obtain⟨Γ',e,aJ,H',F',I',BZ,mw,E,k⟩:=q
        cases e
        refine az (h2.run pins s1 aJ H' F' d8 I' BZ mw hg) (λfl s2 ⟨u',hu,d,ws,v,HF,H2,F2,l,zs,q1,q2,q3,q4,q5,q6,q7,q8,q9⟩=>?_) λ_ _ z=>z
        exact⟨u',hu,d,ws,v,HF,H2,F2,l,zs,q1,q2,q3,E.trans q4,by rw[<-k];exact q5,q6,q7,q8,q9⟩
      | ret v=>exact(by obtain⟨v',aJ,H',F',_,_,_,⟨d,z,_⟩ | ⟨_,_,_,z,_⟩⟩:=q<;>cases z)
      | brk=>exact(by obtain⟨Γ',z,_⟩:=q;cases z)
      | cont=>exact(by obtain⟨Γ',z,_⟩:=q;cases z)
     ·rw[ht] at q
      obtain⟨c,Γ',aJ,H',F',z,_⟩:=q
      cases z
   | rt d=>exact absurd (show d9 t u Γ = .no by unfold d9;rw[ht]) hg
   | fW d=>exact absurd (show d9 t u Γ = .no by unfold d9;rw[ht]) hg
   | bk d=>exact absurd (show d9 t u Γ = .no by unfold d9;rw[ht]) hg
   | ct d=>exact absurd (show d9 t u Γ = .no by unfold d9;rw[ht]) hg
   | ex c d=>exact absurd (show d9 t u Γ = .no by unfold d9;rw[ht]) hg
def Qw{cs:List Stmt}{gc:G->R Bool}(hc:jB X c gc)(ha:PW X i cs u)(hb:PW X i rest v):PW X i (.If c cs [] pos::rest) (n_ gc u v):=by
 refine⟨λpins s σ H F Γ I fo rl hg=>?_⟩
 obtain⟨k,e1⟩:=R.A1 (R.left hg)
 have e2:n_ gc u v Γ=if k=true then u Γ else v Γ:=by unfold n_;rw[e1];rfl
 rw[e2] at hg ⊢
 refine uI (KG (az (hc.run pins s σ H F Γ I fo rl (by rw[e1];exact λz=>nomatch z)) (λk' s1 q=>?_) λ_ _ ⟨c,_,z,_⟩=>by rw[e1] at z;cases z))
 obtain⟨H1,f1,I1,S1⟩:=q
 rw[e1] at f1;cases f1
 have fin:∀{w:G->R (D×List D)} {b:List Stmt} {Q:Flow->ah->Prop},PW X i b w->w Γ ≠ .no->(∀fl s',(∃u,fl = .ret u/\∃d ws v aJ H' F' l zs,w Γ = .ok (d,ws)/\Inv X pins aJ H' s'/\RelV v u/\Ext H F H' F'/\σ[i]? = some (some (.ref l))/\H' l=some (.lst zs)/\l∈F'/\aq X.K (aH F' H') ws zs/\Is X.K (aH F' H') d v)->Q fl s')->au (aD X.prog X.w) X.A (sv b X.env) Q (λ_ _=>False) s1:=λ{w b Q} hw hn hQ =>
  az (hw.run pins s1 σ H1 F Γ I1 (fo.same S1) (rl.same S1) hn) (λfl s2 ⟨u',hu,d,ws,v,HF,H2,F2,l,zs,q1,q2,q3,q4,q5,q6,q7,q8,q9⟩=>hQ _ _ ⟨u',hu,d,ws,v,HF,H2,F2,l,zs,q1,q2,q3,(Ext.of_same S1).trans q4,q5,q6,q7,q8,q9⟩) λ_ _ z=>z
 cases k with
 | true =>
   rw[if_pos rfl] at hg ⊢
   refine fin ha hg λfl s' h=>?_
   obtain⟨u',hu,h'⟩:=h
   subst hu
   exact⟨u',rfl,h'⟩
 | false =>
   rw[if_neg (by decide)] at hg ⊢
   refine pX ?_
   exact fin hb hg λfl s' h=>h
def Qx(he:oJ X i e u):PW X i (.Return (some e) pos::rest) u:=by
 refine⟨λpins s σ H F Γ I fo rl hg=>?_⟩
 refine uI (zY (az (he.run pins s σ H F Γ I fo rl hg) (λu' s1 ⟨d,ws,v,H1,f1,I1,r1,fE,fS,E1,i1,hi⟩=>?_) λ_ _ z=>z))
 obtain⟨l,zs,jD,hF,hH,qE⟩:=fS.own i ws (iq hi)
 exact⟨u',rfl,d,ws,v,σ,H1,F,l,zs,f1,I1,r1,E1,jD,hH,hF,qE,i1⟩
end
def x3p{K:aE}{H:Hp}{N:List Str}{as bs ws:List D}{xs ys zs:List V}{l:Addr}(j1:aq K (aH [l] H) as xs)(j2:aq K (aH [l] H) bs ys)(hH:H l=some (.lst zs))(j3:aq K (aH [l] H) ws zs) :
 Rel K H [l] ((fz N.length (as ++ .lst ws::bs)).set as.length (.own ws)) (L2.start N (xs ++ .ref l::ys)):=by
 have l1:=j1.length
 have l2:=j2.length
 have hlen:(as++D.lst ws::bs).length=(xs++V.ref l::ys).length:=by simp[l1,l2]
 have yg:as.length<(fz N.length (as ++ .lst ws::bs)).length:=by unfold fz;simp
 have key:∀(j:Nat) (en:En),j≠as.length->(fz N.length (as ++ .lst ws::bs))[j]? = some en->(∃d v,en = .ro d/\(L2.start N (xs ++ .ref l::ys))[j]? = some (some v)/\Is K (aH [l] H) d v)∨en = .no:=λj en bS h=>by
  unfold fz at h
  by_cases hj:j<(as++D.lst ws::bs).length
  ·rw[wH (by simpa using hj),e8,fu hj] at h
   have lM:(L2.start N (xs ++ .ref l::ys))[j]? = some (some ((xs++V.ref l::ys)[j]'(by rw[<-hlen];exact hj))):=by
    unfold L2.start
    rw[wH (by rw[aX,<-hlen];exact hj),e8,fu (by rw[<-hlen];exact hj)];rfl
   cases h
   refine .inl ⟨_,_,rfl,lM,?_⟩
   by_cases v_:j<as.length
   ·have e1:(as++D.lst ws::bs)[j]'hj=as[j]'v_:=a7c v_
    have e2:(xs++V.ref l::ys)[j]'(by rw[<-hlen];exact hj)=xs[j]'(by rw[<-l1];exact v_):=a7c (by rw[<-l1];exact v_)
    rw[e1,e2]
    obtain⟨v,hv,iv⟩:=j1.get (fu v_)
    rw[fu (by rw[<-l1];exact v_)] at hv
    cases hv;exact iv
   ·obtain⟨m,rfl⟩:∃m,j=as.length+1+m:=⟨j-as.length-1,by lia⟩
    have hm:m<bs.length:=by simp at hj;lia
    have e1:(as++D.lst ws::bs)[as.length+1+m]'hj=bs[m]'hm:=by
     rw[a7d (by lia)]
     have:as.length+1+m-as.length=m+1:=by lia
     simp only[this,a7e]
    have e2:(xs++V.ref l::ys)[as.length+1+m]'(by rw[<-hlen];exact hj)=ys[m]'(by rw[<-l2];exact hm):=by
     rw[a7d (by lia)]
     have:as.length+1+m-xs.length=m+1:=by lia
     simp only[this,a7e]
    rw[e1,e2]
    obtain⟨v,hv,iv⟩:=j2.get (fu hm)
    rw[fu (by rw[<-l2];exact hm)] at hv
    cases hv;exact iv
  ·rw[uB (by simpa using hj),JY] at h
   split at h
   ·cases h;exact .inr rfl
   ·cases h
 have here:(L2.start N (xs ++ .ref l::ys))[as.length]? = some (some (.ref l)):=by
  unfold L2.start
  rw[wH (by simp;lia),e8,uB (by lia),l1,Kk];rfl
 have HG:∀(j:Nat) (es:List D),((fz N.length (as ++ .lst ws::bs)).set as.length (.own ws))[j]? = some (.own es)->j=as.length/\es=ws:=λj es h=>by
  by_cases q:as.length=j
  ·subst q
   rw[iq yg] at h
   cases h;exact⟨rfl,rfl⟩
  ·rw[eZ q] at h
   rcases key j _ (eA q) h with ⟨d,v,z,_⟩ | z<;>cases z
 refine⟨?_,λj d h=>?_,λj es h=>?_,λj k es fs a h1 h2 _ _=>?_⟩
 ·rw[gp]
  unfold fz L2.start
  simp only[dN,aX,a4m,hlen]
 ·by_cases q:as.length=j
  ·subst q;rw[iq yg] at h;cases h
  ·rw[eZ q] at h
   rcases key j _ (eA q) h with ⟨d',v,z,z2,z3⟩ | z
   ·cases z;exact⟨v,z2,z3⟩
   ·cases z
 ·obtain⟨rfl,rfl⟩:=HG j es h
  exact⟨l,zs,here,by simp,hH,j3⟩
 ·rw[(HG j es h1).1,(HG k fs h2).1]
section
variable {P:aS}{w:aR}{K:aE}{mg:Str->Option Value}{base:Heap}
end
section
variable {X:Cx}{y:Str}{scope:dz}
def x8v{elt iter:Expr}{px pos:Pos}{pins:List (Addr×Obj)}{σ:St}{aB:Hp}{ax:ah}{n:Nat}{it l:Addr}{zs:List V}{fp:List Addr}{tn:Nat->Heap->Prop}{E:Value->ah->Prop}
 (hp:∀(C:Addr) (ps:List (Addr×Obj)) (s:ah) (x:V) (H:Hp) (ys:List V) (z:V),Inv (cY X y scope C ax aB fp (X.pn++pins)) ps (some x::σ) H s->H l=some (.lst (ys++[z])) ->
   au (aD X.prog X.w) X.A (eval elt (gU scope (cK X.env scope.names []) C X.env)) (λu dD=>RelV z u/\Inv (cY X y scope C ax aB fp (X.pn++pins)) ps (some x::σ) (upd H l (.lst ys)) dD) (λ_ _=>False) s)
 (c:r6 X.N X.env y scope) (hN:X.N.Nodup) (fq:X.calm=true) (I:Inv X pins σ aB ax) (T:Turn X.prog X.w X.K (.Name y px) (rg 0 n) fp it tn) (t0:tn 0 ax.heap) (hf:∀b∈fp,fU X pins aB b)
 (hH:aB l=some (.lst zs)) (hn:n<=zs.length) (hl:zs.length<=100000) {RR:Value->Addr->mE->ah->Prop}
 (hR:∀(Dd C:Addr) (H':Hp) (m:Str->Option Value) (s':ah),ax.heap.objs.size<=C->Dd≠C->aB Dd=none->H' Dd=none->H' C=none->ax.heap.objs.size<=Dd->uj l aB H'->H' l=some (.lst (zs.take (zs.length-n)))->Inv X pins σ (upd H' Dd (.lst (zs.reverse.take n))) s'->s'.heap.Ns C m->RR (.ref Dd) C (.ok .next) s') :
 au (aD X.prog X.w) X.A (uG []) (λacc dR=>au (aD X.prog X.w) X.A (w9 scope X.env.globals (cK X.env scope.names []) [] X.env.qual none .none (some X.env)) (λcenv dD =>
  jl (aD X.prog X.w) X.A (.compStart (.ListComp elt [⟨.Name y px,iter,[],0⟩] scope pos) 0 (.ref it) acc { cenv with scope:=iK scope X.env }) (RR acc cenv.locals) dD) E dR) E ax:=by
 refine az (O_ (J:=rg 0 n) (n:=n) (RR:=RR) (λi H xs=>uj l aB H/\H l=some (.lst (zs.take (zs.length-i)))/\xs=zs.reverse.take i) ⟨λ_ _ _ q=>q,by rw[SH,wO];exact hH,rfl⟩ (λi H xs ⟨_,_,e⟩ _=>by rw[e,lE,qT];lia)
  (λi H xs _ hi=>⟨hi,λx H5 y5=>y5.1⟩) (λH xs _=>a9 _) (λDd C ps s x H i xs hC kc J ⟨B,ml,ex⟩ hi y5=>?_) c hN fq I T t0 hf λDd C xs H' m s' hC fm h2 gI jg hD ⟨B,ml,ex⟩ I' mO=>by subst ex;exact hR Dd C H' m s' hC fm h2 gI jg hD B ml I' mO) (λ_ _ h=>az h (λ_ _ h=>h.2) λ_ _ e=>e) λ_ _ e=>e
 refine Ti ?_
 rw[if_pos rfl]
 have Hf:zs.take (zs.length-i)=zs.take (zs.length-(i+1))++[zs[zs.length-(i+1)]'(by lia)]:=by
  rw[show zs.length-i=zs.length-(i+1)+1 by lia,a7f]
 rw[Hf] at ml
 refine az (hp C ps s x H _ _ J ml) (λu7 s5 ⟨r7,J7⟩=>⟨_,_,J7,r7,λb o' hb q=>by rw[bM hb];exact B b o' hb q,dj,?_⟩) λ_ _ z=>z.elim
 rw[ex,a7f (by rw[qT];lia),List.getElem_reverse]
 congr 3;lia
end
def aq.HH{K:aE}{H:Hp}:∀{ds:List D} {xs:List V},aq K H ds xs->aq K H ds.reverse xs.reverse
 | [],xs,h=>by rw[aq.jq.mp h];exact aq.nil
 | d::ds,xs,h=>by
   obtain⟨x,r,rfl,h1,h2⟩:=aq.i_.mp h
   rw[zI,zI]
   exact(aq.HH h2).append (aq.cons h1 aq.nil)
def Qy(X:Cx)(j:Nat)(elt:Expr):Prop:=∀(pins:List (Addr×Obj)) (s:ah) (σ:St) (H:Hp) (l:Addr) (ys:List V) (z:V),Inv X pins σ H s->σ[j]? = some (some (.ref l))->H l=some (.lst (ys++[z])) ->
 au (aD X.prog X.w) X.A (eval elt X.env) (λu s'=>RelV z u/\Inv X pins σ (upd H l (.lst ys)) s') (λ_ _=>False) s
def w9q{X:Cx}(j:Nat){x:Str}{pl apos cL:Pos}(hN:X.N[j]? = some x:=by rfl)(hv:lI X.env.scope x:=by first | exact gq rfl | exact dX (gq rfl) | exact dX (dX rfl))(hd:(x==("__debug__":Str))=false:=by decide)(dY:(x==("__classdict__":Str))=false:=by decide)
 (ky:uJ (.Name x pl) "pop" X.env (eval (.Name x pl) X.env)=eval (.Name x pl) X.env:=by rfl) (kz:(apos.endLine==cL.line)=true:=by rfl):Qy X j (.Call (.Attribute (.Name x pl) "pop" apos) [] [] cL):=by
 intro pins s σ H l ys z I jD hH
 refine wpAny_Call_method0_late ky kz (az (p6 (X:=X.bY) hN hv hd dY pins s σ H (λv' H'=>v' = .ref l/\H'=H) (I.dB _) ⟨.ref l,jD,rfl,rfl⟩) (λv s2 q2=>?_) λ_ _ z=>cx z)
 obtain⟨v2,H2,I2,r2,e3,e4⟩:=q2
 subst e3 e4
 have Qz:=I2.fw
 obtain⟨t1,t2⟩:=As (T:="list") Qz r2 (.inl ⟨rfl,_,cA.of hH⟩)
 refine⟨"list",_,KJ,PySem.F.slot_list_pop,PySem.F.type_list_pop,t1,t2,uK rfl (PySem.evalArgs_none ?_)⟩
 refine az (Vo (X:=X.bY) pins s2 σ H2 (.ref l) [] v [] (λz' my=>z'=z/\my=upd H2 l (.lst ys)) (Qz.dB _) r2 .nil ⟨l,ys++[z],z,rfl,rfl,hH,by simp,rfl,by simp⟩) (λu3 s3 q3=>?_) λ_ _ z=>cx z
 obtain⟨y3,H3,I3,r3,e5,e6⟩:=q3
 subst e5 e6
 exact⟨r3,I3.fw⟩
section
variable {X:Cx}{y:Str}{scope:dz}{rest:List Stmt}
def w4o{i:Nat}{elt cnt:Expr}{gc:G->R D}{px pr pos pos' a1c:Pos}(hc:PD X cnt gc)(hp:∀C ax aB fp pn,Qy (cY X y scope C ax aB fp pn) (i+1) elt)(hN:X.N.Nodup)(fq:X.calm=true)(hm:X.mg "range"=none)(hg:Gl X "range":=by rfl)(zk:aT [cnt] X.env=[(false,eval cnt X.env)]:=by rfl)
 (oB:tZ X.N X.env y scope=true:=by rfl) (mq:xc scope X.env=pure (cK X.env scope.names []):=by rfl) (hs:∀x,uH (.Call (.Name "range" pr) [cnt] [] pos') X.env x=pure x:=by intro _;rfl) :
 PW X i (.Return (some (.ListComp elt [⟨.Name y px,.Call (.Name "range" pr) [cnt] [] pos',[],0⟩] scope pos)) a1c::rest) (vh i gc):=by
 refine⟨λpins s σ H F Γ I fo rl bW=>?_⟩
 obtain⟨n,ws,e1,hw,n0,nw,wl,e2⟩:=Wr bW
 rw[e2]
 obtain⟨l,zs,jD,hF,hH,qE⟩:=rl.own i ws hw
 have Qc:zs.length=ws.length:=qE.length.symm
 have c:=yF oB
 refine uI (zY ?_)
 rw[KD]
 refine C3 (use:=none) rfl hs mq c.kind c.names ?_
 refine wY (iu I hg hm KA (oV ?_ zk rfl))
 rw[zk]
 show au _ _ (e9 ((false,eval cnt X.env)::cH pos' [])) _ _ s
 refine fT (az (hc.run pins s σ H F Γ I fo rl (by rw[e1];exact λz=>nomatch z)) (λu s1 ⟨d',v,H1,f1,I1,r1,S1,i1⟩=>iJ ?_) λ_ _ ⟨c,_,z,_⟩=>by rw[e1] at z;cases z)
 rw[e1] at f1;cases f1
 rw[Is.bZ.mp i1] at r1
 obtain⟨t,rfl⟩:=(show ∃t,u=nQ n t from r1)
 refine call_range_1 (ic (Dp (tg:=.Name y px) (R:=λJ H'=>J=rg 0 (n-0).toNat/\H'=H1) I1 (by lia) (by lia) (by lia) (by lia) ⟨rfl,rfl⟩) λlN s2 ⟨it,fp,tn,J,H',ei,I2,T,t0,fk,eJ,eH⟩=>?_)
 subst eJ eH ei
 rw[Int.sub_zero] at T
 have Cq:=S1 _ _ hH
 refine x8v (l:=l) (zs:=zs) (n:=n.toNat) (RR:=λacc C=>C4 (aD X.prog X.w) X.A _ none _ acc C) (λC ps s' x H' ys z J' ml=>hp C s2 _ fp (X.pn++pins) ps s' (some x::σ) H' l ys z J' (by simpa using jD) ml) c hN fq I2 T t0 fk Cq (by lia) (by lia) ?_
 intro Dd C H' m s' hC fm hn gI jg hD B hl I' oE
 refine⟨m,oE,λjS kd=>?_⟩
 have ip:∀{b:Addr} {o:Obj},s2.heap.get? b=some o->b≠C:=λe=>dM (dc (bX e) hC)
 have qz:Inv X pins σ (upd H' Dd (.lst (zs.reverse.take n.toNat))) { s' with heap:=jS }:=I'.turned (t':=s'.toks) (it:=C) (λb o hb e=>kd.extBut b o hb e) (by rw[bM (eA fm)];exact jg) (nV (dc I2.lt hC)) (.inr (fG I2.sz hC))
  (λx k e=>by obtain⟨v,o,ho,_⟩:=I2.cell x k e;exact ip ho) (λp cJ=>ip (I2.pin p cJ).1)
 have hlD:l≠Dd:=λz=>by rw[z] at Cq;rw[hn] at Cq;cases Cq
 have DF:Dd ∉ F:=λz=>by obtain⟨xs,q⟩:=fo Dd z;rw[S1 _ _ q] at hn;cases hn
 have up:∀b o,b≠l->H b=some o->upd H' Dd (.lst (zs.reverse.take n.toNat)) b=some o:=λb o hb q=>by
  have q1:=S1 _ _ q
  rw[bM λz=>by rw[z] at q1;rw[hn] at q1;cases q1]
  exact B b o hb q1
 have S3:aO (aH F H) (aH F (upd H' Dd (.lst (zs.reverse.take n.toNat)))):=λb o q=>by
  obtain⟨q1,q2⟩:=ja q
  rw[di q1]
  exact up b o (λz=>q1 (by rw[z];exact hF)) q2
 have QA:=qE.same S3
 refine⟨_,rfl,_,_,.ref Dd,σ,_,F,l,zs.take (zs.length-n.toNat),rfl,qz,rfl,⟨λb o hb q=>up b o (λz=>hb (by rw[z];exact hF)) q,λb hb=>.inl hb⟩,jD,by rw[bM hlD];exact hl,hF,?_,?_⟩
 ·rw[<-Qc]
  exact aq.take _ QA
 ·exact Is.fC.mpr ⟨Dd,zs.reverse.take n.toNat,rfl,cA.of (by rw[di DF];exact dj),aq.take _ (aq.HH QA)⟩
end
section
variable {X:Cx}{e a b c:Expr}{g ga gb:G->R D}{u:G->R (D×List D)}{pos pos' p:Pos}{w:Nat}{x:Str}
def Cr{r:R (D×List D)}{k:D->List D->R Fl}(h:(match r with | .ok (d,ws)=>k d ws | _=>.no) ≠ .no):∃d ws,r = .ok (d,ws)/\k d ws ≠ .no:=by
 cases r with
 | ok q=>exact⟨q.1,q.2,rfl,h⟩
 | no=>exact absurd rfl h
 | er c=>exact absurd rfl h
def HI{r:R (D×List D)}{k:D->List D->R (D×List D)}(h:(match r with | .ok (d,ws)=>k d ws | _=>.no) ≠ .no):∃d ws,r = .ok (d,ws)/\k d ws ≠ .no:=by
 cases r with
 | ok q=>exact⟨q.1,q.2,rfl,h⟩
 | no=>exact absurd rfl h
 | er c=>exact absurd rfl h
def zl(j:Nat)(he:oJ X w e u)(hN:X.N.Nodup)(zi:j≠w:=by decide)(hi:X.N[j]? = some x:=by rfl)(hx:Loc X.env.scope x:=by first | exact gq rfl | exact dX rfl)(hs:pY e (some (.Name x pos')) pos.line X.env=pure false:=by rfl)(hf:X.fn x=true∨X.env.scope.names.lookup x=some .local:=by first | exact .inl rfl | exact .inr rfl | assumption) :
 PK X w (.Assign [.Name x pos'] e pos) (pa j w u):=by
 refine⟨λpins s σ H F Γ I fo rl hg=>?_⟩
 obtain⟨d,ws,e1,_⟩:=Cr hg
 have e2:pa j w u Γ = .ok (.nx ((Γ.set w (.own ws)).set j (.ro d))):=by unfold pa;rw[e1]
 rw[e2]
 refine KH (az (he.run pins s σ H F Γ I fo rl (by rw[e1];exact λz=>nomatch z)) (λv s1 q=>?_) λ_ _ z=>cx z) hs
 obtain⟨d',iH,y,H1,f1,I1,r1,fE,fS,E1,i1,hl⟩:=q
 rw[e1] at f1;cases f1
 exact uO I1 hN hi hx r1 (λs2 I2=>⟨_,rfl,_,H1,F,I2,fE,fS.yS i1,E1,eZ zi⟩) hf
def QB(he:oJ X w e u)(oF:pY e none pos.line X.env=pure false:=by rfl):PK X w (.Expr e pos) (td w u):=by
 refine⟨λpins s σ H F Γ I fo rl hg=>?_⟩
 obtain⟨d,ws,e1,_⟩:=Cr hg
 have e2:td w u Γ = .ok (.nx (Γ.set w (.own ws))):=by unfold td;rw[e1]
 rw[e2]
 refine C5 (az (he.run pins s σ H F Γ I fo rl (by rw[e1];exact λz=>nomatch z)) (λv s1 q=>?_) λ_ _ z=>cx z) I.quiet oF
 obtain⟨d',iH,y,H1,f1,I1,r1,fE,fS,E1,i1,hl⟩:=q
 rw[e1] at f1;cases f1
 exact⟨_,rfl,σ,H1,F,I1,fE,fS,E1,rfl⟩
def w4t(m:Nat){apos cL:Pos}(he:oJ X w e u)(hmw:m≠w:=by decide)(hN:X.N[m]? = some x:=by rfl)(hv:lI X.env.scope x:=by first | exact gq rfl | exact dX (gq rfl) | exact dX (dX rfl))(hd:(x==("__debug__":Str))=false:=by decide)(dY:(x==("__classdict__":Str))=false:=by decide)
 (oF:pY (.Call (.Attribute (.Name x p) "append" apos) [e] [] cL) none pos.line X.env=pure false:=by rfl)
 (ky:uJ (.Name x p) "append" X.env (eval (.Name x p) X.env)=eval (.Name x p) X.env:=by rfl)
 (mx:((cH cL (aT [e] X.env)).all (λx=>!x.1)&&(uw cL (ux [] X.env)).all (λx=>x.1.isSome)
   && decide ([e].length+([]:List kK).length+(if ([]:List kK).isEmpty then 0 else 1)<30))=true:=by rfl)
 (kz:(apos.endLine==cL.line)=true:=by rfl) (hs:aT [e] X.env=(false,eval e X.env)::aT [] X.env:=by rfl) :
 PK X w (.Expr (.Call (.Attribute (.Name x p) "append" apos) [e] [] cL) pos) (qi m w u):=by
 refine⟨λpins s σ H F Γ I fo rl hg=>?_⟩
 refine C5 ?_ I.quiet oF
 obtain⟨d,ws,e1,h1⟩:=Cr hg
 have e2:qi m w u Γ=(match (Γ.set w (.own ws))[m]? with
  | some (.own ds)=>if ds.length<=100000 then R.ok (Fl.nx ((Γ.set w (.own ws)).set m (.own (ds++[d])))) else .no
  | _=>.no):=by unfold qi;rw[e1];try rfl
 obtain⟨ds,eo,hl⟩:∃ds,(Γ.set w (.own ws))[m]? = some (.own ds)/\ds.length<=100000:=by
  cases q:(Γ.set w (.own ws))[m]? with
  | none=>rw[q] at h1;exact absurd rfl h1
  | some en =>
    cases en with
    | no=>rw[q] at h1;exact absurd rfl h1
    | ro d'=>rw[q] at h1;exact absurd rfl h1
    | own ds =>
      rw[q] at h1
      by_cases z:ds.length<=100000
      ·exact⟨ds,rfl,z⟩
      ·exact absurd (show(if ds.length<=100000 then R.ok (Fl.nx ((Γ.set w (.own ws)).set m (.own (ds++[d])))) else .no) = .no by rw[if_neg z]) h1
 have e3:qi m w u Γ = .ok (.nx ((Γ.set w (.own ws)).set m (.own (ds++[d])))):=by rw[e2,eo];dsimp only;rw[if_pos hl]
 rw[e3]
 have eo0:Γ[m]? = some (.own ds):=by rw[eZ (eA hmw)] at eo;exact eo
 obtain⟨a',xs,iW,hF,h3,h4⟩:=rl.own m ds eo0
 refine xf ky mx kz rfl (az (p6 (X:=X.bY) hN hv hd dY pins s σ H (λv' H'=>v' = .ref a'/\H'=H) (I.dB _) ⟨.ref a',iW,rfl,rfl⟩) (λv s1 ⟨v',H',I1,r1,iE,yG⟩=>?_) λ_ _ z=>cx z)
 subst iE yG
 have r_:=I1.fw
 obtain⟨t1,t2⟩:=As (T:="list") r_ r1 (.inl ⟨rfl,xs,cA.of h3⟩)
 refine⟨"list",_,KJ,a6c,a6d,t1,t2,?_⟩
 rw[hs]
 refine uK rfl (xg ?_)
 show au _ _ (e9 ((false,eval e X.env)::cH cL [])) _ _ s1
 refine fT (az (he.run pins s1 σ H' F Γ r_ fo rl (by rw[e1];exact λz=>nomatch z)) (λu' s2 ⟨d',iH,y,H2,f1,I2,r2,fo2,QC,E2,i2,Au⟩=>iJ ?_) λ_ _ z=>cx z)
 rw[e1] at f1;cases f1
 obtain⟨a2,Cs,k1,k2,k3,k4⟩:=QC.own m ds eo
 rw[iW] at k1;cases k1
 have nj:(100001:Nat)<=b5:=by rw[lD];decide
 have ot:=k4.length
 refine az (LG (X:=X.bY) pins s2 σ H2 (.ref a') [y] v [u'] (λz my=>z = .cQ/\my=upd H2 a' (.lst (Cs++[y]))) (I2.dB _) r1 (.cons r2 .nil) ⟨a',Cs,y,rfl,rfl,k3,by lia,rfl,rfl⟩) (λw' s3 ⟨z,my,I3,rz,ez,eH⟩=>?_) λ_ _ z=>cx z
 subst ez eH
 obtain⟨mw,yY⟩:=QC.put eo iW (xs':=Cs++[y]) (ds':=ds++[d]) (k4.append (aq.cons i2 aq.nil))
 refine⟨_,rfl,σ,_,F,I3.fw,λb hb=>?_,mw,E2.trans ⟨λb o hb h=>?_,λb hb=>.inl hb⟩,rfl⟩
 ·by_cases oG:b=a'
  ·exact⟨Cs++[y],by rw[oG];exact dj⟩
  ·obtain⟨ys,q⟩:=fo2 b hb
   exact⟨ys,by rw[bM oG];exact q⟩
 ·rw[bM (λz=>hb (by rw[z];exact k2))];exact h
def HJ(ha:oJ X w a u)(hb:PD X b gb)(hs:Dt b:=by intro _ _;rfl):oJ X w (.Subscript a b pos) (rE w u gb):=by
 refine⟨λpins s σ H F Γ I fo rl hg=>?_⟩
 obtain⟨d,ws,e1,h1⟩:=HI hg
 cases g9:gb (Γ.set w (.own ws)) with
 | no=>rw[g9] at h1;exact absurd rfl h1
 | er c=>rw[g9] at h1;exact absurd rfl h1
 | ok db =>
   rw[g9] at h1
   dsimp only at h1
   cases hr:aF d db with
   | no=>rw[hr] at h1;exact absurd rfl h1
   | er c=>rw[hr] at h1;exact absurd rfl h1
   | ok r =>
     have e2:rE w u gb Γ = .ok (r,ws):=by unfold rE;rw[e1];dsimp only;rw[g9];dsimp only;rw[hr]
     rw[e2]
     refine Ky (az (ha.run pins s σ H F Γ I fo rl (by rw[e1];exact λz=>nomatch z)) (λv s1 ⟨d',iH,xv,H1,f1,I1,r1,fE,fS,E1,i1,hl⟩=>?_) λ_ _ z=>cx z)
     rw[e1] at f1;cases f1
     refine az (hb.run pins s1 σ H1 F _ I1 fE fS (by rw[g9];exact λz=>nomatch z)) (λu2 s2 ⟨dy,y,H2,e4,I2,r2,S2,i2⟩=>?_) λ_ _ ⟨c,_,z,_⟩=>by rw[g9] at z;cases z
     rw[g9] at e4;cases e4
     have qv:=i1.same (iT S2)
     have fin:∀(z:V),Is X.K (aH F H2) r z->∀(w':Value) (s':ah),EP X.bY pins σ (λz' H'=>z'=z/\H'=H2) w' s'->Qu X w pins σ H F Γ (.ok (r,ws)) w' s':=λz iz w' s' ⟨z',H',I',rz,ez,eH⟩=>by
      subst ez eH
      exact⟨r,ws,z',H',rfl,I'.fw,rz,fE.same S2,fS.same S2,E1.trans (.of_same S2),iz,hl⟩
     cases d with
     | tup ds =>
       cases db with
       | int i =>
         obtain⟨q0,xs,rfl,iW,h2⟩:=Is.fB.mp qv
         cases q:c5 ds i with
         | none=>rw[show aF (.tup ds) (.int i) = .no by simp only[aF,q]] at hr;cases hr
         | some d0 =>
           rw[show aF (.tup ds) (.int i) = .ok d0 by simp only[aF,q]] at hr
           cases hr
           obtain⟨z,ez,iz⟩:=h2.c5 q
           exact az (LA (X:=X.bY) a b pins s2 σ H2 _ y v u2 _ (I2.dB _) r1 r2 ⟨q0,xs,i,z,rfl,Is.bZ.mp i2,qq (jA (F:=F)) iW,ez,rfl,rfl⟩ (hs _ _)) (λw' s' h=>fin z iz w' s' h) λ_ _ z=>cx z
       | _=>cases hr
     | lst ds =>
       cases db with
       | int i =>
         obtain⟨q0,xs,rfl,iW,h2⟩:=Is.fC.mp qv
         cases q:c5 ds i with
         | none=>rw[show aF (.lst ds) (.int i) = .no by simp only[aF,q]] at hr;cases hr
         | some d0 =>
           rw[show aF (.lst ds) (.int i) = .ok d0 by simp only[aF,q]] at hr
           cases hr
           obtain⟨z,ez,iz⟩:=h2.c5 q
           exact az (Lz (X:=X.bY) a b pins s2 σ H2 _ y v u2 _ (I2.dB _) r1 r2 ⟨q0,xs,i,z,rfl,Is.bZ.mp i2,(jA (F:=F)).seq iW,ez,rfl,rfl⟩ (hs _ _)) (λw' s' h=>fin z iz w' s' h) λ_ _ z=>cx z
       | _=>cases hr
     | _=>cases hr
def x6p{op:JX}{g2:D->D->R D}{cs:List Stmt}(ho:gE X (iY op) g2)(ha:oJ X w a u)(hb:PD X b gb)(hm:CH op b=false:=by rfl):PK X w (.If (.Compare a [op] [b] pos') cs [] pos) (tf w (pb g2 w u gb)):=by
 refine⟨λpins s σ H F Γ I fo rl hg=>?_⟩
 obtain⟨bv,ws,e1,h1⟩:=Cr (k:=λd ws=>match d with | .bl false=>R.ok (Fl.nx (Γ.set w (.own ws))) | _=>.no) (r:=pb g2 w u gb Γ) (by
  intro z
  refine hg ?_
  unfold tf
  cases q:pb g2 w u gb Γ with
  | no=>rfl
  | er c=>rfl
  | ok r =>
    rw[q] at z
    obtain⟨d,ws⟩:=r
    cases d with
    | bl b=>cases b with
      | true=>rfl
      | false=>cases z
    | _=>rfl)
 cases bv with
 | bl bb =>
   cases bb with
   | true=>exact absurd rfl h1
   | false =>
     have e3:tf w (pb g2 w u gb) Γ = .ok (.nx (Γ.set w (.own ws))):=by unfold tf;rw[e1]
     rw[e3]
     obtain⟨d,QD,f1,h2⟩:=HI (show pb g2 w u gb Γ ≠ .no by rw[e1];exact λz=>nomatch z)
     cases g9:gb (Γ.set w (.own QD)) with
     | no=>rw[g9] at h2;exact absurd rfl h2
     | er c=>rw[g9] at h2;exact absurd rfl h2
     | ok db =>
       rw[g9] at h2
       dsimp only at h2
       cases hr:g2 d db with
       | no=>rw[hr] at h2;exact absurd rfl h2
       | er c=>rw[hr] at h2;exact absurd rfl h2
       | ok r =>
         have e2:pb g2 w u gb Γ = .ok (r,QD):=by unfold pb;rw[f1];dsimp only;rw[g9];dsimp only;rw[hr]
         rw[e2] at e1
         cases e1
         refine KG (a5n (az (ha.run pins s σ H F Γ I fo rl (by rw[f1];exact λz=>nomatch z)) (λv s1 ⟨d',iH,xv,H1,f2,I1,r1,fE,fS,E1,i1,hl⟩=>?_) λ_ _ z=>cx z) hm)
         rw[f1] at f2;cases f2
         refine az (hb.run pins s1 σ H1 F _ I1 fE fS (by rw[g9];exact λz=>nomatch z)) (λu2 s2 ⟨dy,y,H2,e4,I2,r2,S2,i2⟩=>?_) λ_ _ ⟨c,_,z,_⟩=>by rw[g9] at z;cases z
         rw[g9] at e4;cases e4
         refine az (ho.run (E:=λ_ _=>False) I2 r1 r2 ((i1.same (iT S2)).same (jA (F:=F))) i2 (by rw[hr];exact λz=>nomatch z)) (λz s3 h3=>?_) λ_ _ z=>cx z
         obtain⟨bd,bv,H3,e5,I3,r3,S3,i3⟩:=h3
         rw[hr] at e5;cases e5
         rw[Is.gD.mp i3] at r3
         cases (show z=CF false from r3)
         refine wW ?_
         refine pX ?_
         exact⟨_,rfl,σ,H3,F,I3,(fE.same S2).same S3,(fS.same S2).same S3,(E1.trans (.of_same S2)).trans (.of_same S3),rfl⟩
 | _=>exact absurd rfl h1
def x6u{k:Nat}{f:Addr}{fd:cB}{ps:List Str}{φ:List D->R D}(Fn:g8 X.prog X.w X.K X.mg X.base k f fd ps φ)(hr:dO k X.A)(hm:X.mg x=some (.ref f))(he:oJ X w e u)(hg:Gl X x:=by rfl)(gN:(x==("__debug__":Str))=false:=by decide)
 (hs:aT [e] X.env=(false,eval e X.env)::aT [] X.env:=by rfl) (gu:(cH pos (aT [] X.env)).any (·.1)=false:=by rfl):oJ X w (.Call (.Name x p) [e] [] pos) (vi φ u):=by
 refine⟨λpins s σ H F Γ I fo rl bW=>?_⟩
 obtain⟨d,ws,e1,h1⟩:=HI bW
 cases qo:φ [d] with
 | no=>rw[qo] at h1;exact absurd rfl h1
 | er c=>rw[qo] at h1;exact absurd rfl h1
 | ok r =>
   have e2:vi φ u Γ = .ok (r,ws):=by unfold vi;rw[e1];dsimp only;rw[qo]
   rw[e2]
   refine kL (nX I hg hm ?_ gN)
   refine wX (h₀:=X.base) I.ok.mod.oW Fn.kp ?_ hs gu
   rw[hs]
   show au _ _ (e9 ((false,eval e X.env)::cH pos [])) _ _ s
   refine fT (az (he.run pins s σ H F Γ I fo rl (by rw[e1];exact λz=>nomatch z)) (λv s1 ⟨d',iH,xv,H1,f1,I1,r1,fE,fS,E1,i1,hl⟩=>iJ ⟨I1.gH,?_⟩) λ_ _ z=>cx z)
   rw[e1] at f1;cases f1
   refine az (P_ Fn hr (EE:=λ_ _=>False) I1 fE (.cons r1 .nil) (aq.cons i1 aq.nil) qo) (λu2 s2 ⟨v2,H2,I2,r2,S2,i2⟩=>?_) λ_ _ z=>z
   exact⟨r,ws,v2,H2,rfl,I2,r2,fE.same S2,fS.same S2,E1.trans (.of_same S2),i2,hl⟩
end
section
variable {X:Cx}{y x:Str}{scope:dz}{u:G->R (D×List D)}{w:Nat}
def x0g(j:Nat){elt iter:Expr}{px pos pos' apos:Pos}{ifs:List Expr}{f:D->G->R (Option D)}(hi:oJ X w iter u)(hp:yH X y scope ifs elt f)(hN:X.N.Nodup)(fq:X.calm=true)(zi:j≠w:=by decide)
 (G1:X.N[j]? = some x:=by rfl) (hx:Loc X.env.scope x:=by first | exact gq rfl | exact dX rfl) (oF:pY (.ListComp elt [⟨.Name y px,iter,ifs,0⟩] scope pos) (some (.Name x pos')) apos.line X.env=pure true:=by rfl) (hf:X.fn x=true∨X.env.scope.names.lookup x=some .local:=by first | exact .inl rfl | exact .inr rfl | assumption)
 (oB:tZ X.N X.env y scope=true:=by rfl) (mq:xc scope X.env=pure (cK X.env scope.names []):=by rfl) (hs:∀x,uH iter X.env x=pure x:=by intro _;rfl) :
 PK X w (.Assign [.Name x pos'] (.ListComp elt [⟨.Name y px,iter,ifs,0⟩] scope pos) apos) (ti j w u f):=by
 refine⟨λpins s σ H F Γ I fo rl hg=>?_⟩
 obtain⟨items,ws,total,e1,hl,et,e2⟩:=Ws hg
 rw[e2]
 have c:=yF oB
 rw[a6b _ _ _ _ oF]
 refine aI (zZ (aI ?_))
 show au _ X.A (do let _ <-KI (.ListComp elt [⟨.Name y px,iter,ifs,0⟩] scope pos) scope X.env _ (uG []) false (eval iter X.env) (some (kI (.Name x pos') X.env))) _ _ s
 refine aI (az (C3 (use:=some (kI (.Name x pos') X.env)) (Q:=λ_ s'=>v8 X pins H F (.ok (.nx ((Γ.set w (.own ws)).set j (.own total)))) (λaJ=>aJ[w]? = σ[w]?) .next s') rfl hs mq c.kind c.names
  (az (hi.run pins s σ H F Γ I fo rl (by rw[e1];exact λz=>nomatch z)) (λxv cD ⟨d',iH,v0,H1,f1,I1,r1,fE,fS,E1,i1,hw⟩=>?_) λ_ _ z=>cx z)) (λ_ s' hq=>bR (bR hq)) λ_ _ e=>e)
 rw[e1] at f1;cases f1
 obtain⟨q0,xs0,rfl,iW,h2⟩:=Is.fC.mp i1
 cases (show xv=fF q0 from r1)
 refine GB (tg:=.Name y px) I1 ((jA (F:=F)).seq iW) λit ax I2 T t0 fk=>?_
 refine GQ (RR:=λacc C=>C4 (aD X.prog X.w) X.A _ (some (kI (.Name x pos') X.env)) _ acc C) (λC ps s x H d J _ fo rl e=>hp.run C ax H1 _ (X.pn++pins) ps s _ H F _ d J fo rl e) c hN fq I2 fE fS T t0 fk (O4 ((jA (F:=F)).seq iW) h2) et hl ?_
 intro Dd C xs H' m s' hC fm hn gI jg hD S' ia I' oE
 have ip:∀{b:Addr} {o:Obj},ax.heap.get? b=some o->b≠C:=λe=>dM (dc (bX e) hC)
 have S3:=g7 gI (.lst xs)
 have yU:aq X.K (aH (Dd::F) (upd H' Dd (.lst xs))) total xs:=ia.same λb o hb=>by
  obtain⟨z1,z2⟩:=ja hb
  have gF:b≠Dd:=ib z2 gI
  rw[di λz=>(List.mem_cons.mp z).elim gF z1,bM gF]
  exact z2
 have S4:aO H1 (upd H' Dd (.lst xs)):=S'.trans S3
 show au _ X.A (kI (.Name x pos') X.env (.ref Dd)) _ _ s'
 refine R_ (Di (v:=.ref Dd) I' hN G1 hx rfl (λs3 I3 ub=>?_) hf)
 obtain⟨aa,ub,GY⟩:=ub
 have GZ:aa≠C:=by
  rcases GY with z | z
  ·subst z;exact dM (dc I2.lt hC)
  ·obtain⟨v,o,ho,_⟩:=I2.cell x aa z;exact ip ho
 refine⟨m,oE.sameBut ub (eA GZ),λjS kd=>?_⟩
 have I4:Inv X pins (σ.set j (some (.ref Dd))) (upd H' Dd (.lst xs)) { s3 with heap:=jS }:=I3.turned (t':=s3.toks) (it:=C) (λb o hb e=>kd.extBut b o hb e) (by rw[bM (eA fm)];exact jg) (nV (dc I2.lt hC)) (.inr (fG I2.sz hC))
  (λx k e=>by obtain⟨v,o,ho,_⟩:=I2.cell x k e;exact ip ho) (λp cJ=>ip (I2.pin p cJ).1)
 exact⟨_,rfl,_,_,Dd::F,I4,(fE.same S4).cons dj,fS.set_own fE S4 hn dj yU,E1.trans ⟨λb o _ h=>S4 _ _ h,λb hb=>(List.mem_cons.mp hb).elim (λz=>.inr (z ▸ hn)) .inl⟩,eZ zi⟩
end
section
variable {prog:aS}{w:aR}{A:Around}{E:Value->ah->Prop}{s:ah}
def jW(prog:aS)(w:aR)(led:Bool)(h:Heap)(a:Addr)(S:Str->Bool)(n:Nat):Prop :=
 ∃(o:Obj) (es:Array (Int×Value)) (ep:Nat) (t:mK),(h.get? a=some o/\o.ExactSet/\o.data = .set es ep t)/\(KZ (strKind prog w) es.toList/\∀k,S k=true↔∃e∈es.toList,(strKind prog w).is k e.2=true)/\(es.size<qV/\t.fits es.size=true/\es.size=n)/\h_ led t
def jW.QE{led:Bool}{h h':Heap}{a:Addr}{S:Str->Bool}{n:Nat}(x:jW prog w led h a S n)(e:∀o,h.get? a=some o->h'.get? a=some o):jW prog w led h' a S n:=by
 obtain⟨o,es,ep,t,⟨q1,q2,q3⟩,rest⟩:=x
 exact⟨o,es,ep,t,⟨e o q1,q2,q3⟩,rest⟩
def jW.QF{led:Bool}{h:Heap}{a:Addr}{S S':Str->Bool}{n n':Nat}(x:jW prog w led h a S n)(e:∀k,S k=S' k)(en:n=n'):jW prog w led h a S' n':=by
 have:S=S':=funext e
 subst this en
 exact x
def QG{led:Bool}{h:Heap}{a:Addr}{o:Obj}{es cT:Array (Int×Value)}{ep:Nat}{t t':mK}{S':Str->Bool}(q1:h.get? a=some o)(q2:o.ExactSet)(q3:o.data = .set es ep t)
 (q4:KZ (strKind prog w) cT.toList) (q5:∀k,S' k=true↔∃e∈cT.toList,(strKind prog w).is k e.2=true) (q6:cT.size<qV) (q7:t'.fits cT.size=true) (q8:h_ led t') :
 (h.update a (TL cT t')).get? a=some { o with data:=.set cT (ep+1) t' }/\jW prog w led (h.update a (TL cT t')) a S' cT.size:=by
 have g:=(SetOf_store (knd:=strKind prog w) q1 q2 q3 q4 q5 q6 q7).1
 exact⟨g,_,cT,ep+1,t',⟨g,q2,rfl⟩,⟨q4,q5⟩,⟨q6,q7,rfl⟩,q8⟩
def QH{led:Bool}{g:Bool->Sem Unit}(hg:∀(b:Bool) (s1:ah) (Q1:Unit->ah->Prop),Q1 () s1->au (aD prog w) A (g b) Q1 E s1)
 {a:Addr} {o:Obj} {es eO:Array (Int×Value)} {ep:Nat} {t t2:mK} {S':Str->Bool} {pM:Bool} {Z:Option Bool->ah->Prop} (q1:s.heap.get? a=some o) (q2:o.ExactSet) (q3:o.data = .set es ep t)
 (q4:KZ (strKind prog w) eO.toList) (q5:∀k,S' k=true↔∃e∈eO.toList,(strKind prog w).is k e.2=true) (q6:eO.size<qV) (q7:t2.fits eO.size=true) (q8:h_ led t2)
 (z:∀h',su a s.heap h'->jW prog w led h' a S' eO.size->Z (some true) { s with heap:=h' }) :
 au (aD prog w) A (do
  storeSet a eO t2
  if (!pM&&t2.tooFull)=true then do
      g (Ab t2 eO (xn eO.size)).2.2
      storeSet a (Ab t2 eO (xn eO.size)).1 (Ab t2 eO (xn eO.size)).2.1
      pure (some true)
   else pure (some true)) Z E s:=by
 refine aI (a7g q1 q3 ?_ (a7h q6))
 obtain⟨u1,u2⟩:=QG (prog:=prog) (w:=w) q1 q2 q3 q4 q5 q6 q7 q8
 have sb:=a7i s.heap a (TL eO t2)
 by_cases full:(!pM&&t2.tooFull)=true
 ·rw[if_pos full]
  have v1:=relayAll_perm t2 eO (xn eO.size)
  have v2:=relayAll_fits t2 eO (xn eO.size)
  have v3:=q8.a0w eO (xn eO.size)
  generalize Ab t2 eO (xn eO.size)=W at v1 v2 v3 ⊢
  obtain⟨vV,t3,gave⟩:=W
  dsimp only at v1 v2 v3 ⊢
  have v4:vV.size=eO.size:=by rw[<-qM,v1.length_eq,qM]
  have v5:vV.size<qV:=by lia
  refine aI (hg _ _ _ ?_)
  refine aI (a7g u1 rfl ?_ (a7h v5))
  obtain⟨_,u3⟩:=QG (prog:=prog) (w:=w) (S':=S') u1 q2 rfl (q4.perm v1) (λk=>(q5 k).trans ⟨λ⟨e,he,q⟩=>⟨e,v1.mem_iff.mpr he,q⟩,λ⟨e,he,q⟩=>⟨e,v1.mem_iff.mp he,q⟩⟩) v5 v2 v3
  rw[v4] at u3
  exact bR (z _ (sb.trans (a7i _ a _)) u3)
 ·rw[if_neg full]
  exact bR (z _ sb u2)
def a1d{led:Bool}{a:Addr}{S:Str->Bool}{n:Nat}{k:Str}{x:Value}{Q:Bool->ah->Prop}(hx:(strKind prog w).is k x=true)(HK:x.scannable=true)(hS:jW prog w led s.heap a S n)(room:n+1<qV)
 (z:∀h',su a s.heap h'->jW prog w led h' a (λk'=>S k'||decide (k'=k)) (if S k then n else n+1)->Q (!S k) { s with heap:=h' }) :
 au (aD prog w) A (setAddHashed a x ((strKind prog w).hash k)) Q E s:=by
 obtain⟨o,es,ep,t,⟨q1,q2,q3⟩,⟨q4,q5⟩,⟨q6,q7,q9⟩,q8⟩:=hS
 have more:es.size+1<qV:=by lia
 unfold setAddHashed setAddHashedIn
 refine jE (aI (wpAny_setState_of q1 q3 q7 ?_))
 dsimp only
 rw[byScan_of HK q6 q4]
 simp only[↓reduceIte]
 unfold setAddByScan
 refine aI (aI (KN (aI (wpAny_setScan_of hx q1 q3 q7 q4 ?_))))
 cases hr:List.findIdx? (λe=>(strKind prog w).is k e.2) es.toList with
 | some j =>
   dsimp only
   obtain⟨j1,j2,_⟩:=List.findIdx?_eq_some_iff_getElem.mp hr
   have sk:S k=true:=(q5 k).mpr ⟨es.toList[j],oS j1,j2⟩
   refine bR (bR ?_)
   have e:s={ s with heap:=s.heap }:=by cases s;rfl
   have y:=z s.heap (a6j a s.heap) ⟨o,es,ep,t,⟨q1,q2,q3⟩,⟨q4,λk'=>by
    rw[CZ,decide_eq_true_eq,<-q5 k']
    exact⟨λhk=>hk.elim id (λe=>e ▸ sk),.inl⟩⟩,⟨q6,q7,by rw[sk];exact q9⟩,q8⟩
   rw[sk] at y
   rw[e];exact y
 | none =>
   dsimp only
   have sk:S k=false:=by
    cases hk:S k with
    | false=>rfl
    | true =>
      obtain⟨e,he,hp⟩:=(q5 k).mp hk
      have:=List.findIdx?_eq_none_iff.mp hr e he
      rw[hp] at this;cases this
   have v1:=layNew_perm t es ((strKind prog w).hash k) x
   have v2:=layNew_fits t es ((strKind prog w).hash k) x
   have v3:=q8.a0v es ((strKind prog w).hash k) x
   generalize layNew t es ((strKind prog w).hash k) x=W at v1 v2 v3 ⊢
   obtain⟨eO,t1,pM,gave⟩:=W
   dsimp only at v1 v2 v3 ⊢
   rw[Array.toList_push] at v1
   have a1e:eO.size=n+1:=by rw[<-qM,v1.length_eq,dN,qM,q9];rfl
   have u4:KZ (strKind prog w) eO.toList:=(q4.push hx HK).perm v1
   have u5:∀k',(S k'||decide (k'=k))=true↔∃e∈eO.toList,(strKind prog w).is k' e.2=true:=mem_push_iff hx q5 v1
   have u6:eO.size<qV:=by lia
   have gw:∀(b:Bool) (s1:ah) (Q1:Unit->ah->Prop),Q1 () s1->au (aD prog w) A (match b with | true=>rule "set.scan.the-table-gave-way" | false=>pure ()) Q1 E s1:=λb s1 Q1 hq=>by
    cases b
    ·exact bR hq
    ·exact KN hq
   have fin:∀h',su a s.heap h'->jW prog w led h' a (λk'=>S k'||decide (k'=k)) eO.size->Q true { s with heap:=h' }:=λh' sb y=>by
    have y2:=z h' sb
    rw[sk] at y2
    rw[a1e] at y
    exact y2 y
   refine aI (gw _ _ _ ?_)
   by_cases pl:t1.plain=true
   ·rw[if_pos pl]
    refine aI ?_
    rw[hashByValue_scannable 8 HK]
    refine bR ?_
    have v2':(if plainKind x=true then t1 else { t1 with plain:=false }).fits eO.size=true:=by
     split
     ·exact v2
     ·exact SetTable.fits_plain_off v2
    have v3':h_ led (if plainKind x=true then t1 else { t1 with plain:=false }):=by
     split
     ·exact v3
     ·exact v3.a0x
    refine QH gw q1 q2 q3 u4 u5 u6 v2' v3' ?_
    intro h' sb y
    exact bR (fin h' sb y)
   ·rw[if_neg pl]
    refine aI (bR ?_)
    simp only[↓reduceIte]
    refine QH gw q1 q2 q3 u4 u5 u6 v2 v3 ?_
    intro h' sb y
    exact bR (fin h' sb y)
def QI:∀(xs:List Str),(fX xs).length<=xs.length:=λxs=>by
 induction h:xs.length generalizing xs with
 | zero=>rw[List.length_eq_zero_iff.mp h];exact a9 _
 | succ n ih =>
   have hd:xs≠[]:=λz=>by rw[z] at h;cases h
   rw[<-List.dropLast_concat_getLast hd,D5]
   have:=ih xs.dropLast (by rw[a4u];lia)
   split
   ·lia
   ·rw[b6];lia
def x9y{led:Bool}{Z:mE->ah->Prop}{I:Addr}{fp wr:List Addr}{G:Array zE->Array zE->Prop}{P:Nat->Value->Prop}{St:Nat->ah->Prop}{ks:List Str}(W:WalksS prog w A.in1 I fp wr G ks.length P St)(a:Addr)(ha:a ∉ fp)
 (a1f:∀i v,P i v->∃k t,ks[i]? = some k/\v = .str k t) (hb:ks.length+1<qV) :
 ∀(k i:Nat) (s:ah),ks.length-i=k->i<=ks.length->St i s->jW prog w led s.heap a (λk'=>(fX (ks.take i)).any (·==k')) (fX (ks.take i)).length ->
  (∀s',Moved (a::wr) G s s'->jW prog w led s'.heap a (λk'=>(fX ks).any (·==k')) (fX ks).length->Z (.ok (.ret .none)) s') ->
  jl (aD prog w) A (.builtin "set.update.loop" ⟨[.ref a,.ref I],[]⟩) Z s:=by
 have aw:a ∉ wr:=λh=>ha (W.sub _ h)
 have QJ:∀b∈wr,b∈a::wr:=λb hb=>ft _ hb
 intro k
 induction k with
 | zero =>
   intro i s hk hi st hS hZ
   obtain rfl:i=ks.length:=by lia
   rw[wO] at hS
   refine C6 a7j ?_
   rw[TH TM _]
   show au _ A.in1 (qN (.ref I)>>=_) _ _ s
   refine aI (W.done s _ _ st λs' mv=>?_)
   exact bR (hZ s' (mv.mono QJ) (hS.QE λo e=>mv.heap a o aw e))
 | succ k ih =>
   intro i s hk hi st hS hZ
   have lt:i<ks.length:=by lia
   refine C6 a7j ?_
   rw[TH TM _]
   show au _ A.in1 (qN (.ref I)>>=_) _ _ s
   refine aI (W.item i s _ _ lt st λv s' hP iL mv=>?_)
   obtain⟨kk,t,hki,rfl⟩:=a1f i v hP
   have zm:=hS.QE λo e=>mv.heap a o aw e
   show au _ A.in1 (zR [zD kk t] (setAdd a (.str kk t))>>=_) _ _ s'
   refine aI (jE ?_)
   unfold setAdd
   refine jE (aI ((strKind prog w).pyHash (k:=kk) (strKind_is _ _ _ _) ?_))
   refine a1d (s:={ s' with toks:=s'.toks+1 }) (strKind_is _ _ _ _) rfl zm (by have:=QI (ks.take i);rw[lE] at this;lia) λh' sb y=>?_
   have y':jW prog w led h' a (λk'=>(fX (ks.take (i+1))).any (·==k')) (fX (ks.take (i+1))).length:=by
    have et:ks.take (i+1)=ks.take i++[kk]:=by rw[Kt,hki,Option.toList_some]
    have HL:∀(l:List Str) (k':Str),(l.any (·==k'))=decide (k'∈l):=λl k'=>by
     rw[a7k]
     simp
    refine y.QF (λk'=>?_) ?_
    ·rw[et,D5,HL,HL]
     by_cases z:kk∈fX (ks.take i)
     ·rw[if_pos z]
      by_cases z2:k'=kk
      ·subst z2;simp[z]
      ·simp[z2]
     ·rw[if_neg z,a7k]
      simp[or_comm]
    ·rw[et,D5,HL]
     by_cases z:kk∈fX (ks.take i)
     ·rw[if_pos z];simp[z]
     ·rw[if_neg z];simp[z]
   refine bR ⟨TF TM _,ih (i+1) _ (by lia) lt (W.frame _ s' _ _ iL (TN _) λb hb o e=>?_) y' λxB mv' y''=>?_⟩
   ·rw[sb.2 b (λz:b=a=>ha (by rw[<-z];exact hb))];exact e
   ·refine hZ xB (Moved.trans W.gtrans ((mv.mono QJ).then_heap (TN _) λb o hb e=>?_) mv') y''
    rw[sb.2 b (λz:b=a=>hb (by rw[z];exact gj))];exact e
def w8q{led:Bool}{h:Heap}{a:Addr}(e:h.get? a=some { cls:=.type "set",dict:=none,data:=.set #[] 0 (.fresh 0 0 led) }):jW prog w led h a (λ_=>false) 0 :=
 ⟨_,#[],0,_,⟨e,⟨rfl,rfl,rfl⟩,rfl⟩,⟨λe he=>by simp at he,λk=>by simp⟩,⟨by decide,by rfl,rfl⟩,⟨rfl,rfl,λ_=>.nil⟩⟩
def w2k{l:Addr}{lt:List (Str×Tok)}{Q:Value->ah->Prop}(hh:A.handled=none)(hl:s.heap.IsList l (kh lt).toArray)(hb:lt.length+1<qV)
 (q:∀(h':Heap) (tk:Nat),jW prog w (kC w) h' s.heap.objs.size (λk'=>(fX (lt.map (·.1))).any (·==k')) (fX (lt.map (·.1))).length ->
   (∀b o,b<s.heap.objs.size->s.heap.get? b=some o->h'.get? b=some o)->Q (.ref s.heap.objs.size) { s with heap:=h',toks:=tk }) :
 au (aD prog w) A (call (.type "set") [.ref l]) Q E s:=by
 obtain⟨c,tl,PH⟩:=F.called_set.mro
 have a8o:=F.called_set.made;have a0z:=F.called_set.sub
 refine zV (a6v (show au _ _ (callAny (.type "set") _) _ _ _ from ?_))
 refine bR ⟨a6l _ (by decide +kernel),C6 F.entry_type_call ?_⟩;rw[Around.under_plain (weight_type_call_type "set" [.ref l] []) rfl]
 have h1:=F.called_set.notType;have h2:=F.called_set.canCreate;have hct:=F.typeCall_set_1 (.ref l)
 (repeat (any_goals (first | assumption | wp_step)))
 refine qR (a0y (.ref l) (E:=E) (Q1:=λobj s1=>obj = .ref s.heap.objs.size/\s1={ s with heap:=s.heap.push { cls:=.type "set",dict:=none,data:=.set #[] 0 (.fresh 0 0 (kC w)) } }) ⟨rfl,rfl⟩) λr s1 hr=>?_
 cases r with
 | error e=>exact hr
 | ok fl =>
   cases fl with
   | ret obj =>
     obtain⟨rfl,rfl⟩:=hr
     have hS:(s.heap.push { cls:=.type "set",dict:=none,data:=.set #[] 0 (.fresh 0 0 (kC w)) }).get? s.heap.objs.size=some { cls:=.type "set",dict:=none,data:=.set #[] 0 (.fresh 0 0 (kC w)) }:=gf _ rfl
     have hT:Shared.TypeIs { s with heap:=s.heap.push { cls:=.type "set",dict:=none,data:=.set #[] 0 (.fresh 0 0 (kC w)) } } (.ref s.heap.objs.size) "set":=⟨_,hS,rfl⟩
     have hli:=F.called_set.init.lookup;have hbi:=F.called_set.init.bind (.ref s.heap.objs.size)
     (repeat (any_goals (first | assumption | wp_step)))
     refine qR (Tq (R:=wants (λr s2=>r = .none/\∃h' tk,s2={ s with heap:=h',toks:=tk } /\
      jW prog w (kC w) h' s.heap.objs.size (λk'=>(fX (lt.map (·.1))).any (·==k')) (fX (lt.map (·.1))).length /\
      (∀b o,b<s.heap.objs.size->s.heap.get? b=some o->h'.get? b=some o)) E) F.called_set.init.plain F.entry_set_init (check_set_init_1 hT ?_)) λr2 s2 Cg=>?_
     ·obtain⟨⟨a8p,a1g,a8q,a1h⟩,QK,Cd,nl,QL⟩:=hl
      simp only at Cd QL
      subst Cd QL
      have a1i:(s.heap.push { cls:=.type "set",dict:=none,data:=.set #[] 0 (.fresh 0 0 (kC w)) }).get? l=some { cls:=.type "list",dict:=a1g,data:=.seq (kh lt).toArray nl,slots:=a1h }:=dE _ QK
      have a8r:=F.sub_list_set;have a8s:=F.sub_list_frozenset
      have bS:(wD "list"==wD "dict")=false:=by decide
      have v9:(s.heap.push { cls:=.type "set",dict:=none,data:=.set #[] 0 (.fresh 0 0 (kC w)) }).IsList l (kh lt).toArray:=⟨_,a1i,rfl,nl,rfl⟩
      unfold Builtin.«set.__init__» noKeywords Builtin.Frozenset.updateFrom;generalize hPI:qO=PI
      wp_walk
      subst hPI
      refine C2 v9 (aI (wpAny_runValue ?_))
      have QM:l<s.heap.objs.size:=bX QK
      have hh3:A.in1.in1.in1.handled=none:=by simp[hh]
      have hnI:l≠(s.heap.push { cls:=.type "set",dict:=none,data:=.set #[] 0 (.fresh 0 0 (kC w)) }).objs.size:=by rw[zX];exact dM (a7l QM)
      have wa:s.heap.objs.size ∉ [(s.heap.push { cls:=.type "set",dict:=none,data:=.set #[] 0 (.fresh 0 0 (kC w)) }).objs.size,l]:=by
       rw[zX];simp only[jG,Kh,lG,or_false,not_or];exact⟨dM (wV _),nV QM⟩
      have W:=(Th (prog:=prog) (w:=w) hh3 _ l hnI (kh lt).toArray).toS
      have j6:(kh lt).toArray.size=(lt.map (·.1)).length:=by unfold kh;simp
      rw[j6] at W
      refine x9y (led:=kC w) W s.heap.objs.size wa (λi v hv=>?_) (by rw[aX];exact hb) ((lt.map (·.1)).length-0) 0 _ (by lia) (pV _) ⟨⟨_,gf _ rfl,rfl,rfl⟩,(v9.push _)⟩ ?_ ?_
      ·have hv':lt[i]?.map (λp=>zD p.1 p.2)=some v:=by
        have:(kh lt)[i]? = some v:=by simpa using hv
        unfold kh at this
        rw[e8] at this;exact this
       obtain⟨p,hp,rfl⟩:=Option.map_eq_some_iff.mp hv'
       exact⟨p.1,p.2,by rw[e8,hp];rfl,rfl⟩
      ·have hg:((s.heap.push { cls:=.type "set",dict:=none,data:=.set #[] 0 (.fresh 0 0 (kC w)) }).push { cls:=.type "list_iterator",data:=.fields #[.ref l,.int 0 0] }).get? s.heap.objs.size=some { cls:=.type "set",dict:=none,data:=.set #[] 0 (.fresh 0 0 (kC w)) }:=dE _ hS
       exact(w8q hg).QF (λ_=>rfl) rfl
      ·intro s' mv y
       obtain⟨h',g',d',tk',nZ⟩:=s'
       obtain rfl:g'=s.gens:=mv.gens
       obtain rfl:d'=s.drawn:=mv.drawn
       obtain rfl:nZ=s.os:=mv.os
       show au _ _ _ _ _ _
       refine bR (show au _ _ (ret qL) _ _ _ from bR ⟨rfl,h',tk',rfl,y,λb o hb e=>?_⟩)
       have b1:b≠s.heap.objs.size:=dM hb
       have b2:b≠(s.heap.push { cls:=.type "set",dict:=none,data:=.set #[] 0 (.fresh 0 0 (kC w)) }).objs.size:=by rw[zX];exact dM (a7l hb)
       exact mv.heap b o (by simp only[jG,Kh,lG,or_false,not_or];exact⟨b1,b2⟩) (dE _ (dE _ e))
     ·cases r2 with
      | error e=>exact Cg
      | ok zc =>
        cases zc with
        | ret r =>
          obtain⟨rfl,h',tk,rfl,y,keep⟩:=Cg
          (repeat (any_goals (first | assumption | wp_step)))
          exact q _ _ y keep
        | _=>exact Cg.elim
   | _=>exact hr.elim
end
section
variable {X:Cx}{a b:Expr}{ga gb:G->R D}{p p2 pos pos':Pos}
def w0u(ha:PD X a ga)(hm1:X.mg "len"=none)(hm2:X.mg "set"=none)(fq:X.calm=true)(aM:Gl X "len":=by rfl)(dC:Gl X "set":=by rfl)
 (zk:aT [.Call (.Name "set" p2) [a] [] pos'] X.env=[(false,eval (.Call (.Name "set" p2) [a] [] pos') X.env)]:=by rfl) (r0:aT [a] X.env=[(false,eval a X.env)]:=by rfl) :
 PD X (.Call (.Name "len" p) [.Call (.Name "set" p2) [a] [] pos'] [] pos) (A2 ga):=by
 refine⟨λpins s σ H F Γ I fo rl bW=>?_⟩
 refine kL (iu I aM hm1 (show lA (jn "len")=some (.builtin "len") by decide +kernel) (Kz ?_ zk rfl))
 rw[zk]
 show au _ _ (e9 ((false,eval (.Call (.Name "set" p2) [a] [] pos') X.env)::cH pos [])) _ _ s
 refine fT ?_
 refine kL (iu I dC hm2 w2l (oV ?_ r0 rfl))
 rw[r0]
 show au _ _ (e9 ((false,eval a X.env)::cH pos' [])) _ _ s
 refine fT (az (ha.run pins s σ H F Γ I fo rl (R.left bW)) (λu s1 ⟨d,v,H1,e1,I1,r1,S1,i1⟩=>iJ ?_) λ_ _ x=>x.bind _)
 have HM:=R.next bW e1
 cases d with
 | lst ds =>
   cases q:strs? ds with
   | none=>exact absurd (show(match strs? ds with | some xs=>R.guard (xs.length<=1000) (R.ok (D.int (fX xs).length)) | none=>R.no) = .no by rw[q]) HM
   | some xs =>
     have mz:R.guard (xs.length<=1000) (R.ok (D.int (fX xs).length)) ≠ .no:=by
      have h:=HM
      dsimp only at h
      rw[q] at h;exact h
     obtain⟨aN,e3⟩:=R.cU mz
     obtain rfl:=A0 q
     obtain⟨l,vs,rfl,h1,h2⟩:=Is.fC.mp i1
     cases (show u=fF l from r1)
     obtain⟨its,rv,pl,hz⟩:=I1.list h1
     obtain⟨lt,rfl,cW⟩:=Co h2 rv
     have hh:X.A.handled=none:=I1.ok.hd fq
     have Qr:lt.length=xs.length:=by rw[<-cW,aX]
     refine w2k (s:=s1) hh pl.isList (by unfold qV;lia) λh' tk y keep=>iJ ?_
     obtain⟨o,es,ep,t,⟨w1,w2,w3⟩,_,⟨w6,w7,w8⟩,_⟩:=y
     rw[cW] at w8
     have hml:=QI xs
     refine call_len_set (s:={ s1 with heap:=h',toks:=tk }) w1 w2 w3 w7 (by rw[w8];lia) ?_
     have a1j:∀b o,s1.heap.get? b=some o->h'.get? b=some o:=λb o e=>keep b o (bX e) e
     refine⟨.int (fX xs).length,.int (fX xs).length,H1,(R.step e1 _).trans ?_,I1.kept a1j,?_,S1,Is.bZ.mpr rfl⟩
     ·show(match strs? (xs.map D.str) with | some xs=>R.guard (xs.length<=1000) (R.ok (D.int (fX xs).length)) | none=>R.no)=_
      rw[q];exact e3
     ·rw[w8];exact⟨_,rfl⟩
 | _=>exact absurd rfl HM
def QN(hu:X.A.units+64<iZ):gE X (iY .NotIn) y0j:=by
 refine⟨λx y H Q=>∃dx ys,Is X.K H dx x/\Is X.K H (.tup ys) y/\D.lay 40 dx=true/\D.lay 40 (.tup ys)=true/\Q (.bl (!(ys.any λy=>bO y dx))) H,?_,λH x y dx dy ix iy hg=>?_⟩
 ·intro pins s σ H x y v u Q I rx ry h
  obtain⟨dx,ys,ix,iy,l1,l2,q⟩:=h
  obtain⟨as,ra⟩:=pE I 40 dx x v l1 ix rx
  obtain⟨bs,rb⟩:=pE I 40 (.tup ys) y u l2 iy ry
  have p1:=pD 40 dx l1
  have p2:=pD 40 (.tup ys) l2
  have ey:D.py (.tup ys) = .tuple (D.fD ys):=by simp[D.py]
  rw[ey] at rb p2
  have c2:zT (D.fD ys)=true:=by simpa [sH] using p2.1
  have Gn:X.A.units+64<iZ:=hu
  refine x0l (a6x rb ra c2 p1.1 (show X.A.units+1+min (zU (D.fD ys)) dx.py.depth<iZ by lia) ⟨_,rfl,.bl (!(ys.any λy=>bO y dx)),H,I,?_,q⟩)
  rw[Cj];rfl
 ·cases dy with
  | tup ys =>
    obtain⟨⟨l1,l2⟩,e⟩:=R.cU (show R.guard (D.lay 40 dx=true/\D.lay 40 (.tup ys)=true) (R.ok (D.bl (!(ys.any λy=>bO y dx)))) ≠ .no from hg)
    exact⟨dx,ys,ix,iy,l1,l2,.bl (!(ys.any λy=>bO y dx)),e,.refl _,Is.gD.mpr rfl⟩
  | _=>exact absurd rfl hg
end
def x7g:CJ (.type "list_reverseiterator") "__len__"=pure none:=by rw[xj,xl];kernel_rfl
def w1t:CJ (.type "list_reverseiterator") "__length_hint__"=pure (some (.builtin "list_reverseiterator.__length_hint__")):=by rw[xj,xl];kernel_rfl
section
variable {prog:aS}{w:aR}{A:Around}{E:Value->ah->Prop}{s:ah}{R:mE->ah->Prop}{I:Addr}{fp wr:List Addr}{G:Array zE->Array zE->Prop}{n:Nat}{P:Nat->Value->Prop}{St:Nat->ah->Prop}
def w6d(W:WalksS prog w A.in1 I fp wr G n P St)(hT:∀i s,St i s->s.TypeIs (.ref I) "list_reverseiterator")(S:Addr)(res:Value)(c₀:Nat)(lM:St 0 s)(wa:S ∉ fp)(hI:I∈fp)(hS:s.heap.get? S=some { cls:=.type "list",data:=.seq #[] c₀ })
 (hR:∀s' jX c',Moved (S::wr) G s s'->s'.heap.get? S=some { cls:=.type "list",dict:=none,data:=.seq jX c',slots:=#[] }->ItemsOf P jX n->R (.ok (.ret res)) s') (hn:n<=b5) :
 au (aD prog w) A.in1 (K0 (.ref S) (.ref I) res)
  (λfin s'=>match fin with | .done f=>R (.ok f) s' | .again c'=>c'.quiet=true/\jl (aD prog w) A c' R s') (λe s'=>R (.error e) s') s:=by
 have hSI:S≠I:=λe=>wa (e ▸ hI)
 unfold K0
 refine aI (Ka (hT 0 _ lM) ?_)
 have h1:a7m (.ref S) (.ref I)=false:=by simp[a7m,hSI]
 have h2:(wD "list_reverseiterator"==wD "list")=false:=by decide
 have h3:(wD "list_reverseiterator"==wD "tuple")=false:=by decide
 simp only[h1,h2,h3,Kc,oU,if_false]
 refine aI (W.self 0 _ _ _ lM ?_)
 refine aI (jE ?_)
 unfold Builtin.List.listLengthHint
 refine aI (z9 (hT 0 _ lM) x7g ?_)
 show au _ A.in1 (specialOf (fF I) (jn "__length_hint__")>>=_) _ _ _
 refine aI (z9 (hT 0 _ lM) w1t ?_)
 (generalize aH:("list_reverseiterator.__length_hint__":String)=id0;wp_delta;rw[show splitId id0=some ("list_reverseiterator","__length_hint__") from by subst aH;decide +kernel];subst aH)
 refine aI (Tz (b:=true) (hT 0 _ lM) (by rw[Tv];kernel_rfl) ?_)
 refine bR ?_
 rw[if_neg (by decide)]
 exact bR ⟨TF PySem.F.plain_extend_loop _,codeAny_extend_loopS W hn _ wa _ n 0 _ _ _ rfl (pV _) lM hS (ItemsOf.nil P) λs' jX c' hm zm pJ=>hR s' jX c' hm zm pJ⟩
def w1i{l:Addr}{items:Array Value}{Q:Value->ah->Prop}(hh:A.handled=none)(hl:s.heap.IsList l items)(hr:s.heap.IsRevIter I l ((items.size:Int)-1))(hz:items.size<=b5)
 (hQ:∀(h':Heap) (tk:Nat) jX c',(∀b o,b≠I->s.heap.get? b=some o->h'.get? b=some o)->h'.get? s.heap.objs.size=some { cls:=.type "list",dict:=none,data:=.seq jX c',slots:=#[] }->ItemsOf (λi v=>items[items.size-1-i]? = some v) jX items.size->Q (.ref s.heap.objs.size) { s with heap:=h',toks:=tk }) :
 au (aD prog w) A (call (.type "list") [.ref I]) Q E s:=by
 have bS:l≠I:=λe=>by
  obtain⟨o,ho,hc,_⟩:=hl
  obtain⟨o',fv,oY,_⟩:=hr
  rw[e,fv] at ho;cases ho
  rw[hc] at oY;exact absurd oY (by decide)
 have ltI:I<s.heap.objs.size:=let ⟨o,ho,_⟩:=hr;bX ho
 have QO:l<s.heap.objs.size:=let ⟨o,ho,_⟩:=hl;bX ho
 have wa:s.heap.objs.size ∉ [I,l]:=by
  simp only[jG,lG,or_false,not_or]
  exact⟨nV ltI,nV QO⟩
 refine callType_codes (Q₁:=λobj cD=>obj = .ref s.heap.objs.size/\cD={ s with heap:=s.heap.push { cls:=.type "list",data:=.seq #[] } }) PySem.F.called_list (PySem.F.typeCall_list_1 _) PySem.F.entry_list_init
  (code_list_new _ ⟨rfl,rfl⟩) λobj cD dQ=>?_
 obtain⟨rfl,rfl⟩:=dQ
 have hS:(s.heap.push { cls:=.type "list",data:=.seq #[] }).get? s.heap.objs.size=some { cls:=.type "list",data:=.seq #[] }:=gf _ rfl
 refine⟨⟨_,hS,rfl⟩,PySem.F.args_list_init_2 _ _,?_⟩
 show au _ _ (do let old <-a7n (.ref s.heap.objs.size);Builtin.List.listUpdate (.ref s.heap.objs.size) (λ_=>#[]);letGo old.toList.reverse;K0 (.ref s.heap.objs.size) (.ref I) .none) _ _ _
 refine aI ?_
 unfold a7n
 refine aI (wpAny_seqItems hS rfl (bR ?_))
 show au _ _ (updateSeq s.heap.objs.size (λ_=>#[])>>=λ_=>letGo (#[]:Array Value).toList.reverse>>=λ_=>K0 (.ref s.heap.objs.size) (.ref I) .none) _ _ _
 refine aI (wpAny_updateSeq hS rfl ?_)
 have a1k:=Sw (wK (λ_=>(#[]:Array Value))) hS rfl
 have HN:∀b o,b<s.heap.objs.size->s.heap.get? b=some o->((s.heap.push { cls:=.type "list",data:=.seq #[] }).update s.heap.objs.size (wK (λ_=>(#[]:Array Value)))).get? b=some o :=
  λb o hb e=>(Kd _ _ (nV hb)).trans (dE _ e)
 refine aI (wpAny_letGo ?_)
 have W:=(Walks.listRev (prog:=prog) (w:=w) (A:=A.in1.in1) (by simp[hh]) I l bS items).toS
 refine w6d W (λi s st=>st.2.1.typeIs) s.heap.objs.size .none _ ?_ wa (by simp) a1k (λs' jX c' hm zm pJ=>?_) hz
 ·refine⟨pV _,?_,?_⟩
  ·show Heap.IsRevIter _ I l ((items.size:Int)-1-((0:Nat):Int))
   rw[show((items.size:Int)-1-((0:Nat):Int))=(items.size:Int)-1 by lia]
   exact hr.at λo e=>HN I o ltI e
  ·obtain⟨o,ho,r⟩:=hl
   exact⟨o,HN l o QO ho,r⟩
 ·rw[Moved.eq_with hm]
  exact⟨rfl,hQ s'.heap s'.toks jX c' (λb o hb e=>hm.heap b o (by
   simp only[jG,lG,or_false,not_or]
   exact⟨dM (bX e),hb⟩) (HN b o (bX e) e)) zm pJ⟩
end
section
variable {prog:aS}{w:aR}{A:Around}{E:Value->ah->Prop}
def w5w{items:Array Value}{x:Str}{t:Tok}{j:Nat}{f:Nat->Option sJ×Unit->Sem (ForInStep (Option sJ×Unit))}{Q:Option sJ×Unit->ah->Prop}
 (hf:∀i r,f i r=(match items[i]? with
   | some y=>eqBool y (.str x t)>>=λc=>if c=true then retInt (i:Int)>>=λr=>pure (.done (some r,())) else pure (.yield (none,()))
   | none=>pure (.yield (none,()))))
 (hj:∃u,items[j]? = some (.str x u)) (n6:∀m,m<j->∃y u,items[m]? = some (.str y u)/\y≠x) {s:ah}
 (h:Q (some (.done (.ret (.int (j:Int) s.toks))),()) { s with toks:=s.toks+1 }):∀k n:Nat,n<=j->j<n+k->au (aD prog w) A (forIn (CW n k) ((none,()):Option sJ×Unit) f) Q E s:=by
 intro k
 induction k with
 | zero=>intro n h1 h2;lia
 | succ k ih =>
   intro n h1 h2
   rw[a5f,List.forIn_cons,hf]
   by_cases e:n=j
   ·subst e
    obtain⟨u,eu⟩:=hj
    rw[eu]
    refine aI (aI (R4 ?_))
    rw[if_pos (by simp)]
    unfold retInt
    obtain⟨hp,g,dd,tk,os⟩:=s
    wp_walk
    exact h
   ·obtain⟨y,u,eu,ne⟩:=n6 n (by lia)
    rw[eu]
    refine aI (aI (R4 ?_))
    rw[if_neg (by simpa using ne)]
    refine bR ?_
    exact ih (n+1) (by lia) (by lia)
def w1s{items:Array Value}{x:Str}{t:Tok}{j:Nat}{f:Nat->Option sJ×Unit->Sem (ForInStep (Option sJ×Unit))}{Q:Option sJ×Unit->ah->Prop}
 (hf:∀i r,f i r=(match items[i]? with
   | some y=>eqBool y (.str x t)>>=λc=>if c=true then retInt (i:Int)>>=λr=>pure (.done (some r,())) else pure (.yield (none,()))
   | none=>pure (.yield (none,()))))
 (hj:∃u,items[j]? = some (.str x u)) (n6:∀m,m<j->∃y u,items[m]? = some (.str y u)/\y≠x) {s:ah}
 (h:Q (some (.done (.ret (.int (j:Int) s.toks))),()) { s with toks:=s.toks+1 }):au (aD prog w) A (forIn [:min items.size items.size] ((none,()):Option sJ×Unit) f) Q E s:=by
 rw[Std.Legacy.Range.forIn_eq_forIn_range',show CW ([:min items.size items.size]:TQ).start ([:min items.size items.size]:TQ).size ([:min items.size items.size]:TQ).step=CW 0 (min items.size items.size) by simp[Std.Legacy.Range.size]]
 exact w5w hf hj n6 h _ 0 (pV _) (by obtain⟨u,eu⟩:=hj;have:=(Array.getElem?_eq_some_iff.mp eu).1;lia)
def x5k{items:Array Value}{l:Addr}{x:Str}{t:Tok}{j:Nat}{Q:sJ->ah->Prop}{s:ah}(hl:sr s.heap l items)
 (hj:∃u,items[j]? = some (.str x u)) (n6:∀m,m<j->∃y u,items[m]? = some (.str y u)/\y≠x)
 (h:Q (.done (.ret (.int (j:Int) s.toks))) { s with toks:=s.toks+1 }):au (aD prog w) A (Builtin.«tuple.index» ⟨[.ref l,.str x t],[]⟩) Q E s:=by
 obtain⟨o,e,c,n,d⟩:=hl
 unfold Builtin.«tuple.index» Sr
 obtain⟨hp,g,dd,tk,os⟩:=s
 wp_walk using wpAny_loadPart' e
 rw[d]
 wp_walk
 refine w1s (items:=items) (x:=x) (t:=t) (j:=j) (λi r=>?_) hj n6 (bR h)
 cases items[i]? <;> rfl
end
section
variable {X:Cx}{e a b:Expr}{g ga gb:G->R D}{p p' pos pos' apos cL:Pos}
def y7m:i6 X (.type "int") (λxs H Q=>∃x n,xs=[.str x]/\x.length<=640/\intText? x=some n/\Q (.int n) H):=by
 intro pins s σ H xs us Q I r h
 obtain⟨x,n,rfl,hl,hn,q⟩:=h
 obtain⟨u,rfl,t,rfl⟩:=mM r
 exact PySem.W.KIN.call_text hn hl ⟨.int n,H,I.tok _,⟨_,rfl⟩,q⟩
def w6i:kx X (.type "int") xY:=by
 refine⟨_,y7m (X:=X.bY),λH xs ds i hg=>?_⟩
 unfold xY at hg
 split at hg
 ·rename_i x
  obtain⟨v,rfl,h⟩:=jR i
  obtain⟨hz,e⟩:=R.cU hg
  cases Is.iC.mp h
  cases hn:intText? x with
  | none=>rw[hn] at hg;rw[R.guard_pos hz] at hg;exact absurd rfl hg
  | some n=>exact⟨x,n,rfl,hz,hn,.int n,e.trans (by rw[hn]),.refl _,Is.bZ.mpr rfl⟩
 ·exact absurd rfl hg
def x3y(ha:PD X a ga)(hmr:X.mg "reversed"=none)(hm:X.mg "list"=none)(hc:X.calm=true)(hgr:Gl X "reversed":=by rfl)(hg:Gl X "list":=by rfl)(hs:aT [a] X.env=[(false,eval a X.env)]:=by rfl)
 (he:aT [Expr.Call (.Name "reversed" p') [a] [] pos'] X.env=[(false,eval (.Call (.Name "reversed" p') [a] [] pos') X.env)]:=by rfl):PF X (.Call (.Name "list" p) [.Call (.Name "reversed" p') [a] [] pos'] [] pos) (z9o ga):=by
 refine⟨λpins s σ H F Γ I fo rl bW=>?_⟩
 refine kL (iu I hg hm (by decide +kernel:lA "list"=some (.type "list")) ?_ (by decide) (by decide))
 refine oV ?_ he rfl
 rw[he]
 show au _ _ (e9 ((false,eval (.Call (.Name "reversed" p') [a] [] pos') X.env)::cH pos [])) _ _ s
 refine fT ?_
 refine wY (iu I hgr hmr P9 (oV ?_ hs rfl))
 rw[hs]
 show au _ _ (e9 ((false,eval a X.env)::cH pos' [])) _ _ s
 refine fT (az (ha.run pins s σ H F Γ I fo rl (R.left bW)) (λu s1 ⟨d,v,H1,e1,I1,r1,S1,i1⟩=>iJ ?_) λ_ _ x=>x.bind _)
 have aM:=R.next bW e1
 cases d with
 | lst ds =>
   obtain⟨⟨h3,Ei⟩,e3⟩:=R.cU (show R.guard (ds.length<=100000/\D.bC ds=true) (R.ok ds.reverse) ≠ .no from aM)
   obtain⟨l,xs,rfl,q1,j1⟩:=Is.fC.mp i1
   cases (show u=fF l from r1)
   obtain⟨its,rv,pl,hz⟩:=I1.list q1
   have hlen:=rv.length
   refine call_reversed_list pl.isList (iJ ?_)
   have a1:(s1.heap.push (Ac l ((its.toArray.size:Int)-1))).IsRevIter s1.heap.objs.size l ((its.toArray.size:Int)-1):=⟨_,gf _ rfl,rfl,rfl⟩
   have v9:(s1.heap.push (Ac l ((its.toArray.size:Int)-1))).IsList l its.toArray:=pl.isList.push _
   refine w1i (s:={ s1 with heap:=s1.heap.push (Ac l ((its.toArray.size:Int)-1)) }) (I1.ok.hd hc) v9 a1 (by rw[de,<-hlen];exact hz) λh' tk jX c' kp hl pJ=>?_
   have j6:(s1.heap.push (Ac l ((its.toArray.size:Int)-1))).objs.size=s1.heap.objs.size+1:=by rw[zX]
   have kp':∀b o,s1.heap.get? b=some o->h'.get? b=some o:=λb o e=>kp b o (dM (bX e)) (dE _ e)
   have ze:s1.heap.objs.size<=(s1.heap.push (Ac l ((its.toArray.size:Int)-1))).objs.size:=by rw[j6];exact TN _
   have ji:H1 (s1.heap.push (Ac l ((its.toArray.size:Int)-1))).objs.size=none:=I1.aN.fresh ze
   have a1l:jX.toList=its.reverse:=by
    refine List.ext_getElem? λj=>?_
    have h1:jX.size=its.length:=by have:=pJ.1;simpa using this
    by_cases hj:j<its.length
    ·have h2:jX[j]? = some jX[j]:=Aa (by lia)
     have h4:=pJ.2 j jX[j] h2
     rw[SA,h2,a6t hj]
     rw[<-h4]
     simp
    ·rw[jY (by simp;lia),jY (by simp;lia)]
   have hv:Vals xs.reverse jX.toList:=by rw[a1l];exact rv.reverse
   have I2:Inv X pins σ (upd H1 _ (.lst xs.reverse)) { s1 with heap:=h',toks:=tk }:=I1.laid (t':=tk) kp' ze (show jo X.prog X.w _ _ _ (.lst xs.reverse) from⟨by rw[qT];exact hz,jX.toList,c',hv,by rw[Array.toArray_toList];exact hl⟩)
   have S2:=g7 ji (.lst xs.reverse)
   refine⟨ds.reverse,_,xs.reverse,_,(R.step e1 _).trans e3,I2,rfl,S1.trans S2,S1.free ji,dj,?_⟩
   refine(aq.HH (aq.aH (fo.same S1) ds xs Ei j1)).same λb o hb=>?_
   obtain⟨z1,z2⟩:=ja hb
   have gF:=ib z2 ji
   rw[di λz=>(List.mem_cons.mp z).elim gF z1,bM gF]
   exact z2
 | _=>exact absurd rfl aM
def x6x(ha:PD X e ga)(hb:PD X b gb)
 (ky:uJ e "index" X.env (eval e X.env)=eval e X.env:=by rfl)
 (mx:((cH cL (aT [b] X.env)).all (λx=>!x.1)&&(uw cL (ux [] X.env)).all (λx=>x.1.isSome)
   && decide ([b].length+([]:List kK).length+(if ([]:List kK).isEmpty then 0 else 1)<30))=true:=by rfl)
 (kz:(apos.endLine==cL.line)=true:=by rfl) (hs:aT [b] X.env=(false,eval b X.env)::aT [] X.env:=by rfl) :
 PD X (.Call (.Attribute e "index" apos) [b] [] cL) (xX ga gb):=by
 refine⟨λpins s σ H F Γ I fo rl hg=>?_⟩
 refine xf ky mx kz rfl (az (ha.run pins s σ H F Γ I fo rl (R.left hg)) (λv s1 ⟨dl,vl,H1,e1,I1,r1,S1,i1⟩=>?_) λ_ _ x=>x.bind _)
 have aM:=R.next hg e1
 cases dl with
 | tup ds =>
   have g9:=R.left aM
   obtain⟨l,vs,rfl,q1,j1⟩:=Is.fB.mp i1
   cases (show v=fF l from r1)
   obtain⟨_,_,⟨o1,QP,ph,_,hd1⟩,_⟩:=I1.Ld q1
   have t1:s1.TypeIs (.ref l) "tuple":=⟨o1,QP,ph⟩
   have t2:∀a,fF l = .ref a->∃ob,s1.heap.get? a=some ob/\ob.dict=none:=λa e=>by
    cases e
    exact⟨o1,QP,(Prod.mk.inj hd1).2⟩
   refine⟨"tuple",_,PySem.F.plainAttrs_tuple,a7o,PySem.F.type_tuple_index,t1,t2,?_⟩
   rw[hs]
   refine uK rfl (xg ?_)
   show au _ _ (e9 ((false,eval b X.env)::cH cL [])) _ _ s1
   refine fT (az (hb.run pins s1 σ H1 F Γ I1 (fo.same S1) (rl.same S1) g9) (λu s2 ⟨d,y,H2,e2,I2,r2,S2,i2⟩=>iJ ?_) λ_ _ x=>cw.later e1 S1 (x.bind _))
   have dC:=R.next aM e2
   cases d with
   | str x =>
     cases qs:strs? ds with
     | none=>exact absurd (show(match strs? ds with | some xs=>n9 xs x | none=>R.no) = .no by rw[qs]) dC
     | some xs =>
       have mz:n9 xs x ≠ .no:=by
        have h:=dC
        dsimp only at h
        rw[qs] at h;exact h
       obtain rfl:=A0 qs
       cases hf:xs.findIdx? (·==x) with
       | none=>exact absurd (show n9 xs x = .no by unfold n9;rw[hf]) mz
       | some j =>
         have hg4:R.guard (xs.length<=1000) (R.ok (D.int (j:Int))) ≠ .no:=by
          have h:=mz
          unfold n9 at h
          rw[hf] at h;exact h
         obtain⟨hl,e4⟩:=R.cU hg4
         obtain⟨its,rv,pl,hz⟩:=I2.tuple (qq S2 q1)
         obtain⟨lt,rfl,cW⟩:=Co (j1.same S2) rv
         cases Is.iC.mp i2
         obtain⟨t,rfl⟩:=r2
         obtain⟨o,ho,hc,n,hd⟩:=(show s2.heap.IsTuple l (kh lt).toArray from pl)
         have fin:∀tk,du X pins σ H (xX ga gb Γ) (.int (j:Int) s2.toks) { s2 with toks:=tk }:=λtk =>
          du.bind e1 S1 (du.bind e2 S2 ⟨.int (j:Int),.int (j:Int),H2,by
           show(match strs? (xs.map D.str) with | some xs=>n9 xs x | none=>R.no)=_
           rw[qs]
           show n9 xs x=_
           unfold n9;rw[hf];exact e4,I2.tok _,⟨s2.toks,rfl⟩,.refl _,Is.bZ.mpr rfl⟩)
         obtain⟨hj,hjt,hjn⟩:=List.findIdx?_eq_some_iff_getElem.mp hf
         have at_:∀m (hm:m<xs.length),∃u,(kh lt).toArray[m]? = some (.str xs[m] u):=λm hm=>by
          subst cW
          have hm':m<lt.length:=by simpa using hm
          exact⟨lt[m].2,by simp[kh,hm']⟩
         refine zH a7o ⟨o,ho,hc⟩ PySem.F.entry_tuple_index (x5k (j:=j) pl ?_ ?_ ⟨_,rfl,fin _⟩) (PySem.F.args_tuple_index_2 _ _)
         ·obtain⟨u,e⟩:=at_ j hj
          exact⟨u,by rw[e,show xs[j]=x by simpa using hjt]⟩
         ·intro m hm
          obtain⟨u,e⟩:=at_ m (by lia)
          exact⟨xs[m],u,e,by simpa using hjn m hm⟩
   | _=>exact absurd rfl dC
 | _=>exact absurd rfl aM
end
structure zo (X:Cx) (i:Nat) (b:List Stmt) (g:G->R (D×List D)):Prop where
 run:∀(pins:List (Addr×Obj)) (s:ah) (σ:St) (H:Hp) (F:List Addr) (Γ:G),Inv X pins σ H s->bL H F->Rel X.K H F Γ σ->g Γ ≠ .no ->
  au (aD X.prog X.w) X.A (sv b X.env) (λfl s'=>∃u,(fl = .ret u∨(fl = .next/\u = .none))/\∃d ws v aJ H' F' l zs,g Γ = .ok (d,ws)/\Inv X pins aJ H' s'/\RelV v u/\Ext H F H' F'/\σ[i]? = some (some (.ref l))/\H' l=some (.lst zs)/\l∈F'/\aq X.K (aH F' H') ws zs/\Is X.K (aH F' H') d v) (λ_ _=>False) s
section
variable {X:Cx}{b:List Stmt}{st:Stmt}{t:G->R Fl}{u:G->R (D×List D)}{i:Nat}{pos:Pos}
def PW.e(h:PW X i b u):zo X i b u:=⟨λpins s σ H F Γ I fo rl hg=>az (h.run pins s σ H F Γ I fo rl hg) (λfl s' ⟨u,e,r⟩=>⟨u,.inl e,r⟩) λ_ _ z=>z⟩
def qD.e(h:qD X i b t):zo X i b (iQ i t):=by
 refine⟨λpins s σ H F Γ I fo rl hg=>?_⟩
 cases ht:t Γ with
 | no=>exact absurd (show iQ i t Γ = .no by unfold iQ;rw[ht]) hg
 | er c=>exact absurd (show iQ i t Γ = .no by unfold iQ;rw[ht]) hg
 | ok f =>
   cases f with
   | nx d8 =>
     have e2:iQ i t Γ=(match d8[i]? with | some (.own ws)=>R.ok (D.cQ,ws) | _=>R.no):=by unfold iQ;rw[ht];try rfl
     rw[e2] at hg ⊢
     obtain⟨ws,hw⟩:=Qv hg
     refine az (h.run pins s σ H F Γ I fo rl (by rw[ht];exact λz=>nomatch z)) (λfl s1 q=>?_) λx s1 q=>?_
     ·rw[ht] at q
      cases fl with
      | next =>
        obtain⟨Γ',e,aJ,H',F',I',BZ,mw,E,k⟩:=q
        cases e
        obtain⟨l,zs,jD,hF,hH,qE⟩:=mw.own i ws hw
        exact⟨.none,.inr ⟨rfl,rfl⟩,.cQ,ws,.cQ,aJ,H',F',l,zs,by rw[hw],I',rfl,E,by rw[<-k];exact jD,hH,hF,qE,Is.BK.mpr rfl⟩
      | ret v=>exact(by obtain⟨v',aJ,H',F',_,_,_,⟨d,z,_⟩ | ⟨_,_,_,z,_⟩⟩:=q<;>cases z)
      | brk=>exact(by obtain⟨Γ',z,_⟩:=q;cases z)
      | cont=>exact(by obtain⟨Γ',z,_⟩:=q;cases z)
     ·rw[ht] at q
      obtain⟨c,Γ',aJ,H',F',z,_⟩:=q
      cases z
   | rt d=>exact absurd (show iQ i t Γ = .no by unfold iQ;rw[ht]) hg
   | fW d=>exact absurd (show iQ i t Γ = .no by unfold iQ;rw[ht]) hg
   | bk d=>exact absurd (show iQ i t Γ = .no by unfold iQ;rw[ht]) hg
   | ct d=>exact absurd (show iQ i t Γ = .no by unfold iQ;rw[ht]) hg
   | ex c d=>exact absurd (show iQ i t Γ = .no by unfold iQ;rw[ht]) hg
def HP:qD X i b A3:=⟨λ_ _ _ _ _ _ _ _ _ h=>absurd rfl h⟩
def QQ:PW X i b D6:=⟨λ_ _ _ _ _ _ _ _ _ h=>absurd rfl h⟩
def PK.pq(h:PK X i st t):PQ X st t:=⟨λpins s σ H F Γ I fo rl hg=>az (h.run pins s σ H F Γ I fo rl hg) (λfl s' q=>by
 cases fl with
 | next=>obtain⟨Γ',e,aJ,H',F',h1,h2,h3,h4,_⟩:=q;exact⟨Γ',e,aJ,H',F',h1,h2,h3,h4⟩
 | brk=>obtain⟨Γ',e,aJ,H',F',h1,h2,h3,h4,_⟩:=q;exact⟨Γ',e,aJ,H',F',h1,h2,h3,h4⟩
 | cont=>obtain⟨Γ',e,aJ,H',F',h1,h2,h3,h4,_⟩:=q;exact⟨Γ',e,aJ,H',F',h1,h2,h3,h4⟩
 | ret v=>exact q) λ_ _ q=>q⟩
def w4q{h₀:ExceptHandler}{hs:List ExceptHandler}(hb:jT X b t):PQ X (.Try b (h₀::hs) [] [] pos) (gNoX t):=by
 refine⟨λpins s σ H F Γ I fo rl hg=>?_⟩
 have ht:t Γ ≠ .no:=λz=>hg (by unfold gNoX;rw[z])
 have hx:∀c Γ',t Γ ≠ .ok (.ex c Γ'):=λc Γ' z=>hg (by unfold gNoX;rw[z])
 have he:gNoX t Γ=t Γ:=by
  unfold gNoX
  split
  ·rename_i c Γ' z;exact absurd z (hx c Γ')
  ·rfl
 rw[he]
 refine a6m (az (hb.run pins s σ H F Γ I fo rl ht) (λf s1 q=>?_) λxe s1 q=>?_)
 ·cases f with
  | next=>exact pX q
  | brk=>exact q
  | cont=>exact q
  | ret v=>exact q
 ·obtain⟨c,d8,_,_,_,e1,_⟩:=q
  exact absurd e1 (hx c d8)
def QR{x z:Str}{u:Value}(hm:X.mg x=some u)(hu:∃t,u = .str z t)(hg:Gl X x:=by rfl)(hd:(x==("__debug__":Str))=false:=by decide):PD X (.Name x pos) (gC (.str z)) :=
 OU hg hm (v:=.str z) hu (λ_=>Is.iC.mpr rfl) hd
end
section
variable {P:aS}{w:aR}{K:aE}{mg:Str->Option Value}{base:Heap}
def QS{x qual:Str}{st:Stmt}{f:Addr}{fd:cB}{N ps:List Str}{k i:Nat}{φ:List D->R (D×List D)}(Fu:mP K x qual st f fd)(S:i7 N ps (ig st))(hb:km K fd ps [])(hlen:∀ds,φ ds ≠ .no->ds.length=ps.length)
 (i8:∀(a_:Value) (A:Around) (outer:List Env) (s:ah) (H:Hp) (E:XK),dO k (gd P w K mg base N qual st f a_ A outer s H E).A->∃g,zo (gd P w K mg base N qual st f a_ A outer s H E) i (kO st) g/\∀as ws bs,as.length=i->φ (as ++ .lst ws::bs) ≠ .no->(∀c,φ (as ++ .lst ws::bs) ≠ .er c)->g ((fz N.length (as ++ .lst ws::bs)).set i (.own ws))=φ (as ++ .lst ws::bs)) :
 pN P w K mg base (k+1) f fd ps i φ:=by
 refine⟨?_,hb,Fu.kp⟩
 obtain⟨oc,od,kV,doc,pm,an,a_,ct,p9,rfl,lk,dY⟩:=Fu.ex
 refine xD lk dY S (λvs H Q E h=>?_) λA outer s H vs Q E hr eE=>?_
 ·obtain⟨as,bs,xs,ys,ws,l,zs,rfl,_,j1,j2,_,_,bS,_⟩:=h
  have:=hlen _ bS
  simp only[dN,b6,j1.length,j2.length] at this ⊢
  exact this
 obtain⟨g,hq,hg⟩:=i8 a_ A outer s H E hr
 obtain⟨as,bs,xs,ys,ws,l,zs,rfl,hi,j1,j2,hH,j3,bS,a1m,hQ⟩:=eE
 have e0:=hg as ws bs hi bS a1m
 refine⟨λD' aJ H'=>D'={ nx:=λ_ H'=>Q .cQ H',rt:=Q }/\aJ=L2.start N (xs ++ .ref l::ys)/\H'=H,?_,rfl,rfl,rfl⟩
 intro pins s1 lK H1 D1 I hw
 obtain⟨rfl,rfl,rfl⟩:=hw
 have rl:=x3p (N:=N) j1 j2 hH j3
 rw[hi] at rl
 refine az (hq.run pins s1 _ H1 [l] _ I (λb hb=>⟨zs,by rw[List.mem_singleton.mp hb];exact hH⟩) rl (by rw[e0];exact bS)) (λfl s' ⟨u,hu,d,iH,v,aJ,H',F',l',iX,e1,I',rv,Ex,ml,hH',yY,jw,jd⟩=>?_) λ_ _ z=>cx z
 have l1:=j1.length
 have yg:(L2.start N (xs ++ .ref l::ys))[i]? = some (some (.ref l)):=by
  unfold L2.start
  rw[wH (by simp;lia),e8,uB (by lia),<-l1,hi,Kk];rfl
 rw[yg] at ml
 cases ml
 have Sx:aO (aH F' H') (aH [l] H'):=λb o q=>by
  obtain⟨q1,q2⟩:=ja q
  rw[di (λz=>q1 (by rw[List.mem_singleton.mp z];exact yY))];exact q2
 have fin:=hQ d iH v H' iX (by rw[<-e0];exact e1) (λb o hb q=>Ex.keep b o (by simpa using hb) q) hH' (jw.same Sx) (jd.same Sx)
 rcases hu with rfl | ⟨rfl,rfl⟩
 ·exact⟨v,aJ,H',I',rv,fin⟩
 ·cases v with
  | cQ=>exact⟨aJ,H',I',fin⟩
  | _=>first | exact nomatch rv | (obtain⟨_,z⟩:=rv;cases z)
def w8r{x qual:Str}{st:Stmt}{f:Addr}{fd:cB}{N ps:List Str}{k i:Nat}(Fu:mP K x qual st f fd)(S:i7 N ps (ig st))(hb:km K fd ps []):pN P w K mg base (k+1) f fd ps i (λ_=>.no):=by
 refine QS Fu S hb (λds h=>absurd rfl h) λa_ A outer s H E hr=>⟨D6,QQ.e,λas ws bs _ h=>absurd rfl h⟩
end
end L3
namespace HQ
open PySem PySem.W PySem.Calls PyProof.Rows L2
noncomputable def zp(tb:String->Option Builtin)(p:aS)(w:aR)(kD:Nat)(ann:Option Value)(n:Nat):Ad->Thread->Option Ad :=
 Nat.rec (λ_ _=>none) (λ_ ih s t=>match K1 t with
  | true=>some s
  | false=>match stepOk kD ann t with
    | false=>none
    | true=>match stepT (denote tb) p w s t with
      | some (s',t')=>ih s' t'
      | none=>none) n
def QT{tb:String->Option Builtin}{p:aS}{w:aR}{kD:Nat}{ann:Option Value}:∀{n:Nat} {s r:Ad} {t:Thread},zp tb p w kD ann n s t=some r->topRun tb p w kD ann n s.abs t=some r.abs
 | 0,_,_,_,h=>by cases h
 | n+1,s,r,t,h=>by
   have h':(match K1 t with
    | true=>some s
    | false=>match stepOk kD ann t with
      | false=>none
      | true=>match stepT (denote tb) p w s t with
        | some (s',t')=>zp tb p w kD ann n s' t'
        | none=>none)=some r:=h
   unfold topRun
   cases ht:K1 t with
   | true=>rw[ht] at h';cases h';rfl
   | false =>
     rw[ht] at h'
     cases hk:stepOk kD ann t with
     | false=>rw[hk] at h';cases h'
     | true =>
       rw[hk] at h'
       cases hs:stepT (denote tb) p w s t with
       | none=>rw[hs] at h';cases h'
       | some x=>obtain⟨ax,a8t⟩:=x;rw[hs] at h';rw[stepT_spec hs];exact QT h'
noncomputable def Ct(p q:aS)(loose:List Str)(Xt:ah->Bool){α:Type}(Yf:ah->α)(w:aR)(s:ah) :=
 (TR (C_ p.main.body) (ki w.params) s.heap&&TU p s.heap&&TV s&&TX (ki w.params) s.heap,openSeen q loose (C_ p.main.body) Xt true s,Yf s)
def w5o{p q:aS}{loose:List Str}{Xt:ah->Bool}{α:Type}{Yf:ah->α}{Ya:aR->α}{N kD:Nat}{B:oP->BT}{life:Life}{ann:Option Value}
 (hB:∀P,absHeap (B P) kD life=ki P) (e:opening p=plainProg p.main.scope.names) (hN:Nat.ble 600 N=true) (f:∀s,fenceModules? p s=some s)
 (size:∀P,((ki P).isNs dw,(ki P).nsMap dw "__annotations__")=(true,ann))
 (big:∀(w:aR) (os:TY),(zp Dc p w kD ann N ⟨B w.params,kD,life,#[],boot_drawn,boot_toks,os⟩ (topStub p)).map (λs=>Ct p q loose Xt Yf w s.abs)=some (true,openGood q loose,Ya w)):LeftO p q loose Xt Yf Ya N:=λw=>by
 obtain⟨⟨h,gs,d,k,os⟩,e1,e2⟩:=Option.map_eq_some_iff.mp (boot_open (p:=p) (N:=N) e hN f w)
 obtain⟨rfl,rfl,rfl,rfl⟩:h=ki w.params/\gs=#[]/\d=boot_drawn/\k=boot_toks:=by simpa using e2
 obtain⟨z1,z2⟩:_/\_:=by simpa only[KU] using size w.params
 obtain⟨r,hr,hs⟩:=Option.map_eq_some_iff.mp (big w os)
 have t:=QT hr
 have ab:(SharedT.abs ⟨B w.params,kD,life,#[],boot_drawn,boot_toks,os⟩)=⟨ki w.params,#[],boot_drawn,boot_toks,os⟩:=by
  unfold SharedT.abs
  rw[hB]
 rw[ab] at t
 have sz:(ki w.params).objs.size=kD:=by rw[<-hB w.params];exact absHeap_size _ _ _
 unfold Ct at hs
 obtain⟨l1,l2⟩:_/\_:=by simpa only[KU] using hs
 have T:TZ Dc p w N ⟨ki w.params,#[],boot_drawn,boot_toks,os⟩=some r.abs:=by
  unfold TZ
  dsimp only
  rw[z1,z2,sz,t]
  show(match TR (C_ p.main.body) (ki w.params) r.abs.heap&&TU p r.abs.heap&&TV r.abs&&TX (ki w.params) r.abs.heap with | true=>_ | false=>_)=_
  rw[l1]
 unfold openEnds
 rw[e1]
 show(TZ Dc p w N _).map _=_
 rw[T]
 exact congrArg some (Prod.ext l2.1 l2.2)
def w9s(l:List Obj):BT:=(l.foldl (λx o=>(x.1.ins x.2 o,x.2+1)) (BT.nil,0)).1
noncomputable def B(P:oP):BT:=w9s (ki P).objs.toList
def hB(P:oP):absHeap (B P) 11 {}=ki P:=by kernel_rfl
def hS(P:oP):((ki P).isNs dw,(ki P).nsMap dw "__annotations__")=(true,some (.ref 6)):=by kernel_rfl
noncomputable def HR(p:aS)(w:aR)(kD:Nat)(ann:Option Value)(n:Nat):Ad->Thread->Option Ad :=
 Nat.rec (λ_ _=>none) (λ_ ih s t=>match K1 t with
  | true=>some s
  | false=>match PySem.W.Fast.tw6613529449190102663 kD ann t with
    | false=>none
    | true=>match PySem.W.Fast.tw10156331382660048174 (PySem.W.Fast.tw11892475500146522536 Dc) p w s t with
      | some (s',t')=>ih s' t'
      | none=>none) n
def w4l:zp Dc=HR:=by
 unfold zp HR
 simp only[<-PySem.W.Fast.te6613529449190102663,<-PySem.W.Fast.te10156331382660048174,<-PySem.W.Fast.te11892475500146522536]
 try rfl
def a1n(p:aS):List Str:=(p.main.scope.names.map (·.1)).filter λx=>!(startupNames.contains x||x=="law")
noncomputable def HS(p q:aS)(loose:List Str)(Xt:ah->Bool){α:Type}(Yf:ah->α)(w:aR)(s:ah) :=
 (TR (C_ p.main.body) (ki w.params) s.heap&&TU p s.heap&&TV s&&TX (ki w.params) s.heap,PySem.W.Fast.tw4187177175401517315 q loose (C_ p.main.body) Xt true s,Yf s)
def w4e:@Ct=@HS:=by
 unfold Ct HS
 rw[PySem.W.Fast.te4187177175401517315]
noncomputable def s0(w:aR)(os:TY):Ad:=⟨B w.params,11,{},#[],boot_drawn,boot_toks,os⟩
def a1o{p q:aS}{loose:List Str}{Xt:ah->Bool}{α:Type}{Yf:ah->α}{Ya:aR->α}{N:Nat}(e:opening p=plainProg p.main.scope.names)(hN:Nat.ble 600 N=true)(f:∀s,fenceModules? p s=some s)
 (big:∀(w:aR) (os:TY),(HR p w 11 (some (.ref 6)) N (s0 w os) (topStub p)).map (λs=>HS p q loose Xt Yf w s.abs)=some (true,openGood q loose,Ya w)):LeftO p q loose Xt Yf Ya N :=
 w5o hB e hN f hS (by rw[w4l,w4e];exact big)
noncomputable def fO(x:Str)(st:Stmt)(pm cd:Value):Obj:=⟨.type "function",none,.func (fnOf x x (xH st) (kO st) (ig st) .none .none .none pm none cd .none),#[]⟩
def HU{K:Frag}{x:Str}{st:Stmt}{a c:Addr}{pm:Value}(l:K.lookup a=some (fO x st pm (.ref c)))(e:codeIn K (.ref c) x=true):mP K x x st a (fnOf x x (xH st) (kO st) (ig st) .none .none .none pm none (.ref c) .none) :=
 ⟨⟨_,_,_,_,_,_,_,_,_,rfl,l,e⟩,by unfold keepIn;dsimp only;rw[l];rfl⟩
noncomputable def en(P:oP)(x:Str)(t:Tok)(v:Value):SF:=⟨PyData.keyHash P x,.str x t,v⟩
noncomputable def cO(x:Str)(t:Nat)(line zq:Int)(a b c d e:Value)(u:Nat):Obj:=⟨.type "code",none,.fields [.str x t,.str x (t+1),.str "/claim/cut.py" (t+2),.int line 0,.int zq 0,.int 0 0,.int 0 0,.int 3 0,a,.bool true,.int 181 0,b,.none,c,d,e,.int u 0,.int line 0,.str "/claim/cut.py" (u+1)].toArray,#[]⟩
noncomputable def cP(x:Str)(t:Nat)(line zq:Int)(a:Nat)(u:Nat):Obj:=cO x t line zq (.ref a) (.ref (a+1)) (.ref (a+2)) (.ref (a+3)) (.ref (a+4)) u
noncomputable def cR(x:Str)(t:Nat)(line zq:Int)(a:Nat)(u:Nat):Obj:=cO x t line zq (.ref a) (.ref (a+1)) .none .none (.ref (a+2)) u
noncomputable def er(P:oP)(x:Str)(t:Tok)(a:Addr):SF:=en P x t (.ref a)
noncomputable def xk(x:Str)(b a n r t u:Nat):Obj:=⟨(.type "type"),none,.cls { name:=x,bases:=[(.ref b)],mro:=[(.ref a),(.ref b),(.type "ValueError"),(.type "Exception"),(.type "BaseException"),(.type "object")],ns:=n,qualname:=x,hasDict:=true,slotNames:=[],subclasses:=[],abstract:=false,collection:=none,hasDel:=false },([some (.ref r),none,some (.str x t),some (.str x u),some (.builtin "ValueError.__new__"),some (.bool true)]).toArray⟩
noncomputable def xd(P:oP)(t m:Nat)(l:Int)(r:Nat):Obj:=⟨(.type "dict"),none,.dict (en P "__module__" t (.str "longrounds.errors" m)::en P "__firstlineno__" (t+4) (.int l (t+3))::en P "__static_attributes__" (t+5) (.ref r)::en P "__doc__" (t+6) .none::[]).toArray 2,#[]⟩
end HQ
namespace L3
open PySem PySem.Spec PyProof.Rows L2
structure Ev where
 P:aS
 w:aR
 K:aE
 mg:Str->Option Value
 base:Heap
def Own(E:Ev)(x:Str)(st:Stmt)(ps:List Str):Prop:=∃(a:Addr) (d:cB),mP E.K x x st a d/\km E.K d ps []/\E.mg x=some (.ref a)
def bQ(E:Ev)(k:Nat)(x:Str)(ps:List Str)(φ:List D->R D):Prop:=∃(a:Addr) (d:cB),g8 E.P E.w E.K E.mg E.base k a d ps φ/\E.mg x=some (.ref a)
def kf(E:Ev)(k:Nat)(x:Str)(ps:List Str)(φ:List D->R (List D)):Prop:=∃(a:Addr) (d:cB),pF E.P E.w E.K E.mg E.base k a d ps φ/\E.mg x=some (.ref a)
section
variable {E:Ev}{k k':Nat}{x:Str}{st:Stmt}{N ps:List Str}
def bQ.up{φ:List D->R D}(h:bQ E k x ps φ)(hk:k<=k'):∃(a:Addr) (d:cB),g8 E.P E.w E.K E.mg E.base k' a d ps φ/\E.mg x=some (.ref a):=let ⟨a,d,f,m⟩:=h;⟨a,d,f.mono hk,m⟩
def kf.up{φ:List D->R (List D)}(h:kf E k x ps φ)(hk:k<=k'):∃(a:Addr) (d:cB),pF E.P E.w E.K E.mg E.base k' a d ps φ/\E.mg x=some (.ref a):=let ⟨a,d,f,m⟩:=h;⟨a,d,f.mono hk,m⟩
def mkD{n m:Nat}{g:G->R Fl}(u:Own E x st ps)(S:i7 N ps (ig st))(hn:ps.length=n)(hm:N.length=m)
 (i8:∀(f:Addr) (a_:Value) (A:Around) (outer:List Env) (s:ah) (H:Hp) (Ex:XK),dO k (gd E.P E.w E.K E.mg E.base N x st f a_ A outer s H Ex).A->(gd E.P E.w E.K E.mg E.base N x st f a_ A outer s H Ex).A.units+64<iZ->N.Nodup->jT (gd E.P E.w E.K E.mg E.base N x st f a_ A outer s H Ex) (kO st) g):bQ E (k+1) x ps (bA n m g):=by
 subst hn hm
 obtain⟨a,d,Fu,hb,mm⟩:=u
 exact⟨a,d,Pm Fu S hb (λds h=>AW h) λa_ A outer s H Ex hr=>⟨g,i8 a a_ A outer s H Ex hr hr.units S.nd,λds bS=>(AX (AW bS)).symm⟩,mm⟩
def mkF{n m:Nat}{g:G->R Fl}(u:Own E x st ps)(S:i7 N ps (ig st))(hn:ps.length=n)(hm:N.length=m)
 (i8:∀(f:Addr) (a_:Value) (A:Around) (outer:List Env) (s:ah) (H:Hp) (Ex:XK),dO k (gd E.P E.w E.K E.mg E.base N x st f a_ A outer s H Ex).A->(gd E.P E.w E.K E.mg E.base N x st f a_ A outer s H Ex).A.units+64<iZ->N.Nodup->jT (gd E.P E.w E.K E.mg E.base N x st f a_ A outer s H Ex) (kO st) g):kf E (k+1) x ps (jN n m g):=by
 subst hn hm
 obtain⟨a,d,Fu,hb,mm⟩:=u
 exact⟨a,d,w8s Fu S hb (λds h=>L9 h) λa_ A outer s H Ex hr=>⟨g,i8 a a_ A outer s H Ex hr hr.units S.nd,λds bS=>(L_ (L9 bS)).symm⟩,mm⟩
end
def uk{N P:List Str}{sc:dz}(h:sc.kind = .function/\sc.isCoroutine=false/\sc.isGenerator=false/\N.Nodup/\N.take P.length=P/\(∀x∈P,sc.names.lookup x=some .local∨sc.names.lookup x=some .cell)/\∀y∈sc.names,y.2 ≠ .free):i7 N P sc:=⟨h.1,h.2.1,h.2.2.1,h.2.2.2.1,h.2.2.2.2.1,h.2.2.2.2.2.1,h.2.2.2.2.2.2⟩
section
variable {E:Ev}{k k':Nat}{x:Str}{st:Stmt}{ps:List Str}
def bQ.aU{φ:List D->R D}(h:bQ E k x ps φ)(k':Nat)(hk:k<=k':=by lia):∃(a:Addr) (d:cB),g8 E.P E.w E.K E.mg E.base k' a d ps φ/\E.mg x=some (.ref a):=h.up hk
def kf.aU{φ:List D->R (List D)}(h:kf E k x ps φ)(k':Nat)(hk:k<=k':=by lia):∃(a:Addr) (d:cB),pF E.P E.w E.K E.mg E.base k' a d ps φ/\E.mg x=some (.ref a):=h.up hk
def pP(N:List Str)(u:Own E x st ps)(S:i7 N ps (ig st):=by exact uk (by decide +kernel)):bQ E (k+1) x ps (λ_=>.no):=let ⟨a,d,Fu,hb,m⟩:=u;⟨a,d,w8u Fu S hb,m⟩
def HV(N:List Str)(u:Own E x st ps)(S:i7 N ps (ig st):=by exact uk (by decide +kernel)):kf E (k+1) x ps (λ_=>.no):=let ⟨a,d,Fu,hb,m⟩:=u;⟨a,d,w8t Fu S hb,m⟩
def cy(N:List Str){n m:Nat}{g:G->R Fl}(u:Own E x st ps)(i8:∀(f:Addr) (a_:Value) (A:Around) (outer:List Env) (s:ah) (H:Hp) (Ex:XK),dO k (gd E.P E.w E.K E.mg E.base N x st f a_ A outer s H Ex).A->(gd E.P E.w E.K E.mg E.base N x st f a_ A outer s H Ex).A.units+64<iZ->N.Nodup->jT (gd E.P E.w E.K E.mg E.base N x st f a_ A outer s H Ex) (kO st) g)
 (S:i7 N ps (ig st):=by exact uk (by decide +kernel)) (hn:ps.length=n:=by rfl) (hm:N.length=m:=by rfl):bQ E (k+1) x ps (bA n m g):=mkD u S hn hm i8
def um(N:List Str){n m:Nat}{g:G->R Fl}(u:Own E x st ps)(i8:∀(f:Addr) (a_:Value) (A:Around) (outer:List Env) (s:ah) (H:Hp) (Ex:XK),dO k (gd E.P E.w E.K E.mg E.base N x st f a_ A outer s H Ex).A->(gd E.P E.w E.K E.mg E.base N x st f a_ A outer s H Ex).A.units+64<iZ->N.Nodup->jT (gd E.P E.w E.K E.mg E.base N x st f a_ A outer s H Ex) (kO st) g)
 (S:i7 N ps (ig st):=by exact uk (by decide +kernel)) (hn:ps.length=n:=by rfl) (hm:N.length=m:=by rfl):kf E (k+1) x ps (jN n m g):=mkF u S hn hm i8
end
def wb{α:Type}{o:Option α}{c:α}(h:o=some c):o.isSome=true:=by rw[h];rfl
def a1p{P:aS}{w:aR}{K:aE}{mg:Str->Option Value}{k:Nat}{a:Addr}{d:cB}{φ:List D->R D}{st:Stmt}(_U:mP K "law" "law" st a d)(hB:∀(s:ah) (v:Value),BindsTo s d ⟨[v],[]⟩ [("script",v)])(F:∀base:Heap,K.In base->base.Ns dw mg->g8 P w K mg base k a d ["script"] φ) :
 ∃fd:cB,(∀(s:ah) (v:Value),BindsTo s fd ⟨[v],[]⟩ [("script",v)])/\∀base:Heap,K.In base->base.Ns dw mg->jH P w K mg base (nC P w) k a fd ["script"] (vX φ K):=⟨d,hB,λbase h1 h2=>(F base h1 h2).okN⟩
def lu(E:Ev)(k:Nat)(x:Str)(ps:List Str)(i:Nat)(φ:List D->R (D×List D)):Prop:=∃(a:Addr) (d:cB),pN E.P E.w E.K E.mg E.base k a d ps i φ/\E.mg x=some (.ref a)
section
variable {E:Ev}{k k':Nat}{x:Str}{st:Stmt}{N ps:List Str}
def lu.up{i:Nat}{φ:List D->R (D×List D)}(h:lu E k x ps i φ)(hk:k<=k'):∃(a:Addr) (d:cB),pN E.P E.w E.K E.mg E.base k' a d ps i φ/\E.mg x=some (.ref a):=let ⟨a,d,f,m⟩:=h;⟨a,d,f.mono hk,m⟩
def mkM{n m i:Nat}{g:G->R (D×List D)}(u:Own E x st ps)(S:i7 N ps (ig st))(hn:ps.length=n)(hm:N.length=m)
 (i8:∀(f:Addr) (a_:Value) (A:Around) (outer:List Env) (s:ah) (H:Hp) (Ex:XK),dO k (gd E.P E.w E.K E.mg E.base N x st f a_ A outer s H Ex).A->(gd E.P E.w E.K E.mg E.base N x st f a_ A outer s H Ex).A.units+64<iZ->N.Nodup->zo (gd E.P E.w E.K E.mg E.base N x st f a_ A outer s H Ex) i (kO st) g):lu E (k+1) x ps i (m_ n m i g):=by
 subst hn hm
 obtain⟨a,d,Fu,hb,mm⟩:=u
 exact⟨a,d,QS Fu S hb (λds h=>Mn h) λa_ A outer s H Ex hr=>⟨g,i8 a a_ A outer s H Ex hr hr.units S.nd,λas ws bs hi bS _=>(tj hi (Mn bS)).symm⟩,mm⟩
def lu.aU{i:Nat}{φ:List D->R (D×List D)}(h:lu E k x ps i φ)(k':Nat)(hk:k<=k':=by lia):∃(a:Addr) (d:cB),pN E.P E.w E.K E.mg E.base k' a d ps i φ/\E.mg x=some (.ref a):=h.up hk
def HW(N:List Str){i:Nat}(u:Own E x st ps)(S:i7 N ps (ig st):=by exact uk (by decide +kernel)):lu E (k+1) x ps i (λ_=>.no):=let ⟨a,d,Fu,hb,m⟩:=u;⟨a,d,w8r Fu S hb,m⟩
def wc(N:List Str){n m i:Nat}{g:G->R (D×List D)}(u:Own E x st ps)(i8:∀(f:Addr) (a_:Value) (A:Around) (outer:List Env) (s:ah) (H:Hp) (Ex:XK),dO k (gd E.P E.w E.K E.mg E.base N x st f a_ A outer s H Ex).A->(gd E.P E.w E.K E.mg E.base N x st f a_ A outer s H Ex).A.units+64<iZ->N.Nodup->zo (gd E.P E.w E.K E.mg E.base N x st f a_ A outer s H Ex) i (kO st) g)
 (S:i7 N ps (ig st):=by exact uk (by decide +kernel)) (hn:ps.length=n:=by rfl) (hm:N.length=m:=by rfl):lu E (k+1) x ps i (m_ n m i g):=mkM u S hn hm i8
end
end L3
namespace Row
open PySem PySem.Spec PyProof.Rows L2 L3
def top(i:Nat):Stmt:=PySem.Challenge.pw_longrounds_k83_desk_leads_and_undoes.main.body.getD i (.Pass ⟨0,0,0,0⟩)
abbrev HX:Stmt:=top 94
def QU:i7 ["script","P","many","names","items","n","stand","asked","bad","text","handed","found","refused","due"] ["script"] (ig HX):=uk (by decide +kernel)
noncomputable def fR(x:Str)(i:Nat)(m:Str)(t:Tok)(c:Addr):Obj:=HQ.fO x (top i) (.str m t) (.ref c)
abbrev uo:Str:="longrounds.numbers"
abbrev sj:Str:="longrounds.tables"
abbrev wd:Str:="longrounds.making"
abbrev md3:Str:="longrounds.solving"
abbrev zr:Str:="longrounds.backs"
abbrev md5:Str:="longrounds.programs"
abbrev jk:Str:="longrounds.texts"
abbrev HY:Str:="longrounds.desk"
abbrev lz:Str:="law_longrounds_k83_desk_leads_and_undoes"
noncomputable def KK(P:oP):aE :=
 (nat_lit 3,⟨(.type "dict"),none,.dict (HQ.en P "__name__" 165 (.str "law_longrounds_k83_desk_leads_and_undoes" 777)::HQ.en P "__doc__" 166 .none::HQ.en P "__package__" 167 .none::HQ.en P "__loader__" 168 (.builtin "__main__.__loader__#opaque")::HQ.en P "__spec__" 169 .none::HQ.er P "__annotations__" 170 6::HQ.er P "__builtins__" 171 4::HQ.en P "__file__" 173 (.str "/claim/cut.py" 172)::HQ.en P "__cached__" 174 .none::HQ.er P "LongError" 206 24::HQ.er P "NoPrime" 222 37::HQ.er P "NoNumber" 238 49::HQ.er P "NoProgram" 254 61::HQ.er P "Lossy" 270 73::HQ.er P "NoText" 286 85::HQ.en P "LEAST_PRIME" 290 (.int 3 289)::HQ.en P "GREATEST_PRIME" 292 (.int 9999 291)::HQ.er P "is_whole" 299 94::HQ.er P "least_divisor" 307 101::HQ.er P "is_from" 316 108::HQ.er P "is_prime" 323 115::HQ.er P "prime" 330 122::HQ.er P "on" 338 129::HQ.er P "back" 348 136::HQ.er P "worth" 356 141::HQ.er P "turned" 362 146::HQ.er P "one_at" 368 151::HQ.er P "idle" 374 156::HQ.er P "column_sum" 380 161::HQ.er P "form_ahead" 386 166::HQ.er P "then" 392 171::HQ.er P "setting" 402 178::HQ.er P "ladder" 416 185::HQ.er P "rungs_for" 422 190::HQ.er P "rounds" 433 197::HQ.er P "table_of_item" 442 204::HQ.er P "table_of" 453 211::HQ.er P "after" 464 218::HQ.er P "times" 472 223::HQ.er P "undone_form" 485 230::HQ.er P "undone_set" 494 237::HQ.er P "undone_again" 504 244::HQ.er P "undone_item" 513 251::HQ.er P "undone" 519 256::HQ.en P "MOST_BOXES" 523 (.int 3 522)::HQ.en P "MOST_ITEMS" 525 (.int 30 524)::HQ.en P "MOST_DEEP" 527 (.int 3 526)::HQ.er P "items_counted" 537 263::HQ.er P "made_set" 543 268::HQ.er P "made_again" 554 275::HQ.er P "made_item" 564 282::HQ.er P "made_items" 570 287::HQ.er P "program" 579 294::HQ.en P "FIGURES" 583 (.str "0123456789" 582)::HQ.en P "MOST_FIGURES" 585 (.int 31 584)::HQ.en P "LETTERS" 587 (.str "abcdefghijklmnopqrstuvwxyz" 586)::HQ.en P "MOST_LETTERS" 589 (.int 8 588)::HQ.er P "written" 595 299::HQ.er P "words_of_item" 603 306::HQ.er P "words_of" 613 313::HQ.er P "show" 619 318::HQ.er P "is_made_of" 625 323::HQ.er P "number_from" 632 330::HQ.er P "number_on_wheel" 641 337::HQ.er P "taken" 647 342::HQ.er P "take_sign" 655 349::HQ.er P "set_from" 661 354::HQ.er P "again_from" 673 361::HQ.er P "item_from" 684 368::HQ.er P "items_from" 695 375::HQ.er P "words_behind" 704 382::HQ.er P "read_prime" 712 389::HQ.er P "is_name" 719 396::HQ.er P "read_names" 725 401::HQ.er P "read_items" 736 408::HQ.er P "read" 746 415::HQ.er P "stand_from" 754 420::HQ.er P "leads" 766 427::HQ.er P "undo" 776 434::HQ.er P "_law_cell" 786 441::HQ.er P "_law_prime" 792 446::HQ.er P "_law_digits" 803 453::HQ.er P "_law_whole" 810 460::HQ.er P "_law_count" 817 467::HQ.er P "_law_set" 829 474::HQ.er P "_law_items" 844 481::HQ.er P "_law_names" 860 488::HQ.er P "_law_words" 866 493::HQ.er P "_law_text" 876 500::HQ.er P "_law_first_lossy" 885 507::HQ.er P "_law_odd_stand" 896 514::HQ.er P "_law_led" 908 521::HQ.er P "_law_back" 918 528::HQ.er P "law" 924 533::[]).toArray 94,#[]⟩) ::
 (nat_lit 23,⟨(.type "dict"),none,.dict (HQ.en P "__module__" 196 (.str "longrounds.errors" 187)::HQ.en P "__firstlineno__" 200 (.int 2 199)::HQ.en P "__static_attributes__" 201 (.ref 22)::HQ.en P "__weakref__" 203 (.ref 25)::HQ.en P "__doc__" 204 .none::[]).toArray 3,#[]⟩) ::
 (nat_lit 24,⟨(.type "type"),none,.cls { name:="LongError",bases:=[(.type "ValueError")],mro:=[(.ref 24),(.type "ValueError"),(.type "Exception"),(.type "BaseException"),(.type "object")],ns:=23,qualname:="LongError",hasDict:=true,slotNames:=[],subclasses:=[(.ref 37),(.ref 49),(.ref 61),(.ref 73),(.ref 85)],abstract:=false,collection:=none,hasDel:=false },([some (.ref 15),none,some (.str "LongError" 189),some (.str "LongError" 197),some (.builtin "ValueError.__new__"),some (.bool true)]).toArray⟩) ::
 (nat_lit 36,HQ.xd P 214 187 4 35) ::
 (nat_lit 37,HQ.xk "NoPrime" 24 37 36 28 207 215) ::
 (nat_lit 48,HQ.xd P 230 187 6 47) ::
 (nat_lit 49,HQ.xk "NoNumber" 24 49 48 40 223 231) ::
 (nat_lit 60,HQ.xd P 246 187 8 59) ::
 (nat_lit 61,HQ.xk "NoProgram" 24 61 60 52 239 247) ::
 (nat_lit 72,HQ.xd P 262 187 10 71) ::
 (nat_lit 73,HQ.xk "Lossy" 24 73 72 64 255 263) ::
 (nat_lit 84,HQ.xd P 278 187 12 83) ::
 (nat_lit 85,HQ.xk "NoText" 24 85 84 76 271 279) ::
 (nat_lit 93,HQ.cP "is_whole" 293 17 1 88 297) ::
 (nat_lit 94,fR "is_whole" 10 uo 287 93) ::
 (nat_lit 100,HQ.cP "least_divisor" 300 19 1 95 305) ::
 (nat_lit 101,fR "least_divisor" 11 uo 287 100) ::
 (nat_lit 107,HQ.cP "is_from" 308 26 3 102 314) ::
 (nat_lit 108,fR "is_from" 12 uo 287 107) ::
 (nat_lit 114,HQ.cP "is_prime" 317 28 1 109 321) ::
 (nat_lit 115,fR "is_prime" 13 uo 287 114) ::
 (nat_lit 121,HQ.cP "prime" 324 30 1 116 328) ::
 (nat_lit 122,fR "prime" 14 uo 287 121) ::
 (nat_lit 128,HQ.cP "on" 331 34 2 123 336) ::
 (nat_lit 129,fR "on" 15 uo 287 128) ::
 (nat_lit 135,HQ.cP "back" 339 36 2 130 346) ::
 (nat_lit 136,fR "back" 16 uo 287 135) ::
 (nat_lit 140,HQ.cR "worth" 351 46 3 137 354) ::
 (nat_lit 141,fR "worth" 18 sj 349 140) ::
 (nat_lit 145,HQ.cR "turned" 357 49 3 142 360) ::
 (nat_lit 146,fR "turned" 19 sj 349 145) ::
 (nat_lit 150,HQ.cR "one_at" 363 51 2 147 366) ::
 (nat_lit 151,fR "one_at" 20 sj 349 150) ::
 (nat_lit 155,HQ.cR "idle" 369 53 1 152 372) ::
 (nat_lit 156,fR "idle" 21 sj 349 155) ::
 (nat_lit 160,HQ.cR "column_sum" 375 55 3 157 378) ::
 (nat_lit 161,fR "column_sum" 22 sj 349 160) ::
 (nat_lit 165,HQ.cR "form_ahead" 381 57 3 162 384) ::
 (nat_lit 166,fR "form_ahead" 23 sj 349 165) ::
 (nat_lit 170,HQ.cR "then" 387 62 3 167 390) ::
 (nat_lit 171,fR "then" 24 sj 349 170) ::
 (nat_lit 177,HQ.cP "setting" 393 64 3 172 400) ::
 (nat_lit 178,fR "setting" 25 sj 349 177) ::
 (nat_lit 184,HQ.cP "ladder" 405 69 3 179 414) ::
 (nat_lit 185,fR "ladder" 27 wd 403 184) ::
 (nat_lit 189,HQ.cR "rungs_for" 417 76 2 186 420) ::
 (nat_lit 190,fR "rungs_for" 28 wd 403 189) ::
 (nat_lit 196,HQ.cP "rounds" 423 78 3 191 431) ::
 (nat_lit 197,fR "rounds" 29 wd 403 196) ::
 (nat_lit 203,HQ.cP "table_of_item" 434 83 3 198 440) ::
 (nat_lit 204,fR "table_of_item" 30 wd 403 203) ::
 (nat_lit 210,HQ.cP "table_of" 443 87 3 205 451) ::
 (nat_lit 211,fR "table_of" 31 wd 403 210) ::
 (nat_lit 217,HQ.cP "after" 454 92 5 212 462) ::
 (nat_lit 218,fR "after" 32 wd 403 217) ::
 (nat_lit 222,HQ.cR "times" 467 95 3 219 470) ::
 (nat_lit 223,fR "times" 34 md3 465 222) ::
 (nat_lit 229,HQ.cP "undone_form" 475 98 3 224 483) ::
 (nat_lit 230,fR "undone_form" 36 zr 473 229) ::
 (nat_lit 236,HQ.cP "undone_set" 486 103 3 231 492) ::
 (nat_lit 237,fR "undone_set" 37 zr 473 236) ::
 (nat_lit 243,HQ.cP "undone_again" 495 107 4 238 502) ::
 (nat_lit 244,fR "undone_again" 38 zr 473 243) ::
 (nat_lit 250,HQ.cP "undone_item" 505 111 3 245 511) ::
 (nat_lit 251,fR "undone_item" 39 zr 473 250) ::
 (nat_lit 255,HQ.cR "undone" 514 115 3 252 517) ::
 (nat_lit 256,fR "undone" 40 zr 473 255) ::
 (nat_lit 262,HQ.cP "items_counted" 528 121 2 257 535) ::
 (nat_lit 263,fR "items_counted" 45 md5 520 262) ::
 (nat_lit 267,HQ.cR "made_set" 538 130 4 264 541) ::
 (nat_lit 268,fR "made_set" 46 md5 520 267) ::
 (nat_lit 274,HQ.cP "made_again" 544 136 5 269 552) ::
 (nat_lit 275,fR "made_again" 47 md5 520 274) ::
 (nat_lit 281,HQ.cP "made_item" 555 142 4 276 562) ::
 (nat_lit 282,fR "made_item" 48 md5 520 281) ::
 (nat_lit 286,HQ.cR "made_items" 565 146 4 283 568) ::
 (nat_lit 287,fR "made_items" 49 md5 520 286) ::
 (nat_lit 293,HQ.cP "program" 571 148 3 288 577) ::
 (nat_lit 294,fR "program" 50 md5 520 293) ::
 (nat_lit 298,HQ.cR "written" 590 159 1 295 593) ::
 (nat_lit 299,fR "written" 56 jk 580 298) ::
 (nat_lit 305,HQ.cP "words_of_item" 596 161 2 300 601) ::
 (nat_lit 306,fR "words_of_item" 57 jk 580 305) ::
 (nat_lit 312,HQ.cP "words_of" 604 165 2 307 611) ::
 (nat_lit 313,fR "words_of" 58 jk 580 312) ::
 (nat_lit 317,HQ.cR "show" 614 170 3 314 617) ::
 (nat_lit 318,fR "show" 59 jk 580 317) ::
 (nat_lit 322,HQ.cR "is_made_of" 620 173 3 319 623) ::
 (nat_lit 323,fR "is_made_of" 60 jk 580 322) ::
 (nat_lit 329,HQ.cP "number_from" 626 175 1 324 630) ::
 (nat_lit 330,fR "number_from" 61 jk 580 329) ::
 (nat_lit 336,HQ.cP "number_on_wheel" 633 179 2 331 639) ::
 (nat_lit 337,fR "number_on_wheel" 62 jk 580 336) ::
 (nat_lit 341,HQ.cR "taken" 642 184 2 338 645) ::
 (nat_lit 342,fR "taken" 63 jk 580 341) ::
 (nat_lit 348,HQ.cP "take_sign" 648 188 2 343 653) ::
 (nat_lit 349,fR "take_sign" 64 jk 580 348) ::
 (nat_lit 353,HQ.cR "set_from" 656 191 3 350 659) ::
 (nat_lit 354,fR "set_from" 65 jk 580 353) ::
 (nat_lit 360,HQ.cP "again_from" 662 197 4 355 671) ::
 (nat_lit 361,fR "again_from" 66 jk 580 360) ::
 (nat_lit 367,HQ.cP "item_from" 674 205 4 362 682) ::
 (nat_lit 368,fR "item_from" 67 jk 580 367) ::
 (nat_lit 374,HQ.cP "items_from" 685 212 4 369 693) ::
 (nat_lit 375,fR "items_from" 68 jk 580 374) ::
 (nat_lit 381,HQ.cP "words_behind" 696 217 2 376 702) ::
 (nat_lit 382,fR "words_behind" 69 jk 580 381) ::
 (nat_lit 388,HQ.cP "read_prime" 705 222 1 383 710) ::
 (nat_lit 389,fR "read_prime" 70 jk 580 388) ::
 (nat_lit 395,HQ.cP "is_name" 713 229 1 390 717) ::
 (nat_lit 396,fR "is_name" 71 jk 580 395) ::
 (nat_lit 400,HQ.cR "read_names" 720 231 1 397 723) ::
 (nat_lit 401,fR "read_names" 72 jk 580 400) ::
 (nat_lit 407,HQ.cP "read_items" 726 237 3 402 734) ::
 (nat_lit 408,fR "read_items" 73 jk 580 407) ::
 (nat_lit 414,HQ.cP "read" 737 246 1 409 744) ::
 (nat_lit 415,fR "read" 74 jk 580 414) ::
 (nat_lit 419,HQ.cR "stand_from" 749 254 3 416 752) ::
 (nat_lit 420,fR "stand_from" 76 HY 747 419) ::
 (nat_lit 426,HQ.cP "leads" 755 258 3 421 764) ::
 (nat_lit 427,fR "leads" 77 HY 747 426) ::
 (nat_lit 433,HQ.cP "undo" 767 263 1 428 774) ::
 (nat_lit 434,fR "undo" 78 HY 747 433) ::
 (nat_lit 440,HQ.cP "_law_cell" 779 269 2 435 784) ::
 (nat_lit 441,fR "_law_cell" 80 lz 777 440) ::
 (nat_lit 445,HQ.cR "_law_prime" 787 273 1 442 790) ::
 (nat_lit 446,fR "_law_prime" 81 lz 777 445) ::
 (nat_lit 452,HQ.cP "_law_digits" 793 280 3 447 801) ::
 (nat_lit 453,fR "_law_digits" 82 lz 777 452) ::
 (nat_lit 466,HQ.cP "_law_count" 811 288 1 461 815) ::
 (nat_lit 467,fR "_law_count" 84 lz 777 466) ::
 (nat_lit 473,HQ.cP "_law_set" 818 290 4 468 827) ::
 (nat_lit 474,fR "_law_set" 85 lz 777 473) ::
 (nat_lit 480,HQ.cP "_law_items" 830 296 4 475 842) ::
 (nat_lit 481,fR "_law_items" 86 lz 777 480) ::
 (nat_lit 487,HQ.cP "_law_names" 845 310 3 482 858) ::
 (nat_lit 488,fR "_law_names" 87 lz 777 487) ::
 (nat_lit 492,HQ.cR "_law_words" 861 325 2 489 864) ::
 (nat_lit 493,fR "_law_words" 88 lz 777 492) ::
 (nat_lit 499,HQ.cP "_law_text" 867 333 3 494 874) ::
 (nat_lit 500,fR "_law_text" 89 lz 777 499) ::
 (nat_lit 506,HQ.cP "_law_first_lossy" 877 336 1 501 883) ::
 (nat_lit 507,fR "_law_first_lossy" 90 lz 777 506) ::
 (nat_lit 513,HQ.cP "_law_odd_stand" 886 345 3 508 894) ::
 (nat_lit 514,fR "_law_odd_stand" 91 lz 777 513) ::
 (nat_lit 520,HQ.cP "_law_led" 897 355 3 515 906) ::
 (nat_lit 521,fR "_law_led" 92 lz 777 520) ::
 (nat_lit 527,HQ.cP "_law_back" 909 363 1 522 916) ::
 (nat_lit 528,fR "_law_back" 93 lz 777 527) ::
 (nat_lit 532,HQ.cR "law" 919 371 1 529 922) ::
 (nat_lit 533,fR "law" 94 lz 777 532)::[]
def ks:List Addr:=[3,23,24,36,37,48,49,60,61,72,73,84,85,93,94,100,101,107,108,114,115,121,122,128,129,135,136,140,141,145,146,150,151,155,156,160,161,165,166,170,171,177,178,184,185,189,190,196,197,203,204,210,211,217,218,222,223,229,230,236,237,243,244,250,251,255,256,262,263,267,268,274,275,281,282,286,287,293,294,298,299,305,306,312,313,317,318,322,323,329,330,336,337,341,342,348,349,353,354,360,361,367,368,374,375,381,382,388,389,395,396,400,401,407,408,414,415,419,420,426,427,433,434,440,441,445,446,452,453,466,467,473,474,480,481,487,488,492,493,499,500,506,507,513,514,520,521,527,528,532,533]
structure Bi (E:Ev):Prop where
 ba:E.mg "ValueError"=none
 bb:E.mg "all"=none
 bc:E.mg "any"=none
 bd:E.mg "bool"=none
 be:E.mg "enumerate"=none
 bf:E.mg "int"=none
 bg:E.mg "isinstance"=none
 bh:E.mg "len"=none
 bi:E.mg "list"=none
 bj:E.mg "max"=none
 bk:E.mg "min"=none
 bl:E.mg "range"=none
 bm:E.mg "reversed"=none
 bn:E.mg "set"=none
 bo:E.mg "str"=none
 bp:E.mg "sum"=none
 bq:E.mg "tuple"=none
 br:E.mg "FIGURES"=some (.str "0123456789" 582)
 bs:E.mg "GREATEST_PRIME"=some (.int 9999 291)
 bt:E.mg "LEAST_PRIME"=some (.int 3 289)
 bu:E.mg "LETTERS"=some (.str "abcdefghijklmnopqrstuvwxyz" 586)
 bv:E.mg "MOST_BOXES"=some (.int 3 522)
 bw:E.mg "MOST_DEEP"=some (.int 3 526)
 bx:E.mg "MOST_FIGURES"=some (.int 31 584)
 bz:E.mg "MOST_ITEMS"=some (.int 30 524)
 ca:E.mg "MOST_LETTERS"=some (.int 8 588)
 cb:E.mg "NoPrime"=some (.ref 37)
 cc:E.mg "NoNumber"=some (.ref 49)
 cd:E.mg "NoProgram"=some (.ref 61)
 ce:E.mg "Lossy"=some (.ref 73)
 cf:E.mg "NoText"=some (.ref 85)
 cg:E.mg "LongError"=some (.ref 24)
 ch:oI E.K E.mg .gO 73
 ci:oI E.K E.mg .o5 49
 cj:oI E.K E.mg .qc 37
 ck:oI E.K E.mg .kP 61
 cl:oI E.K E.mg .dZ 85
 cm:ue E.K (.ref 73) .gO
 cn:ue E.K (.ref 85) .dZ
 co:ue E.K (.type "ValueError") .xM
 cp:ke E.K 24
 cq:∀(c:Er) (C:Addr),E.mg c.nm=some (.ref C)->ir E.K dw c.nm=some (some (.ref C))/\uv E.K C (.ref 24)=some true
section
variable {E:Ev}(B:Bi E)
abbrev HZ (E:Ev):Prop:=bQ E 1 "is_made_of" ["word","signs","most"] tH
abbrev Cu (E:Ev):Prop:=bQ E 2 "number_from" ["word"] yh
abbrev Cv (E:Ev):Prop:=lu E 1 "taken" ["words","count"] 0 rS
abbrev QV (E:Ev):Prop:=lu E 2 "take_sign" ["words","sign"] 0 Bn
abbrev QW (E:Ev):Prop:=bQ E 3 "number_on_wheel" ["P","word"] E0
abbrev QX (E:Ev):Prop:=lu E 4 "set_from" ["P","names","words"] 2 E5
abbrev h_t (E:Ev):Prop:=lu E 16 "items_from" ["P","names","words","around"] 2 (pk 12)
abbrev QY (E:Ev):Prop:=bQ E 1 "is_whole" ["thing"] Ba
abbrev we (E:Ev):Prop:=bQ E 2 "is_from" ["thing","least","most"] pf
abbrev h_e (E:Ev):Prop:=bQ E 13 "items_counted" ["items","ahead"] (vw 12)
abbrev wg (E:Ev):Prop:=bQ E 1 "on" ["P","n"] pe
abbrev QZ (E:Ev):Prop:=bQ E 3 "made_set" ["P","many","x","form"] EL
abbrev h_q (E:Ev):Prop:=bQ E 15 "made_items" ["P","many","items","around"] (pj 12)
abbrev Q2 (E:Ev):Prop:=bQ E 1 "least_divisor" ["n"] Es
abbrev H0 (E:Ev):Prop:=bQ E 3 "is_prime" ["thing"] Bb
abbrev Q3 (E:Ev):Prop:=bQ E 4 "prime" ["thing"] Et
abbrev Q4 (E:Ev):Prop:=bQ E 16 "program" ["P","many","items"] Bk
abbrev Q5 (E:Ev):Prop:=bQ E 17 "read_items" ["P","names","words"] Bo
abbrev Q6 (E:Ev):Prop:=bQ E 2 "is_name" ["word"] yi
abbrev Q7 (E:Ev):Prop:=bQ E 3 "read_names" ["words"] Fe
abbrev Q8 (E:Ev):Prop:=bQ E 4 "read_prime" ["words"] Ff
abbrev Q9 (E:Ev):Prop:=kf E 1 "words_behind" ["row","first"] vA
abbrev H4 (E:Ev):Prop:=bQ E 18 "read" ["text"] rV
abbrev H8 (E:Ev):Prop:=kf E 1 "written" ["numbers"] yj
abbrev h_I (E:Ev):Prop:=kf E 13 "words_of" ["names","items"] (tI 12)
abbrev Q_ (E:Ev):Prop:=bQ E 14 "show" ["P","names","items"] Fj
abbrev Ra (E:Ev):Prop:=bQ E 2 "back" ["P","n"] vn
abbrev Rb (E:Ev):Prop:=bQ E 2 "times" ["P","row","number"] FC
abbrev Rc (E:Ev):Prop:=bQ E 3 "undone_form" ["P","x","form"] FE
abbrev Rf (E:Ev):Prop:=bQ E 4 "undone_set" ["P","x","form"] FG
abbrev Rg (E:Ev):Prop:=bQ E 16 "undone" ["P","many","items"] (oo 12)
abbrev Rh (E:Ev):Prop:=bQ E 19 "undo" ["text"] vK
abbrev Ri (E:Ev):Prop:=bQ E 20 "_law_back" ["text"] BI
abbrev Rj (E:Ev):Prop:=bQ E 1 "_law_cell" ["script","k"] nc
abbrev H9 (E:Ev):Prop:=bQ E 1 "_law_count" ["cell"] Bd
abbrev H_ (E:Ev):Prop:=bQ E 1 "_law_digits" ["cell","P","size"] tq
abbrev h_a (E:Ev):Prop:=bQ E 13 "_law_first_lossy" ["items"] (tN 12)
abbrev Rk (E:Ev):Prop:=bQ E 2 "_law_set" ["cell","more","P","many"] Ew
abbrev Rl (E:Ev):Prop:=bQ E 3 "_law_items" ["cells","P","many","agains"] Be
abbrev Rm (E:Ev):Prop:=bQ E 1 "one_at" ["width","place"] Ea
abbrev Cw (E:Ev):Prop:=bQ E 2 "idle" ["many"] ya
abbrev Rn (E:Ev):Prop:=bQ E 1 "column_sum" ["form","table","place"] D9
abbrev Ro (E:Ev):Prop:=bQ E 2 "form_ahead" ["P","table","form"] D_
abbrev Cy (E:Ev):Prop:=bQ E 3 "then" ["P","one","other"] x_
abbrev Rp (E:Ev):Prop:=kf E 4 "ladder" ["P","table","n"] Ez
abbrev Rq (E:Ev):Prop:=kf E 1 "rungs_for" ["rungs","n"] EA
abbrev Ia (E:Ev):Prop:=bQ E 5 "rounds" ["P","table","n"] Bf
abbrev Rr (E:Ev):Prop:=bQ E 3 "setting" ["many","x","form"] Eb
abbrev h_J (E:Ev):Prop:=bQ E 17 "table_of" ["P","many","items"] (rM 12)
abbrev Rt (E:Ev):Prop:=bQ E 2 "worth" ["P","form","stand"] xZ
abbrev Ru (E:Ev):Prop:=bQ E 3 "turned" ["P","table","stand"] A5
abbrev Ib (E:Ev):Prop:=bQ E 18 "after" ["P","many","items","n","stand"] Bg
abbrev Rw (E:Ev):Prop:=bQ E 3 "stand_from" ["P","many","numbers"] BA
abbrev Ic (E:Ev):Prop:=bQ E 19 "leads" ["text","n","stand"] qp
abbrev Rx (E:Ev):Prop:=bQ E 20 "_law_led" ["text","n","stand"] yy
abbrev Ry (E:Ev):Prop:=bQ E 1 "_law_names" ["cell","more","many"] EW
abbrev Rz (E:Ev):Prop:=bQ E 1 "_law_odd_stand" ["stand","cell","P"] FX
abbrev RA (E:Ev):Prop:=bQ E 1 "_law_prime" ["cell"] A4
abbrev h_s (E:Ev):Prop:=kf E 13 "_law_words" ["names","items"] (vz 12)
abbrev RB (E:Ev):Prop:=bQ E 14 "_law_text" ["P","names","items"] Bm
def f_o(B:Bi E)(u_o:Own E "is_made_of" (top 60) ["word","signs","most"]):HZ E:=by
 exact cy ["word","signs","most"] u_o λ_ _ _ _ _ _ _ hr hu nd=>(aL (bF (qt (mi yD aA (eY Qm B.bh (by decide +kernel) (ak (af 0) av)) (bN _)) (qt (mi yD (eY Qm B.bh (by decide +kernel) (ak (af 0) av)) (af 2) (bN _)) (vQ (eY (Hu rfl) B.bb (by decide +kernel) (ak (PF.pd (jC (w0r (af 0)) (jf (λ_ _ _ _ _=>(PD.ro (mi w7q (af 0) (af 2) rfl)))) nd rfl)) av)))))))
def f_i(B:Bi E)(u_i:Own E "number_from" (top 61) ["word"])(wj:HZ E):Cu E:=by
 obtain⟨_,_,Ie,Ig⟩:=wj.aU 1
 exact cy ["word"] u_i λ_ _ _ _ _ _ _ hr hu nd=>(aK (cZ (iU.pt (qr (pB (nA (a8 Ie hr Ig (ak (af 0) (ak (QR B.br ⟨_,rfl⟩) (ak (qA B.bx ⟨_,rfl⟩) av)))))) (vP (iU.pt (tR (b9 (fi hu) (Qn (af 0) aA) bI (bN _)) (vO (b9 (je hu) (af 0) bI (bN _)))))))) (aL (jj B.cl bI rfl)) da)
  (aL (bF (fj w6i B.bf (by decide +kernel) (ak (af 0) av)))))
def f_V(B:Bi E)(u_V:Own E "taken" (top 63) ["words","count"]):Cv E:=by
 exact wc ["words","count"] u_V λ_ _ _ _ _ _ _ hr hu nd=>(PW.e (nP (HC (b9 BO (eY iD B.bh (by decide +kernel) (ak (af 0) av)) (af 1) (bN _)) HP HB)
  (w4o (af 1) (λ_ _ _ _ _=>w9q 1) nd rfl B.bl)))
def f_z(u_z:Own E "take_sign" (top 64) ["words","sign"])(qF:Cv E):QV E:=by
 obtain⟨_,_,uq,ur⟩:=qF.aU 1
 exact wc ["words","sign"] u_z λ_ _ _ _ _ _ _ hr hu nd=>(qD.e (Qi (x6p (je hu) (nO uq hr ur (nM 0 rfl (eQ (PD.ro aA) iG))) (PF.pd (dJ (ak (af 1) av))))))
def f_b(B:Bi E)(u_b:Own E "number_on_wheel" (top 62) ["P","word"])(qG:Cu E):QW E:=by
 obtain⟨_,_,zt,zu⟩:=qG.aU 2
 exact cy ["P","word","n"] u_b λ_ _ _ _ _ _ _ hr hu nd=>(aK (bV 2 (PD.ro (a8 zt hr zu (ak (af 1) av))) nd)
  (aK (cZ (b9 Gh (af 2) (af 0) (bN _)) (aL (jj B.cl bI rfl)) da)
  (aL (bF (af 2)))))
def f_E(B:Bi E)(u_E:Own E "set_from" (top 65) ["P","names","words"])(Ih:QW E)(qF:Cv E):QX E:=by
 obtain⟨_,_,F_b,m_b⟩:=Ih.aU 3
 obtain⟨_,_,uq,ur⟩:=qF.aU 3
 exact wc ["P","names","words","name","form"] u_E λ_ _ _ _ _ _ _ hr hu nd=>(PW.e (nP (zl 3 (HJ (nO uq hr ur (nM 2 rfl (eQ (PD.ro aA) iG))) aA) nd)
  (nP (HC (b9 (QN hu) (af 3) (af 1) rfl) HP HB)
  (nP (x0g 4 (nO uq hr ur (nM 2 rfl (eQ (PD.ro (aP fh (eY iD B.bh (by decide +kernel) (ak (af 1) av)) aA)) iG))) (jf (λ_ _ _ _ _=>(PD.ro (ou F_b hr m_b (ak (af 1) (ak (af 0) av)))))) nd rfl)
  (HE (PL (eQ (PD.ro bI) (eQ (PD.ro (x6x (af 1) (af 3))) (eQ (PD.ro (fj ik B.bq (by decide +kernel) (ak (af 4) av))) iG)))))))))
def y8x(B:Bi E)(RC:Own E "again_from" (top 66) ["P","names","words","around"])(RD:Own E "item_from" (top 67) ["P","names","words","around"])(RE:Own E "items_from" (top 68) ["P","names","words","around"])(qG:Cu E)(Ii:QV E)(qF:Cv E)(Ij:QX E):∀n:Nat,lu E (4+n) "again_from" ["P","names","words","around"] 2 (rT n)/\lu E (4+n) "item_from" ["P","names","words","around"] 2 (rU n)/\lu E (4+n) "items_from" ["P","names","words","around"] 2 (pk n):=by
 intro n
 induction n with
 | zero=>exact⟨HW (k:=3) ["P","names","words","around","n","items"] RC,HW (k:=3) ["P","names","words","around","word"] RD,HW (k:=3) ["P","names","words","around","items"] RE⟩
 | succ n ih =>
   obtain⟨⟨_,_,a1q,a1r⟩,⟨_,_,a1s,a1t⟩,⟨_,_,Ik,Il⟩⟩:=ih
   obtain⟨_,_,zt,zu⟩:=qG.aU (4+n)
   obtain⟨_,_,RF,RG⟩:=Ii.aU (4+n)
   obtain⟨_,_,uq,ur⟩:=qF.aU (4+n)
   obtain⟨_,_,F_E,m_E⟩:=Ij.aU (4+n)
   refine⟨?_,?_,?_⟩
   ·exact wc (k:=4+n) ["P","names","words","around","n","items"] RC λ_ _ _ _ _ _ _ hr hu nd=>(PW.e (nP (HC (b9 Gh (af 3) (qA B.bw ⟨_,rfl⟩) (bN _)) HP HB)
   (nP (zl 4 (x6u zt hr zu (HJ (nO uq hr ur (nM 2 rfl (eQ (PD.ro aA) iG))) aA)) nd)
   (nP (QB (nO RF hr RG (nM 2 rfl (eQ (PD.ro bI) iG))))
   (nP (zl 5 (nO Ik hr Il (pO (fM 0) (pO (fM 1) (nM 2 rfl (eQ (PD.ro (aP fh (af 3) aA)) iG))))) nd)
   (nP (QB (nO RF hr RG (nM 2 rfl (eQ (PD.ro bI) iG))))
   (HE (PL (eQ (PD.ro bI) (eQ (fM 4) (eQ (fM 5) iG)))))))))))
   ·exact wc (k:=4+n) ["P","names","words","around","word"] RD λ_ _ _ _ _ _ _ hr hu nd=>(PW.e (nP (zl 4 (HJ (nO uq hr ur (nM 2 rfl (eQ (PD.ro aA) iG))) aA) nd)
   (Qw (b9 (fi hu) (af 4) bI (bN _)) (Qx (nO F_E hr m_E (pO (fM 0) (pO (fM 1) (nM 2 rfl iG)))))
   (Qw (b9 (fi hu) (af 4) bI (bN _)) (Qx (nO a1q hr a1r (pO (fM 0) (pO (fM 1) (nM 2 rfl (eQ (fM 3) iG))))))
   QQ))))
   ·exact wc (k:=4+n) ["P","names","words","around","items"] RE λ_ _ _ _ _ _ _ hr hu nd=>(PW.e (nP (w4r 4 (dJ av) nd)
   (nP (w0p 200 kA (iU.pt (tR (Ho (af 2)) (vO (b9 (je hu) (a7 (af 2) (BL aA)) bI (bN _))))) (Qi (w4t 4 (nO a1s hr a1t (pO (fM 0) (pO (fM 1) (nM 2 rfl (eQ (fM 3) iG))))))))
   (HE (PD.ro (fj ik B.bq (by decide +kernel) (ak (af 4) av)))))))
def f_F(B:Bi E)(u_F:Own E "is_whole" (top 10) ["thing"]):QY E:=by
 exact cy ["thing"] u_F λ_ _ _ _ _ _ _ hr hu nd=>(aL (bF (qt (B7 AN (af 0) B.bg (λI q=>iu I rfl B.bf (by decide +kernel) q) v0o) (vQ (ZJ (B7 AO (af 0) B.bg (λI q=>iu I rfl B.bd (by decide +kernel) q) w8i))))))
def f_N(u_N:Own E "is_from" (top 12) ["thing","least","most"])(Im:QY E):we E:=by
 obtain⟨_,_,F_F,m_F⟩:=Im.aU 1
 exact cy ["thing","least","most"] u_N λ_ _ _ _ _ _ _ hr hu nd=>(aL (bF (qt (a8 F_F hr m_F (ak (af 0) av)) (qt (mi yD (af 1) (af 0) (bN _)) (vQ (mi yD (af 0) (af 2) (bN _)))))))
def f_e(B:Bi E)(RH:Own E "items_counted" (top 45) ["items","ahead"]):∀n:Nat,bQ E (1+n) "items_counted" ["items","ahead"] (vw n):=by
 intro n
 induction n with
 | zero=>exact pP (k:=0) ["items","ahead","count","item"] RH
 | succ n ih =>
   obtain⟨_,_,Io,Ip⟩:=ih
   exact cy (k:=1+n) ["items","ahead","count","item"] RH λ_ _ _ _ _ _ _ hr hu nd=>(aK (bV 2 (PD.ro (af 1)) nd)
   (aK (oH 3 kA rfl (tW (fM 0))
   (aK (bV 2 (PD.ro (aP fh (af 2) aA)) nd)
   (aK (cZ (b9 vR (af 2) (qA B.bz ⟨_,rfl⟩) (bN _)) (aL (jj B.ck bI rfl)) da)
   (aL (cZ (b9 (fi hu) (a7 (af 3) aA) bI (bN _)) (aL (bV 2 (PD.ro (a8 Io hr Ip (ak (a7 (af 3) aA) (ak (af 2) av)))) nd)) da)))) nd)
   (aL (bF (af 2)))))
def a1u(a1v:Own E "on" (top 15) ["P","n"]):wg E:=by
 exact cy ["P","n"] a1v λ_ _ _ _ _ _ _ hr hu nd=>(aL (bF (aP fg (af 1) (af 0))))
def f_D(B:Bi E)(u_D:Own E "made_set" (top 46) ["P","many","x","form"])(kF:we E)(kG:wg E):QZ E:=by
 obtain⟨_,_,qH,qI⟩:=kF.aU 2
 obtain⟨_,_,pQ,pR⟩:=kG.aU 2
 exact cy ["P","many","x","form"] u_D λ_ _ _ _ _ _ _ hr hu nd=>(aK (cZ (pB (nA (a8 qH hr qI (ak (af 2) (ak aA (ak (aP tS (af 1) aA) av)))))) (aL (jj B.ck bI rfl)) da)
  (aK (cZ (b9 (je hu) (eY iD B.bh (by decide +kernel) (ak (af 3) av)) (aP fh (af 1) aA) (bN _)) (aL (jj B.ck bI rfl)) da)
  (aL (bF (iV (ak bI (ak (af 2) (ak (fj ik B.bq (by decide +kernel) (ak (PF.pd (jC (pH (af 3)) (jf (λ_ _ _ _ _=>(PD.ro (ou pQ hr pR (ak (af 1) (ak (af 0) av)))))) nd rfl)) av)) av))))))))
def y8w(B:Bi E)(RI:Own E "made_again" (top 47) ["P","many","n","items","around"])(RJ:Own E "made_item" (top 48) ["P","many","item","around"])(RK:Own E "made_items" (top 49) ["P","many","items","around"])(kF:we E)(Iq:QZ E):∀n:Nat,bQ E (3+n) "made_again" ["P","many","n","items","around"] (rP n)/\bQ E (3+n) "made_item" ["P","many","item","around"] (rQ n)/\bQ E (3+n) "made_items" ["P","many","items","around"] (pj n):=by
 intro n
 induction n with
 | zero=>exact⟨pP (k:=2) ["P","many","n","items","around"] RI,pP (k:=2) ["P","many","item","around"] RJ,pP (k:=2) ["P","many","items","around"] RK⟩
 | succ n ih =>
   obtain⟨⟨_,_,a1w,a1x⟩,⟨_,_,a1y,a1z⟩,⟨_,_,Ir,Iu⟩⟩:=ih
   obtain⟨_,_,qH,qI⟩:=kF.aU (3+n)
   obtain⟨_,_,F_D,m_D⟩:=Iq.aU (3+n)
   refine⟨?_,?_,?_⟩
   ·exact cy (k:=3+n) ["P","many","n","items","around"] RI λ_ _ _ _ _ _ _ hr hu nd=>(aK (cZ (b9 Gh (af 4) (qA B.bw ⟨_,rfl⟩) (bN _)) (aL (jj B.ck bI rfl)) da)
   (aK (cZ (pB (nA (a8 qH hr qI (ak (af 2) (ak aA (ak (aP BN aA aA) av)))))) (aL (jj B.ck bI rfl)) da)
   (aL (bF (iV (ak bI (ak (af 2) (ak (a8 Ir hr Iu (ak (af 0) (ak (af 1) (ak (af 3) (ak (aP fh (af 4) aA) av))))) av))))))))
   ·exact cy (k:=3+n) ["P","many","item","around"] RJ λ_ _ _ _ _ _ _ hr hu nd=>(aK (cZ (b9 (fi hu) (a7 (af 2) aA) bI (bN _)) (aL (bF (a8 F_D hr m_D (ak (af 0) (ak (af 1) (ak (a7 (af 2) aA) (ak (a7 (af 2) aA) av))))))) da)
   (aL (bF (a8 a1w hr a1x (ak (af 0) (ak (af 1) (ak (a7 (af 2) aA) (ak (a7 (af 2) aA) (ak (af 3) av)))))))))
   ·exact cy (k:=3+n) ["P","many","items","around"] RK λ_ _ _ _ _ _ _ hr hu nd=>(aL (bF (fj ik B.bq (by decide +kernel) (ak (PF.pd (jC (mj.rZ (tW (fM 2))) (jf (λ_ _ _ _ _=>(PD.ro (ou a1y hr a1z (ak (af 1) (ak (af 2) (ak (af 0) (ak (af 4) av)))))))) nd rfl)) av))))
def f_d(u_d:Own E "least_divisor" (top 11) ["n"]):Q2 E:=by
 exact cy ["n","divisor"] u_d λ_ _ _ _ _ _ _ hr hu nd=>(aK (bV 1 (PD.ro aA) nd)
  (aK (G7 10000 kA (b9 yD (aP nB (af 1) (af 1)) (af 0) (bN _)) (aK (cZ (b9 (fi hu) (aP fg (af 0) (af 1)) aA (bN _)) (aL (bF (af 1))) da)
  (aL (bV 1 (PD.ro (aP fh (af 1) aA)) nd))))
  (aL (bF (af 0)))))
def f_H(B:Bi E)(u_H:Own E "is_prime" (top 13) ["thing"])(kF:we E)(Iv:Q2 E):H0 E:=by
 obtain⟨_,_,qH,qI⟩:=kF.aU 2
 obtain⟨_,_,F_d,m_d⟩:=Iv.aU 2
 exact cy ["thing"] u_H λ_ _ _ _ _ _ _ hr hu nd=>(aL (bF (qt (a8 qH hr qI (ak (af 0) (ak (qA B.bt ⟨_,rfl⟩) (ak (qA B.bs ⟨_,rfl⟩) av)))) (vQ (mi (fi hu) (a8 F_d hr m_d (ak (af 0) av)) (af 0) (bN _))))))
def f_X(B:Bi E)(u_X:Own E "prime" (top 14) ["thing"])(wm:H0 E):Q3 E:=by
 obtain⟨_,_,Iw,Iy⟩:=wm.aU 3
 exact cy ["thing"] u_X λ_ _ _ _ _ _ _ hr hu nd=>(aK (cZ (pB (nA (a8 Iw hr Iy (ak (af 0) av)))) (aL (jj B.cj bI rfl)) da)
  (aL (bF (af 0))))
def f_L(B:Bi E)(u_L:Own E "program" (top 50) ["P","many","items"])(kF:we E)(Iz:h_e E)(IA:h_q E)(IB:Q3 E):Q4 E:=by
 obtain⟨_,_,qH,qI⟩:=kF.aU 15
 obtain⟨_,_,Io,Ip⟩:=Iz.aU 15
 obtain⟨_,_,Ir,Iu⟩:=IA.aU 15
 obtain⟨_,_,F_X,m_X⟩:=IB.aU 15
 exact cy ["P","many","items"] u_L λ_ _ _ _ _ _ _ hr hu nd=>(aK (Pw (a8 F_X hr m_X (ak (af 0) av)))
  (aK (cZ (pB (nA (a8 qH hr qI (ak (af 1) (ak aA (ak (qA B.bv ⟨_,rfl⟩) av)))))) (aL (jj B.ck bI rfl)) da)
  (aK (Pw (a8 Io hr Ip (ak (af 2) (ak aA av))))
  (aL (bF (a8 Ir hr Iu (ak (af 0) (ak (af 1) (ak (af 2) (ak aA av))))))))))
def f_n(B:Bi E)(u_n:Own E "read_items" (top 73) ["P","names","words"])(IC:h_t E)(ID:Q4 E):Q5 E:=by
 obtain⟨_,_,Ik,Il⟩:=IC.aU 16
 obtain⟨_,_,F_L,m_L⟩:=ID.aU 16
 exact cy ["P","names","words","left","items"] u_n λ_ _ _ _ _ _ _ hr hu nd=>(aK (iF 3 (x3y (af 2) B.bm B.bi rfl) nd)
  (aK (PK.pq (zl 4 (nO Ik hr Il (pO (fM 0) (pO (fM 1) (nM 3 rfl (eQ (PD.ro aA) iG))))) nd))
  (aK (cZ (Ho (af 3)) (aL (jj B.cl bI rfl)) da)
  (aL (w4q (aL (bF (a8 F_L hr m_L (ak (af 0) (ak (eY iD B.bh (by decide +kernel) (ak (af 1) av)) (ak (af 4) av)))))))))))
def f_M(B:Bi E)(u_M:Own E "is_name" (top 71) ["word"])(wj:HZ E):Q6 E:=by
 obtain⟨_,_,Ie,Ig⟩:=wj.aU 1
 exact cy ["word"] u_M λ_ _ _ _ _ _ _ hr hu nd=>(aL (bF (qt (a8 Ie hr Ig (ak (af 0) (ak (QR B.bu ⟨_,rfl⟩) (ak (qA B.ca ⟨_,rfl⟩) av)))) (vQ (mi (QN hu) (af 0) (iV (ak bI (ak bI av))) rfl)))))
def f_m(B:Bi E)(u_m:Own E "read_names" (top 72) ["words"])(IE:Q6 E):Q7 E:=by
 obtain⟨_,_,F_M,m_M⟩:=IE.aU 2
 exact cy ["words"] u_m λ_ _ _ _ _ _ _ hr hu nd=>(aK (cZ (iU.pt (qr (pB (Ho (af 0))) (qr (b9 vR (eY iD B.bh (by decide +kernel) (ak (af 0) av)) (qA B.bv ⟨_,rfl⟩) (bN _)) (vP (b9 (je hu) (w0u (af 0) B.bh B.bn rfl) (eY iD B.bh (by decide +kernel) (ak (af 0) av)) (bN _)))))) (aL (jj B.cl bI rfl)) da)
  (aK (cZ (pB (nA (eY (Hu rfl) B.bb (by decide +kernel) (ak (PF.pd (jC (pH (af 0)) (jf (λ_ _ _ _ _=>(PD.ro (ou F_M hr m_M (ak (af 0) av))))) nd rfl)) av)))) (aL (jj B.cl bI rfl)) da)
  (aL (bF (fj ik B.bq (by decide +kernel) (ak (af 0) av))))))
def f_j(B:Bi E)(u_j:Own E "read_prime" (top 70) ["words"])(wm:H0 E)(qG:Cu E):Q8 E:=by
 obtain⟨_,_,Iw,Iy⟩:=wm.aU 3
 obtain⟨_,_,zt,zu⟩:=qG.aU 3
 exact cy ["words","P"] u_j λ_ _ _ _ _ _ _ hr hu nd=>(aK (cZ (b9 (je hu) (eY iD B.bh (by decide +kernel) (ak (af 0) av)) aA (bN _)) (aL (jj B.cl bI rfl)) da)
  (aK (bV 1 (PD.ro (a8 zt hr zu (ak (a7 (af 0) aA) av))) nd)
  (aK (cZ (pB (nA (a8 Iw hr Iy (ak (af 1) av)))) (aL (jj B.cl bI rfl)) da)
  (aL (bF (af 1))))))
def f_f(B:Bi E)(u_f:Own E "words_behind" (top 69) ["row","first"]):Q9 E:=by
 exact um ["row","first","words"] u_f λ_ _ _ _ _ _ _ hr hu nd=>(aK (iF 2 (Qq (af 0)) nd)
  (aK (cZ (b9 (je hu) (a7 (af 2) aA) (af 1) (bN _)) (aL (jj B.cl bI rfl)) da)
  (aL (yT (w9t (af 2) (nK aA) pK)))))
def a2a(B:Bi E)(a2b:Own E "read" (top 74) ["text"])(IF:Q5 E)(IG:Q7 E)(IH:Q8 E)(II:Q9 E):H4 E:=by
 obtain⟨_,_,F_n,m_n⟩:=IF.aU 17
 obtain⟨_,_,F_m,m_m⟩:=IG.aU 17
 obtain⟨_,_,F_j,m_j⟩:=IH.aU 17
 obtain⟨_,_,IJ,IK⟩:=II.aU 17
 exact cy ["text","rows","P","names"] a2b λ_ _ _ _ _ _ _ hr hu nd=>(aK (iF 1 (Qq (af 0)) nd)
  (aK (cZ (b9 (je hu) (eY iD B.bh (by decide +kernel) (ak (af 1) av)) aA (bN _)) (aL (jj B.cl bI rfl)) da)
  (aK (bV 2 (PD.ro (a8 F_j hr m_j (ak (PF.pd (nD IJ hr IK (ak (a7 (af 1) aA) (ak bI av)))) av))) nd)
  (aK (bV 3 (PD.ro (a8 F_m hr m_m (ak (PF.pd (nD IJ hr IK (ak (a7 (af 1) aA) (ak bI av)))) av))) nd)
  (aL (bF (iV (ak (af 2) (ak (af 3) (ak (a8 F_n hr m_n (ak (af 2) (ak (af 3) (ak (PF.pd (nD IJ hr IK (ak (a7 (af 1) aA) (ak bI av)))) av)))) av))))))))))
def f_P(B:Bi E)(u_P:Own E "written" (top 56) ["numbers"]):H8 E:=by
 exact um ["numbers"] u_P λ_ _ _ _ _ _ _ hr hu nd=>(aL (yT (jC (pH (af 0)) (jf (λ_ _ _ _ _=>(PD.ro (fj uh B.bo (by decide +kernel) (ak (af 0) av))))) nd rfl)))
def f_I(B:Bi E)(RL:Own E "words_of" (top 58) ["names","items"])(RM:Own E "words_of_item" (top 57) ["names","item"])(wo:H8 E):∀n:Nat,kf E (1+n) "words_of" ["names","items"] (tI n)/\kf E (1+n) "words_of_item" ["names","item"] (yk n):=by
 intro n
 induction n with
 | zero=>exact⟨HV (k:=0) ["names","items","words","item"] RL,HV (k:=0) ["names","item"] RM⟩
 | succ n ih =>
   obtain⟨⟨_,_,IL,IM⟩,⟨_,_,a2c,a2d⟩⟩:=ih
   obtain⟨_,_,IP,IQ⟩:=wo.aU (1+n)
   refine⟨?_,?_⟩
   ·exact um (k:=1+n) ["names","items","words","item"] RL λ_ _ _ _ _ _ _ hr hu nd=>(aK (iF 2 (dJ av) nd)
   (aK (oH 3 kA rfl (tW (fM 1))
   (aL (x6j 2 (nD a2c hr a2d (ak (af 0) (ak (af 3) av))))) nd)
   (aL (GW 2))))
   ·exact um (k:=1+n) ["names","item"] RM λ_ _ _ _ _ _ _ hr hu nd=>(aK (cZ (b9 (fi hu) (a7 (af 1) aA) bI (bN _)) (aL (yT (pG (dJ (ak bI (ak (a7 (af 0) (a7 (af 1) aA)) av))) (nD IP hr IQ (ak (a7 (af 1) aA) av))))) da)
   (aL (yT (pG (pG (dJ (ak bI (ak (fj uh B.bo (by decide +kernel) (ak (a7 (af 1) aA) av)) (ak bI av)))) (nD IL hr IM (ak (af 0) (ak (a7 (af 1) aA) av)))) (dJ (ak bI av))))))
def a2e(B:Bi E)(a2f:Own E "show" (top 59) ["P","names","items"])(IS:h_I E):Q_ E:=by
 obtain⟨_,_,IL,IM⟩:=IS.aU 13
 exact cy ["P","names","items","rows"] a2f λ_ _ _ _ _ _ _ hr hu nd=>(aK (bV 3 (PF.ro (PN (eQ (PF.ro (PN (eQ (PD.ro bI) (eQ (PD.ro (fj uh B.bo (by decide +kernel) (ak (af 0) av))) iG)))) (eQ (PF.ro (pG (dJ (ak bI av)) (vT (af 1) B.bi (by decide +kernel)))) (eQ (PF.ro (pG (dJ (ak bI av)) (nD IL hr IM (ak (af 1) (ak (af 2) av))))) iG))))) nd)
  (aL (bF (ui (PF.pd (jC (mj.rZ (tW (fM 3))) (jf (λ_ _ _ _ _=>(PD.ro (ui (af 0))))) nd rfl))))))
def a2g(B:Bi E)(a2h:Own E "back" (top 16) ["P","n"])(kG:wg E):Ra E:=by
 obtain⟨_,_,pQ,pR⟩:=kG.aU 1
 exact cy ["P","n","number","answer"] a2h λ_ _ _ _ _ _ _ hr hu nd=>(aK (bV 2 (PD.ro (a8 pQ hr pR (ak (af 0) (ak (af 1) av)))) nd)
  (aK (cZ (b9 (fi hu) (af 2) aA (bN _)) (aL (jj B.ci bI rfl)) da)
  (aK (bV 3 (PD.ro aA) nd)
  (aK (G7 100000 kA (b9 (je hu) (af 2) aA (bN _)) (aK (bV 3 (PD.ro (a8 pQ hr pR (ak (af 0) (ak (aP nB (BL (af 3)) (aP jb (af 0) (af 2))) av)))) nd)
  (aL (bV 2 (PD.ro (aP fg (af 0) (af 2))) nd))))
  (aL (bF (af 3)))))))
def f_W(B:Bi E)(u_W:Own E "times" (top 34) ["P","row","number"])(kG:wg E):Rb E:=by
 obtain⟨_,_,pQ,pR⟩:=kG.aU 1
 exact cy ["P","row","number"] u_W λ_ _ _ _ _ _ _ hr hu nd=>(aL (bF (fj ik B.bq (by decide +kernel) (ak (PF.pd (jC (pH (af 1)) (jf (λ_ _ _ _ _=>(PD.ro (ou pQ hr pR (ak (af 1) (ak (aP nB (af 3) (af 0)) av)))))) nd rfl)) av))))
def f_h(B:Bi E)(u_h:Own E "undone_form" (top 36) ["P","x","form"])(IT:Ra E)(IU:Rb E):Rc E:=by
 obtain⟨_,_,a2i,a2j⟩:=IT.aU 2
 obtain⟨_,_,F_W,m_W⟩:=IU.aU 2
 exact cy ["P","x","form","by","numbers"] u_h λ_ _ _ _ _ _ _ hr hu nd=>(aK (bV 3 (PD.ro (a8 a2i hr a2j (ak (af 0) (ak (a7 (af 2) (af 1)) av)))) nd)
  (aK (iF 4 (vT (a8 F_W hr m_W (ak (af 0) (ak (af 2) (ak (BL (af 3)) av)))) B.bi (by decide +kernel)) nd)
  (aK (G0 4 (af 1) (PD.ro (af 3)))
  (aL (bF (fj ik B.bq (by decide +kernel) (ak (af 4) av)))))))
def f_x(B:Bi E)(u_x:Own E "undone_set" (top 37) ["P","x","form"])(IV:Rc E):Rf E:=by
 obtain⟨_,_,F_h,m_h⟩:=IV.aU 3
 exact cy ["P","x","form"] u_x λ_ _ _ _ _ _ _ hr hu nd=>(aK (cZ (b9 (fi hu) (a7 (af 2) (af 1)) aA (bN _)) (aL (jj B.ch bI rfl)) da)
  (aL (bF (iV (ak bI (ak (af 1) (ak (a8 F_h hr m_h (ak (af 0) (ak (af 1) (ak (af 2) av)))) av)))))))
def f_S(B:Bi E)(RN:Own E "undone" (top 40) ["P","many","items"])(RO:Own E "undone_again" (top 38) ["P","many","n","items"])(RP:Own E "undone_item" (top 39) ["P","many","item"])(IW:Rf E):∀n:Nat,bQ E (4+n) "undone" ["P","many","items"] (oo n)/\bQ E (4+n) "undone_again" ["P","many","n","items"] (rW n)/\bQ E (4+n) "undone_item" ["P","many","item"] (lj n):=by
 intro n
 induction n with
 | zero=>exact⟨pP (k:=3) ["P","many","items"] RN,pP (k:=3) ["P","many","n","items"] RO,pP (k:=3) ["P","many","item"] RP⟩
 | succ n ih =>
   obtain⟨⟨_,_,zv,zw⟩,⟨_,_,a2k,a2l⟩,⟨_,_,a2m,a2n⟩⟩:=ih
   obtain⟨_,_,F_x,m_x⟩:=IW.aU (4+n)
   refine⟨?_,?_,?_⟩
   ·exact cy (k:=4+n) ["P","many","items"] RN λ_ _ _ _ _ _ _ hr hu nd=>(aL (bF (fj ik B.bq (by decide +kernel) (ak (PF.pd (w0s (w4u (af 2) B.bm) (w4y (λ_ _ _ _ _ kc=>(PD.ro (w0v a2m hr a2n (ak (af 1) (ak (af 2) (ak (af 0) av))) kc)))) nd rfl rfl rfl rfl)) av))))
   ·exact cy (k:=4+n) ["P","many","n","items"] RO λ_ _ _ _ _ _ _ hr hu nd=>(aK (cZ (b9 (fi hu) (af 2) aA (bN _)) (aL (bF (iV (ak bI (ak aA (ak (iV av) av)))))) da)
   (aL (bF (iV (ak bI (ak (af 2) (ak (a8 zv hr zw (ak (af 0) (ak (af 1) (ak (af 3) av)))) av)))))))
   ·exact cy (k:=4+n) ["P","many","item"] RP λ_ _ _ _ _ _ _ hr hu nd=>(aK (cZ (b9 (fi hu) (a7 (af 2) aA) bI (bN _)) (aL (bF (a8 F_x hr m_x (ak (af 0) (ak (a7 (af 2) aA) (ak (a7 (af 2) aA) av)))))) da)
   (aL (bF (a8 a2k hr a2l (ak (af 0) (ak (af 1) (ak (a7 (af 2) aA) (ak (a7 (af 2) aA) av))))))))
def a2o(B:Bi E)(a2p:Own E "undo" (top 78) ["text"])(wq:H4 E)(IX:Q_ E)(wt:Rg E):Rh E:=by
 obtain⟨_,_,IY,IZ⟩:=wq.aU 18
 obtain⟨_,_,a2q,a2r⟩:=IX.aU 18
 obtain⟨_,_,zv,zw⟩:=wt.aU 18
 exact cy ["text","told","P","names"] a2p λ_ _ _ _ _ _ _ hr hu nd=>(aK (bV 1 (PD.ro (a8 IY hr IZ (ak (af 0) av))) nd)
  (aK (bV 2 (PD.ro (a7 (af 1) aA)) nd)
  (aK (bV 3 (PD.ro (a7 (af 1) aA)) nd)
  (aL (bF (a8 a2q hr a2r (ak (af 2) (ak (af 3) (ak (a8 zv hr zw (ak (af 2) (ak (eY iD B.bh (by decide +kernel) (ak (af 3) av)) (ak (a7 (af 1) aA) av)))) av)))))))))
def f_C(B:Bi E)(u_C:Own E "_law_back" (top 93) ["text"])(I8:Rh E):Ri E:=by
 obtain⟨_,_,a2s,a2t⟩:=I8.aU 19
 exact cy ["text","found","refused","e"] u_C λ_ _ _ _ _ _ _ hr hu nd=>(aK (bV 1 (PD.ro bI) nd)
  (aK (iF 2 (dJ av) nd)
  (aK (Pz 3 ⟨B.cp,B.cq⟩ B.cg (aL (bV 1 (PD.ro (a8 a2s hr a2t (ak (af 0) av))) nd)) (λ_=>(aL (iF 2 (dJ (ak (vY 3 (B_ B.cf) B.cn B.bg (af 3)) (ak (vY 3 (B_ B.ce) B.cm B.bg (af 3)) (ak (vY 3 (Pu B.ba (by decide +kernel)) B.co B.bg (af 3)) av)))) nd))) nd)
  (aL (bF (iV (ak (af 1) (ak (af 2) av))))))))
def f_A(B:Bi E)(u_A:Own E "_law_cell" (top 80) ["script","k"]):Rj E:=by
 exact cy ["script","k"] u_A λ_ _ _ _ _ _ _ hr hu nd=>(aK (cZ (b9 BO (af 1) (eY iD B.bh (by decide +kernel) (ak (af 0) av)) (bN _)) (aL (bF (a7 (af 0) (af 1)))) da)
  (aL (bF aA)))
def f_r(u_r:Own E "_law_count" (top 84) ["cell"]):H9 E:=by
 exact cy ["cell"] u_r λ_ _ _ _ _ _ _ hr hu nd=>(aL (bF (a7 (PF.pd (dJ (ak (aP fg (aP jb (af 0) aA) aA) (ak (aP fg (aP jb (af 0) aA) aA) (ak (aP fg (aP jb (af 0) aA) (aP fh (aP BN aA aA) aA)) av))))) (aP fg (af 0) aA))))
def f_g(B:Bi E)(u_g:Own E "_law_digits" (top 82) ["cell","P","size"]):H_ E:=by
 exact cy ["cell","P","size","out","k"] u_g λ_ _ _ _ _ _ _ hr hu nd=>(aK (iF 3 (dJ av) nd)
  (aK (oH 4 kA rfl (pI (af 2) B.bl)
  (aK (yV 3 (PD.ro (aP fg (af 0) (af 1))))
  (aL (bV 0 (PD.ro (aP jb (af 0) (af 1))) nd))) nd)
  (aL (bF (fj ik B.bq (by decide +kernel) (ak (af 3) av))))))
def f_a(B:Bi E)(RQ:Own E "_law_first_lossy" (top 90) ["items"]):∀n:Nat,bQ E (1+n) "_law_first_lossy" ["items"] (tN n):=by
 intro n
 induction n with
 | zero=>exact pP (k:=0) ["items","at","place"] RQ
 | succ n ih =>
   obtain⟨_,_,I9,I_⟩:=ih
   exact cy (k:=1+n) ["items","at","place"] RQ λ_ _ _ _ _ _ _ hr hu nd=>(aK (oH 1 kA rfl (pI (eY iD B.bh (by decide +kernel) (ak (af 0) av)) B.bl)
   (aK (cZ (iU.pt (tR (b9 (fi hu) (a7 (a7 (af 0) (af 1)) aA) bI (bN _)) (vO (b9 (fi hu) (a7 (a7 (a7 (af 0) (af 1)) aA) (a7 (a7 (af 0) (af 1)) aA)) aA (bN _))))) (aL (bF (iV (ak (af 1) av)))) da)
   (aL (cZ (iU.pt (tR (b9 (fi hu) (a7 (a7 (af 0) (af 1)) aA) bI (bN _)) (vO (b9 vR (a7 (a7 (af 0) (af 1)) aA) aA (bN _))))) (aK (bV 2 (PD.ro (a8 I9 hr I_ (ak (a7 (a7 (af 0) (af 1)) aA) av))) nd)
   (aL (cZ (b9 (je hu) (af 2) (iV av) (bN _)) (aL (bF (aP fh (iV (ak (af 1) av)) (af 2)))) da))) da))) nd)
   (aL (bF (iV av))))
def f_K(u_K:Own E "_law_set" (top 85) ["cell","more","P","many"])(wu:H_ E):Rk E:=by
 obtain⟨_,_,Ja,Jb⟩:=wu.aU 1
 exact cy ["cell","more","P","many","x","form"] u_K λ_ _ _ _ _ _ _ hr hu nd=>(aK (bV 4 (PD.ro (aP fg (af 0) (af 3))) nd)
  (aK (bV 5 (PD.ro (a8 Ja hr Jb (ak (af 1) (ak (af 2) (ak (aP fh (af 3) aA) av))))) nd)
  (aK (cZ (iU.pt (tR (b9 (fi hu) (a7 (af 5) (af 4)) aA (bN _)) (vO (b9 vR (aP fg (aP jb (af 0) aA) aA) aA (bN _))))) (aL (bV 5 (PD.ro (aP fh (aP fh (pL (af 5) pK (nK (af 4))) (iV (ak (aP fh aA (aP fg (aP jb (af 0) aA) (aP tS (af 2) aA))) av))) (pL (af 5) (nK (aP fh (af 4) aA)) pK))) nd)) da)
  (aL (bF (iV (ak bI (ak (af 4) (ak (af 5) av)))))))))
def f_p(B:Bi E)(u_p:Own E "_law_items" (top 86) ["cells","P","many","agains"])(wx:H9 E)(Jc:Rk E):Rl E:=by
 obtain⟨_,_,Jd,Je⟩:=wx.aU 2
 obtain⟨_,_,F_K,m_K⟩:=Jc.aU 2
 exact cy ["cells","P","many","agains","items","deep","k","few","level"] u_p λ_ _ _ _ _ _ _ hr hu nd=>(aK (iF 4 (dJ av) nd)
  (aK (iF 5 (dJ av) nd)
  (aK (oH 6 kA rfl (x3w aA (aP tS (eY (OY rfl) B.bk (by decide +kernel) (ak (eY iD B.bh (by decide +kernel) (ak (af 0) av)) (ak aA av))) aA) aA B.bl)
  (aK (bV 7 (PD.ro (aP tS (eY iD B.bh (by decide +kernel) (ak (af 4) av)) (eY (OY rfl) B.bk (by decide +kernel) (ak (aP fg (aP jb (a7 (af 0) (af 6)) aA) aA) (ak (eY iD B.bh (by decide +kernel) (ak (af 4) av)) av))))) nd)
  (aK (bV 8 (PD.ro (aP fh aA (eY (w6h rfl) B.bj (by decide +kernel) (ak (PF.pd (sh (PF.pd (dJ (ak aA av))) (pL (af 5) (nK (af 7)) pK))) av)))) nd)
  (aL (cZ (iU.pt (tR (b9 (fi hu) (aP fg (a7 (af 0) (af 6)) aA) aA (bN _)) (tR (b9 BO (af 8) aA (bN _)) (vO (b9 vR (af 3) aA (bN _)))))) (aK (iF 4 (sh (pL (af 4) pK (nK (af 7))) (PF.pd (dJ (ak (iV (ak bI (ak (a8 Jd hr Je (ak (a7 (af 0) (aP fh (af 6) aA)) av)) (ak (fj ik B.bq (by decide +kernel) (ak (pL (af 4) (nK (af 7)) pK) av)) av)))) av)))) nd)
  (aK (iF 5 (sh (pL (af 5) pK (nK (af 7))) (PF.pd (dJ (ak (af 8) av)))) nd)
  (aL (bV 3 (PD.ro (aP tS (af 3) aA)) nd)))) (aK (yV 4 (PD.ro (a8 F_K hr m_K (ak (aP jb (a7 (af 0) (af 6)) aA) (ak (a7 (af 0) (aP fh (af 6) aA)) (ak (af 1) (ak (af 2) av)))))))
  (aL (yV 5 (PD.ro aA)))))))) nd)
  (aL (bF (fj ik B.bq (by decide +kernel) (ak (af 4) av)))))))
def f_T(B:Bi E)(u_T:Own E "one_at" (top 20) ["width","place"]):Rm E:=by
 exact cy ["width","place"] u_T λ_ _ _ _ _ _ _ hr hu nd=>(aL (bF (fj ik B.bq (by decide +kernel) (ak (PF.pd (jC (mj.rZ (pI (af 0) B.bl)) (jf (λ_ _ _ _ _=>(PD.ro (ZK (b9 (fi hu) (af 0) (af 2) (bN _)) aA aA)))) nd rfl)) av))))
def a2u(B:Bi E)(a2v:Own E "idle" (top 21) ["many"])(Jf:Rm E):Cw E:=by
 obtain⟨_,_,F_T,m_T⟩:=Jf.aU 1
 exact cy ["many"] a2v λ_ _ _ _ _ _ _ hr hu nd=>(aL (bF (fj ik B.bq (by decide +kernel) (ak (PF.pd (jC (mj.rZ (pI (af 0) B.bl)) (jf (λ_ _ _ _ _=>(PD.ro (ou F_T hr m_T (ak (aP fh (af 1) aA) (ak (af 0) av)))))) nd rfl)) av))))
def f_k(B:Bi E)(u_k:Own E "column_sum" (top 22) ["form","table","place"]):Rn E:=by
 exact cy ["form","table","place"] u_k λ_ _ _ _ _ _ _ hr hu nd=>(aL (bF (eY (OZ rfl) B.bp (by decide +kernel) (ak (PF.pd (jC (mj.rZ (pI (eY iD B.bh (by decide +kernel) (ak (af 1) av)) B.bl)) (jf (λ_ _ _ _ _=>(PD.ro (aP nB (a7 (af 1) (af 0)) (a7 (a7 (af 2) (af 0)) (af 3)))))) nd rfl)) av))))
def f_l(B:Bi E)(u_l:Own E "form_ahead" (top 23) ["P","table","form"])(Jg:Rn E)(kG:wg E):Ro E:=by
 obtain⟨_,_,F_k,m_k⟩:=Jg.aU 1
 obtain⟨_,_,pQ,pR⟩:=kG.aU 1
 exact cy ["P","table","form","many","numbers"] u_l λ_ _ _ _ _ _ _ hr hu nd=>(aK (bV 3 (PD.ro (eY iD B.bh (by decide +kernel) (ak (af 1) av))) nd)
  (aK (x3q 4 (mj.rZ (pI (aP fh (af 3) aA) B.bl)) (jf (λ_ _ _ _ _=>(PD.ro (ou F_k hr m_k (ak (af 3) (ak (af 2) (ak (af 0) av))))))) nd rfl)
  (aK (G0 4 (af 3) (PD.ro (aP fh (a7 (af 4) (af 3)) (a7 (af 2) (af 3)))))
  (aL (bF (fj ik B.bq (by decide +kernel) (ak (PF.pd (jC (pH (af 4)) (jf (λ_ _ _ _ _=>(PD.ro (ou pQ hr pR (ak (af 1) (ak (af 0) av)))))) nd rfl)) av)))))))
def a2w(B:Bi E)(a2x:Own E "then" (top 24) ["P","one","other"])(Jh:Ro E):Cy E:=by
 obtain⟨_,_,F_l,m_l⟩:=Jh.aU 2
 exact cy ["P","one","other"] a2x λ_ _ _ _ _ _ _ hr hu nd=>(aL (bF (fj ik B.bq (by decide +kernel) (ak (PF.pd (jC (pH (af 2)) (jf (λ_ _ _ _ _=>(PD.ro (ou F_l hr m_l (ak (af 1) (ak (af 2) (ak (af 0) av))))))) nd rfl)) av))))
def f_U(B:Bi E)(u_U:Own E "ladder" (top 27) ["P","table","n"])(qJ:Cy E):Rp E:=by
 obtain⟨_,_,zz,zA⟩:=qJ.aU 3
 exact um ["P","table","n","rungs","rung","figure"] u_U λ_ _ _ _ _ _ _ hr hu nd=>(aK (iF 3 (dJ av) nd)
  (aK (bV 4 (PD.ro (af 1)) nd)
  (aK (oH 5 kA rfl (pI (w4w (af 2)) B.bl)
  (aK (yV 3 (PD.ro (af 4)))
  (aL (bV 4 (PD.ro (a8 zz hr zA (ak (af 0) (ak (af 4) (ak (af 4) av))))) nd))) nd)
  (aL (GW 3)))))
def f_B(B:Bi E)(u_B:Own E "rungs_for" (top 28) ["rungs","n"]):Rq E:=by
 exact um ["rungs","n"] u_B λ_ _ _ _ _ _ _ hr hu nd=>(aL (yT (w0t (x6q (af 0) B.be) (w0w (λ_ _ _ _ _=>(b9 (fi hu) (aP fg (aP w7p (af 3) (af 0)) aA) aA (bN _))) (λ_ _ _ _ _=>(PD.ro (af 1)))) nd rfl)))
def f_R(B:Bi E)(u_R:Own E "rounds" (top 29) ["P","table","n"])(qK:Cw E)(Ji:Rp E)(Jj:Rq E)(qJ:Cy E):Ia E:=by
 obtain⟨_,_,zB,zC⟩:=qK.aU 4
 obtain⟨_,_,F_U,m_U⟩:=Ji.aU 4
 obtain⟨_,_,F_B,m_B⟩:=Jj.aU 4
 obtain⟨_,_,zz,zA⟩:=qJ.aU 4
 exact cy ["P","table","n","whole","rung"] u_R λ_ _ _ _ _ _ _ hr hu nd=>(aK (bV 3 (PD.ro (a8 zB hr zC (ak (eY iD B.bh (by decide +kernel) (ak (af 1) av)) av))) nd)
  (aK (oH 4 kA rfl (tW (PF.ro (nD F_B hr m_B (ak (PF.pd (nD F_U hr m_U (ak (af 0) (ak (af 1) (ak (af 2) av))))) (ak (af 2) av)))))
  (aL (bV 3 (PD.ro (a8 zz hr zA (ak (af 0) (ak (af 3) (ak (af 4) av))))) nd)) nd)
  (aL (bF (af 3)))))
def f_O(B:Bi E)(u_O:Own E "setting" (top 25) ["many","x","form"])(qK:Cw E):Rr E:=by
 obtain⟨_,_,zB,zC⟩:=qK.aU 2
 exact cy ["many","x","form","forms"] u_O λ_ _ _ _ _ _ _ hr hu nd=>(aK (iF 3 (vT (a8 zB hr zC (ak (af 0) av)) B.bi (by decide +kernel)) nd)
  (aK (G0 3 (af 1) (PD.ro (fj ik B.bq (by decide +kernel) (ak (af 2) av))))
  (aL (bF (fj ik B.bq (by decide +kernel) (ak (af 3) av))))))
def f_J(RS:Own E "table_of" (top 31) ["P","many","items"])(RT:Own E "table_of_item" (top 30) ["P","many","item"])(qK:Cw E)(qJ:Cy E)(wy:Ia E)(Jk:Rr E):∀n:Nat,bQ E (5+n) "table_of" ["P","many","items"] (rM n)/\bQ E (5+n) "table_of_item" ["P","many","item"] (vt n):=by
 intro n
 induction n with
 | zero=>exact⟨pP (k:=4) ["P","many","items","whole","item"] RS,pP (k:=4) ["P","many","item"] RT⟩
 | succ n ih =>
   obtain⟨⟨_,_,Jl,Jm⟩,⟨_,_,a2y,a2z⟩⟩:=ih
   obtain⟨_,_,zB,zC⟩:=qK.aU (5+n)
   obtain⟨_,_,zz,zA⟩:=qJ.aU (5+n)
   obtain⟨_,_,Jn,Jo⟩:=wy.aU (5+n)
   obtain⟨_,_,F_O,m_O⟩:=Jk.aU (5+n)
   refine⟨?_,?_⟩
   ·exact cy (k:=5+n) ["P","many","items","whole","item"] RS λ_ _ _ _ _ _ _ hr hu nd=>(aK (bV 3 (PD.ro (a8 zB hr zC (ak (af 1) av))) nd)
   (aK (oH 4 kA rfl (tW (fM 2))
   (aL (bV 3 (PD.ro (a8 zz hr zA (ak (af 0) (ak (af 3) (ak (a8 a2y hr a2z (ak (af 0) (ak (af 1) (ak (af 4) av)))) av))))) nd)) nd)
   (aL (bF (af 3)))))
   ·exact cy (k:=5+n) ["P","many","item"] RT λ_ _ _ _ _ _ _ hr hu nd=>(aK (cZ (b9 (fi hu) (a7 (af 2) aA) bI (bN _)) (aL (bF (a8 F_O hr m_O (ak (af 1) (ak (a7 (af 2) aA) (ak (a7 (af 2) aA) av)))))) da)
   (aL (bF (a8 Jn hr Jo (ak (af 0) (ak (a8 Jl hr Jm (ak (af 0) (ak (af 1) (ak (a7 (af 2) aA) av)))) (ak (a7 (af 2) aA) av)))))))
def a3a(B:Bi E)(a3b:Own E "worth" (top 18) ["P","form","stand"])(kG:wg E):Rt E:=by
 obtain⟨_,_,pQ,pR⟩:=kG.aU 1
 exact cy ["P","form","stand","many"] a3b λ_ _ _ _ _ _ _ hr hu nd=>(aK (bV 3 (PD.ro (eY iD B.bh (by decide +kernel) (ak (af 2) av))) nd)
  (aL (bF (a8 pQ hr pR (ak (af 0) (ak (aP fh (eY (OZ rfl) B.bp (by decide +kernel) (ak (PF.pd (jC (mj.rZ (pI (af 3) B.bl)) (jf (λ_ _ _ _ _=>(PD.ro (aP nB (a7 (af 2) (af 0)) (a7 (af 3) (af 0)))))) nd rfl)) av)) (a7 (af 1) (af 3))) av))))))
def f_Q(B:Bi E)(u_Q:Own E "turned" (top 19) ["P","table","stand"])(Jp:Rt E):Ru E:=by
 obtain⟨_,_,a3c,a3d⟩:=Jp.aU 2
 exact cy ["P","table","stand"] u_Q λ_ _ _ _ _ _ _ hr hu nd=>(aL (bF (fj ik B.bq (by decide +kernel) (ak (PF.pd (jC (pH (af 1)) (jf (λ_ _ _ _ _=>(PD.ro (ou a3c hr a3d (ak (af 1) (ak (af 0) (ak (af 3) av))))))) nd rfl)) av))))
def f_Z(u_Z:Own E "after" (top 32) ["P","many","items","n","stand"])(wy:Ia E)(Jq:h_J E)(Jr:Ru E):Ib E:=by
 obtain⟨_,_,Jn,Jo⟩:=wy.aU 17
 obtain⟨_,_,Jl,Jm⟩:=Jq.aU 17
 obtain⟨_,_,F_Q,m_Q⟩:=Jr.aU 17
 exact cy ["P","many","items","n","stand"] u_Z λ_ _ _ _ _ _ _ hr hu nd=>(aL (bF (a8 F_Q hr m_Q (ak (af 0) (ak (a8 Jn hr Jo (ak (af 0) (ak (a8 Jl hr Jm (ak (af 0) (ak (af 1) (ak (af 2) av)))) (ak (af 3) av)))) (ak (af 4) av))))))
def f_u(B:Bi E)(u_u:Own E "stand_from" (top 76) ["P","many","numbers"])(kF:we E):Rw E:=by
 obtain⟨_,_,qH,qI⟩:=kF.aU 2
 exact cy ["P","many","numbers"] u_u λ_ _ _ _ _ _ _ hr hu nd=>(aK (cZ (iU.pt (qr (b9 (je hu) (eY iD B.bh (by decide +kernel) (ak (af 2) av)) (af 1) (bN _)) (vP (pB (nA (eY (Hu rfl) B.bb (by decide +kernel) (ak (PF.pd (jC (pH (af 2)) (jf (λ_ _ _ _ _=>(PD.ro (ou qH hr qI (ak (af 0) (ak aA (ak (aP tS (af 1) aA) av))))))) nd rfl)) av))))))) (aL (jj B.cl bI rfl)) da)
  (aL (bF (fj ik B.bq (by decide +kernel) (ak (af 2) av)))))
def f_Y(B:Bi E)(u_Y:Own E "leads" (top 77) ["text","n","stand"])(wz:Ib E)(wq:H4 E)(Js:Rw E)(wo:H8 E):Ic E:=by
 obtain⟨_,_,Jt,Ju⟩:=wz.aU 18
 obtain⟨_,_,IY,IZ⟩:=wq.aU 18
 obtain⟨_,_,F_u,m_u⟩:=Js.aU 18
 obtain⟨_,_,IP,IQ⟩:=wo.aU 18
 exact cy ["text","n","stand","told","P","many"] u_Y λ_ _ _ _ _ _ _ hr hu nd=>(aK (bV 3 (PD.ro (a8 IY hr IZ (ak (af 0) av))) nd)
  (aK (bV 4 (PD.ro (a7 (af 3) aA)) nd)
  (aK (bV 5 (PD.ro (eY iD B.bh (by decide +kernel) (ak (a7 (af 3) aA) av))) nd)
  (aL (bF (ui (PF.pd (nD IP hr IQ (ak (a8 Jt hr Ju (ak (af 4) (ak (af 5) (ak (a7 (af 3) aA) (ak (af 1) (ak (a8 F_u hr m_u (ak (af 4) (ak (af 5) (ak (af 2) av)))) av)))))) av)))))))))
def f_G(B:Bi E)(u_G:Own E "_law_led" (top 92) ["text","n","stand"])(wA:Ic E):Rx E:=by
 obtain⟨_,_,Jv,Jw⟩:=wA.aU 19
 exact cy ["text","n","stand","found","refused","e"] u_G λ_ _ _ _ _ _ _ hr hu nd=>(aK (bV 3 (PD.ro bI) nd)
  (aK (iF 4 (dJ av) nd)
  (aK (Pz 5 ⟨B.cp,B.cq⟩ B.cg (aL (bV 3 (PD.ro (a8 Jv hr Jw (ak (af 0) (ak (af 1) (ak (af 2) av))))) nd)) (λ_=>(aL (iF 4 (dJ (ak (vY 5 (B_ B.cf) B.cn B.bg (af 5)) (ak (vY 5 (B_ B.ce) B.cm B.bg (af 5)) (ak (vY 5 (Pu B.ba (by decide +kernel)) B.co B.bg (af 5)) av)))) nd))) nd)
  (aL (bF (iV (ak (af 3) (ak (af 4) av))))))))
def f_v(B:Bi E)(u_v:Own E "_law_names" (top 87) ["cell","more","many"]):Ry E:=by
 exact cy ["cell","more","many","letters","size","out","k","word","p","n"] u_v λ_ _ _ _ _ _ _ hr hu nd=>(aK (bV 3 (PD.ro bI) nd)
  (aK (bV 4 (PD.ro (aP fh aA (aP fg (af 0) aA))) nd)
  (aK (iF 5 (dJ av) nd)
  (aK (oH 6 kA rfl (pI (af 2) B.bl)
  (aK (bV 7 (PD.ro bI) nd)
  (aK (oH 8 kA rfl (pI (af 4) B.bl)
  (aK (bV 9 (PD.ro (aP fh (aP fh (aP nB (aP jb (af 0) aA) (aP fh (aP nB aA (af 8)) aA)) (aP nB (aP jb (af 1) aA) (af 8))) (aP nB (aP nB aA (af 8)) (af 8)))) nd)
  (aK (cZ (b9 (fi hu) (af 8) (aP fg (aP jb (af 0) aA) (af 4)) (bN _)) (aL (bV 9 (PD.ro (aP fh (af 9) (aP nB (aP fh aA (aP nB aA (aP fg (af 1) aA))) (af 6)))) nd)) da)
  (aL (bV 7 (PD.ro (aP Cn (af 7) (Qn (af 3) (aP fg (af 9) aA)))) nd)))) nd)
  (aK (cZ (b9 (v0b hu) (af 7) (iV (ak bI (ak bI av))) rfl) (aL (bV 7 (PD.ro (aP Cn (af 7) bI)) nd)) da)
  (aL (yV 5 (PD.ro (af 7))))))) nd)
  (aL (bF (fj ik B.bq (by decide +kernel) (ak (af 5) av))))))))
def f_c(B:Bi E)(u_c:Own E "_law_odd_stand" (top 91) ["stand","cell","P"]):Rz E:=by
 exact cy ["stand","cell","P","near","at"] u_c λ_ _ _ _ _ _ _ hr hu nd=>(aK (bV 3 (PD.ro (aP jb (af 1) aA)) nd)
  (aK (bV 4 (PD.ro (aP fg (af 3) (eY iD B.bh (by decide +kernel) (ak (af 0) av)))) nd)
  (aK (cZ (b9 vR (aP fg (af 1) aA) aA (bN _)) (aL (bF (af 0))) da)
  (aK (cZ (b9 (fi hu) (aP fg (aP jb (af 1) aA) aA) aA (bN _)) (aL (bF (PF.pd (sh (af 0) (PF.pd (dJ (ak aA av))))))) da)
  (aK (cZ (b9 (fi hu) (aP fg (aP jb (af 1) aA) aA) aA (bN _)) (aL (bF (pL (af 0) (nK aA) pK))) da)
  (aL (bF (PF.pd (sh (PF.pd (sh (pL (af 0) pK (nK (af 4))) (PF.pd (dJ (ak (a7 (PF.pd (dJ (ak (aP tS (BL aA) (aP fg (af 3) (aP BN aA aA))) (ak (aP fh (af 2) (aP fg (af 3) (aP BN aA aA))) av)))) (aP fg (aP jb (af 1) aA) aA)) av))))) (pL (af 0) (nK (aP fh (af 4) aA)) pK))))))))))
def f_w(B:Bi E)(u_w:Own E "_law_prime" (top 81) ["cell"]):RA E:=by
 exact cy ["cell","n"] u_w λ_ _ _ _ _ _ _ hr hu nd=>(aK (cZ (b9 (fi hu) (aP fg (af 0) aA) aA (bN _)) (aL (bF (a7 (iV x3z) (aP fg (aP jb (af 0) aA) aA)))) da)
  (aK (bV 1 (PD.ro (aP fh aA (aP fg (aP jb (af 0) aA) aA))) nd)
  (aK (G7 10000 kA (nA (eY (ZZ rfl) B.bc (by decide +kernel) (ak (PF.pd (jC (mj.rZ (Z2 aA aA B.bl)) (Z_ (λ_ _ _ _ _=>(b9 BO (af 0) (af 2) (bN _))) (λ_ _ _ _ _=>(PD.ro (mi (fi hu) (aP fg (af 2) (af 0)) aA (bN _))))) nd rfl)) av))) (aL (bV 1 (PD.ro (aP fh (af 1) aA)) nd)))
  (aL (bF (af 1))))))
def f_s(B:Bi E)(RU:Own E "_law_words" (top 88) ["names","items"]):∀n:Nat,kf E (1+n) "_law_words" ["names","items"] (vz n):=by
 intro n
 induction n with
 | zero=>exact HV (k:=0) ["names","items","words","item"] RU
 | succ n ih =>
   obtain⟨_,_,Jy,Jz⟩:=ih
   exact um (k:=1+n) ["names","items","words","item"] RU λ_ _ _ _ _ _ _ hr hu nd=>(aK (iF 2 (dJ av) nd)
   (aK (oH 3 kA rfl (tW (fM 1))
   (aL (cZ (b9 (fi hu) (a7 (af 3) aA) bI (bN _)) (aL (iF 2 (pG (sh (af 2) (PF.pd (dJ (ak bI (ak (a7 (af 0) (a7 (af 3) aA)) av))))) (jC (pH (a7 (af 3) aA)) (jf (λ_ _ _ _ _=>(PD.ro (fj uh B.bo (by decide +kernel) (ak (af 0) av))))) nd rfl)) nd)) (aL (iF 2 (pG (pG (sh (af 2) (PF.pd (dJ (ak bI (ak (fj uh B.bo (by decide +kernel) (ak (a7 (af 3) aA) av)) (ak bI av)))))) (nD Jy hr Jz (ak (af 0) (ak (a7 (af 3) aA) av)))) (dJ (ak bI av))) nd)))) nd)
   (aL (GW 2))))
def f_y(B:Bi E)(u_y:Own E "_law_text" (top 89) ["P","names","items"])(JA:h_s E):RB E:=by
 obtain⟨_,_,Jy,Jz⟩:=JA.aU 13
 exact cy ["P","names","items","rows"] u_y λ_ _ _ _ _ _ _ hr hu nd=>(aK (iF 3 (dJ (ak (aP Cn bI (fj uh B.bo (by decide +kernel) (ak (af 0) av))) (ak (ui (PF.pd (pG (dJ (ak bI av)) (vT (af 1) B.bi (by decide +kernel))))) (ak (ui (PF.pd (pG (dJ (ak bI av)) (nD Jy hr Jz (ak (af 1) (ak (af 2) av)))))) av)))) nd)
  (aL (bF (ui (af 3)))))
def v0r{E:Ev}{a:Addr}{d:cB}(B:Bi E)(U:mP E.K "law" "law" HX a d)(hb:km E.K d ["script"] [])(JB:Ri E)(JE:Rj E)(wx:H9 E)(wu:H_ E)(JF:h_a E)(JG:Rl E)(JH:Rx E)(JI:Ry E)(JJ:Rz E)(JK:RA E)(JL:RB E)(wz:Ib E)(wA:Ic E)(wt:Rg E):g8 E.P E.w E.K E.mg E.base 21 a d ["script"] BJ:=by
 obtain⟨_,_,F_C,m_C⟩:=JB.aU 20
 obtain⟨_,_,sm,sq⟩:=JE.aU 20
 obtain⟨_,_,Jd,Je⟩:=wx.aU 20
 obtain⟨_,_,Ja,Jb⟩:=wu.aU 20
 obtain⟨_,_,I9,I_⟩:=JF.aU 20
 obtain⟨_,_,F_p,m_p⟩:=JG.aU 20
 obtain⟨_,_,RV,RW⟩:=JH.aU 20
 obtain⟨_,_,F_v,m_v⟩:=JI.aU 20
 obtain⟨_,_,F_c,m_c⟩:=JJ.aU 20
 obtain⟨_,_,F_w,m_w⟩:=JK.aU 20
 obtain⟨_,_,RX,RY⟩:=JL.aU 20
 obtain⟨_,_,Jt,Ju⟩:=wz.aU 20
 obtain⟨_,_,Jv,Jw⟩:=wA.aU 20
 obtain⟨_,_,zv,zw⟩:=wt.aU 20
 refine Pm U QU hb (λds h=>AW h) λa_ A outer s H E hr=>?_
 have nd:=QU.nd
 have hu:=hr.units
 exact⟨F5,(aK (bV 1 (PD.ro (a8 F_w hr m_w (ak (a8 sm hr sq (ak (af 0) (ak aA av))) av))) nd)
  (aK (bV 2 (PD.ro (aP fh aA (aP fg (a8 sm hr sq (ak (af 0) (ak aA av))) aA))) nd)
  (aK (bV 3 (PD.ro (a8 F_v hr m_v (ak (a8 sm hr sq (ak (af 0) (ak aA av))) (ak (a8 sm hr sq (ak (af 0) (ak aA av))) (ak (af 2) av))))) nd)
  (aK (bV 4 (PD.ro (a8 F_p hr m_p (ak (pL (af 0) (nK aA) (nK aA)) (ak (af 1) (ak (af 2) (ak aA av)))))) nd)
  (aK (bV 5 (PD.ro (a8 Jd hr Je (ak (a8 sm hr sq (ak (af 0) (ak aA av))) av))) nd)
  (aK (bV 6 (PF.ro (vT (a8 Ja hr Jb (ak (a8 sm hr sq (ak (af 0) (ak aA av))) (ak (af 1) (ak (af 2) av)))) B.bi (by decide +kernel))) nd)
  (aK (bV 7 (Ci F_c hr m_c (eQ (fM 6) (eQ (PD.ro (a8 sm hr sq (ak (af 0) (ak aA av)))) (eQ (fM 1) iG)))) nd)
  (aK (bV 8 (PD.ro (mi (fi hu) (aP fg (aP jb (a8 sm hr sq (ak (af 0) (ak aA av))) aA) aA) aA (bN _))) nd)
  (aK (bV 9 (PD.ro (aP Cn (a8 RX hr RY (ak (af 1) (ak (af 3) (ak (af 4) av)))) (a7 (PF.pd (dJ (ak bI (ak bI av)))) (fj w8z B.bf (by decide +kernel) (ak (af 8) av))))) nd)
  (aK (bV 10 (PF.ro (vT (af 7) B.bi (by decide +kernel))) nd)
  (aK (Qb 11 12 (Ci RV hr RW (eQ (fM 9) (eQ (fM 5) (eQ (fM 10) iG)))) nd rfl)
  (aK (cZ (b9 (je hu) (af 10) (af 7) (bN _)) (aL (bF ny)) da)
  (aK (cZ (iU.pt (qr (nA (af 8)) (vP (b9 (je hu) (af 7) (af 6) (bN _))))) (aL (cZ (iU.pt (qr (b9 (je hu) (af 12) (PF.pd (dJ (ak ny (ak ny (ak ny av))))) (bN _)) (vP (b9 (je hu) (a7 (ij.pd (Ci RV hr RW (eQ (fM 9) (eQ (fM 5) (eQ (x6v (eQ (fM 7) iG) B.bq (by decide +kernel)) iG))))) aA) (af 12) (bN _))))) (aL (bF ny)) da)) (aK (bV 13 (PD.ro (ui (PF.pd (jC (pH (a8 Jt hr Ju (ak (af 1) (ak (af 2) (ak (af 4) (ak (af 5) (ak (fj ik B.bq (by decide +kernel) (ak (af 6) av)) av))))))) (jf (λ_ _ _ _ _=>(PD.ro (fj uh B.bo (by decide +kernel) (ak (af 0) av))))) nd rfl)))) nd)
  (aL (cZ (iU.pt (qr (b9 (je hu) (af 12) (PF.pd (dJ av)) (bN _)) (qr (pB (nA (B7 u_ (af 11) B.bg (λI q=>iu I rfl B.bo (by decide +kernel) q) Pn))) (qr (b9 (je hu) (af 11) (af 13) (bN _)) (vP (b9 (je hu) (a8 Jv hr Jw (ak (af 9) (ak (af 5) (ak (fj ik B.bq (by decide +kernel) (ak (af 6) av)) av)))) (af 13) (bN _))))))) (aL (bF ny)) da))))
  (aK (Qb 11 12 (Ci F_C hr m_C (eQ (fM 9) iG)) nd rfl)
  (aK (cZ (nA (af 8)) (aL (bF (mi (fi hu) (af 12) (PF.pd (dJ (ak ny (ak ny (ak ny av))))) (bN _)))) da)
  (aK (cZ (b9 (je hu) (a8 I9 hr I_ (ak (af 4) av)) (iV av) (bN _)) (aL (bF (mi (fi hu) (af 12) (PF.pd (dJ (ak ny (ak ny (ak ny av))))) (bN _)))) da)
  (aL (bF (qt (mi (fi hu) (af 12) (PF.pd (dJ av)) (bN _)) (qt (B7 u_ (af 11) B.bg (λI q=>iu I rfl B.bo (by decide +kernel) q) Pn) (vQ (mi (fi hu) (af 11) (a8 RX hr RY (ak (af 1) (ak (af 3) (ak (a8 zv hr zw (ak (af 1) (ak (af 2) (ak (af 4) av)))) av)))) (bN _))))))))))))))))))))))),λds bS=>(AX (AW bS)).symm⟩
end
def RZ{α:Type}{p:List α->Prop}(h:∀a,p [a])(us:List α)(hl:us.length=1):p us:=by
 obtain⟨a,rfl⟩:∃a,us=[a]:=by
  match us,hl with
  | [a],_=>exact⟨a,rfl⟩
 exact h a
def v0k{α:Type}{p:List α->Prop}(h:∀a b,p [a,b])(us:List α)(hl:us.length=2):p us:=by
 obtain⟨a,b,rfl⟩:∃a b,us=[a,b]:=by
  match us,hl with
  | [a,b],_=>exact⟨a,b,rfl⟩
 exact h a b
def v0j{α:Type}{p:List α->Prop}(h:∀a b c,p [a,b,c])(us:List α)(hl:us.length=3):p us:=by
 obtain⟨a,b,c,rfl⟩:∃a b c,us=[a,b,c]:=by
  match us,hl with
  | [a,b,c],_=>exact⟨a,b,c,rfl⟩
 exact h a b c
def v0i{α:Type}{p:List α->Prop}(h:∀a b c d,p [a,b,c,d])(us:List α)(hl:us.length=4):p us:=by
 obtain⟨a,b,c,d,rfl⟩:∃a b c d,us=[a,b,c,d]:=by
  match us,hl with
  | [a,b,c,d],_=>exact⟨a,b,c,d,rfl⟩
 exact h a b c d
def v0h{α:Type}{p:List α->Prop}(h:∀a b c d e,p [a,b,c,d,e])(us:List α)(hl:us.length=5):p us:=by
 obtain⟨a,b,c,d,e,rfl⟩:∃a b c d e,us=[a,b,c,d,e]:=by
  match us,hl with
  | [a,b,c,d,e],_=>exact⟨a,b,c,d,e,rfl⟩
 exact h a b c d e
section
variable {w:aR}{h:Heap}{mg:Str->Option Value}(X:(KK w.params).In h)(G:h.Ns dw mg)
include X G in
def ma{x:Str}{v:Value}(e:ir (KK w.params) dw x=some (some v)):mg x=some v:=sD X G e
include X G in
def mn{x:Str}(e:ir (KK w.params) dw x=some none):mg x=none:=a7p X G e
include X G in
def ow(base:Heap){x:Str}{st:Stmt}{ps:List Str}{c:Addr}{pm:Value}(a:Addr)(n:ir (KK w.params) dw x=some (some (.ref a)):=by k_is)(l:(KK w.params).lookup a=some (HQ.fO x st pm (.ref c)):=by k_is)(e:JZ (KK w.params) (.ref c) x=true:=by k_is)(b:∀(kV doc pm:Value) (an:Option Addr) (a_ ct:Value) (us:List Value),us.length=ps.length->Se (CI x x (xH st) (kO st) (ig st) .none kV doc pm an a_ ct) ⟨us,[]⟩=pure (ps.zip us):=by first | exact λ_ _ _ _ _ _=>RZ λ_=>rfl | exact λ_ _ _ _ _ _=>v0k λ_ _=>rfl | exact λ_ _ _ _ _ _=>v0j λ_ _ _=>rfl | exact λ_ _ _ _ _ _=>v0i λ_ _ _ _=>rfl | exact λ_ _ _ _ _ _=>v0h λ_ _ _ _ _=>rfl):Own ⟨PySem.Challenge.rw_longrounds_k83_desk_leads_and_undoes.prog,w,(KK w.params),mg,base⟩ x st ps:=⟨a,_,HQ.HU l e,(HQ.HU l e).binds b,sD X G n⟩
include X G in
set_option maxHeartbeats 0 in
def all{fa:Addr}(hfa:mg "law"=some (.ref fa)):∃fd:cB,(∀(s:ah) (v:Value),BindsTo s fd ⟨[v],[]⟩ [("script",v)])/\∀base:Heap,(KK w.params).In base->base.Ns dw mg->jH PySem.Challenge.rw_longrounds_k83_desk_leads_and_undoes.prog w (KK w.params) mg base (nC PySem.Challenge.rw_longrounds_k83_desk_leads_and_undoes.prog w) 21 fa fd ["script"] (vX BJ (KK w.params)):=by
 k_fill
 have Cz:ir (KK w.params) dw "NoPrime"=some (some (.ref 37)):=by k_is
 have JM:=sD X G Cz
 have a3e:ke (KK w.params) 37:=⟨by k_is,by k_is,by k_is,by k_is,by k_is,by k_is,wb (by k_is)⟩
 have CA:ir (KK w.params) dw "NoNumber"=some (some (.ref 49)):=by k_is
 have JN:=sD X G CA
 have a3f:ke (KK w.params) 49:=⟨by k_is,by k_is,by k_is,by k_is,by k_is,by k_is,wb (by k_is)⟩
 have CB:ir (KK w.params) dw "NoProgram"=some (some (.ref 61)):=by k_is
 have JO:=sD X G CB
 have a3g:ke (KK w.params) 61:=⟨by k_is,by k_is,by k_is,by k_is,by k_is,by k_is,wb (by k_is)⟩
 have CC:ir (KK w.params) dw "Lossy"=some (some (.ref 73)):=by k_is
 have JP:=sD X G CC
 have a3h:ke (KK w.params) 73:=⟨by k_is,by k_is,by k_is,by k_is,by k_is,by k_is,wb (by k_is)⟩
 have CD:ir (KK w.params) dw "NoText"=some (some (.ref 85)):=by k_is
 have JQ:=sD X G CD
 have a3i:ke (KK w.params) 85:=⟨by k_is,by k_is,by k_is,by k_is,by k_is,by k_is,wb (by k_is)⟩
 have a3j:ir (KK w.params) dw "LongError"=some (some (.ref 24)):=by k_is
 have a3k:=sD X G a3j
 have a3l:ke (KK w.params) 24:=⟨by k_is,by k_is,by k_is,by k_is,by k_is,by k_is,wb (by k_is)⟩
 have a3m:oI (KK w.params) mg .gO 73:=⟨CC,JP,by k_exc⟩
 have a3n:oI (KK w.params) mg .o5 49:=⟨CA,JN,by k_exc⟩
 have a3o:oI (KK w.params) mg .qc 37:=⟨Cz,JM,by k_exc⟩
 have a3p:oI (KK w.params) mg .kP 61:=⟨CB,JO,by k_exc⟩
 have a3q:oI (KK w.params) mg .dZ 85:=⟨CD,JQ,by k_exc⟩
 have R0:ir (KK w.params) dw "TooLong"=some none:=by k_is
 have isx:ue (KK w.params) (.ref 73) .gO/\ue (KK w.params) (.ref 85) .dZ/\ue (KK w.params) (.type "ValueError") .xM:=by
  refine⟨?_,?_,?_⟩
  all_goals
   intro c C h
   cases c with
   | qc =>
     have h':ir (KK w.params) dw "NoPrime"=some (some (.ref C)):=h
     rw[Cz] at h';cases h';exact⟨a3e,by kit_is⟩
   | o5 =>
     have h':ir (KK w.params) dw "NoNumber"=some (some (.ref C)):=h
     rw[CA] at h';cases h';exact⟨a3f,by kit_is⟩
   | kP =>
     have h':ir (KK w.params) dw "NoProgram"=some (some (.ref C)):=h
     rw[CB] at h';cases h';exact⟨a3g,by kit_is⟩
   | tooLong =>
     have h':ir (KK w.params) dw "TooLong"=some (some (.ref C)):=h
     rw[R0] at h';cases h'
   | gO =>
     have h':ir (KK w.params) dw "Lossy"=some (some (.ref C)):=h
     rw[CC] at h';cases h';exact⟨a3h,by kit_is⟩
   | dZ =>
     have h':ir (KK w.params) dw "NoText"=some (some (.ref C)):=h
     rw[CD] at h';cases h';exact⟨a3i,by kit_is⟩
 obtain⟨a3r,a3s,a3t⟩:=isx
 have a3u:=a3l
 have a3v:∀(c:Er) (C:Addr),mg c.nm=some (.ref C)->ir (KK w.params) dw c.nm=some (some (.ref C))/\uv (KK w.params) C (.ref 24)=some true:=by
  intro c C h
  cases c with
  | qc =>
    have h':mg "NoPrime"=some (.ref C):=h
    rw[JM] at h';cases h';exact⟨Cz,by k_is⟩
  | o5 =>
    have h':mg "NoNumber"=some (.ref C):=h
    rw[JN] at h';cases h';exact⟨CA,by k_is⟩
  | kP =>
    have h':mg "NoProgram"=some (.ref C):=h
    rw[JO] at h';cases h';exact⟨CB,by k_is⟩
  | tooLong =>
    have h':mg "TooLong"=some (.ref C):=h
    rw[a7p X G R0] at h';cases h'
  | gO =>
    have h':mg "Lossy"=some (.ref C):=h
    rw[JP] at h';cases h';exact⟨CC,by k_is⟩
  | dZ =>
    have h':mg "NoText"=some (.ref C):=h
    rw[JQ] at h';cases h';exact⟨CD,by k_is⟩
 have lL:(KK w.params).lookup 533=some (HQ.fO "law" HX (.str "law_longrounds_k83_desk_leads_and_undoes" 777) (.ref 532)):=by k_is
 have lC:JZ (KK w.params) (.ref 532) "law"=true:=by k_is
 have a3w:=ma X G (x:="law") (v:=.ref 533) (by k_is)
 have e:=hfa.symm.trans a3w
 cases e
 have UL:=HQ.HU lL lC
 refine a1p UL (λs v=>.of_eq rfl) λbase _ _=>?_
 have B:Bi ⟨PySem.Challenge.rw_longrounds_k83_desk_leads_and_undoes.prog,w,(KK w.params),mg,base⟩:=⟨mn X G (by k_is),mn X G (by k_is),mn X G (by k_is),mn X G (by k_is),mn X G (by k_is),mn X G (by k_is),mn X G (by k_is),mn X G (by k_is),mn X G (by k_is),mn X G (by k_is),mn X G (by k_is),mn X G (by k_is),mn X G (by k_is),mn X G (by k_is),mn X G (by k_is),mn X G (by k_is),mn X G (by k_is),ma X G (by k_is),ma X G (by k_is),ma X G (by k_is),ma X G (by k_is),ma X G (by k_is),ma X G (by k_is),ma X G (by k_is),ma X G (by k_is),ma X G (by k_is),JM,JN,JO,JP,JQ,a3k,a3m,a3n,a3o,a3p,a3q,a3r,a3s,a3t,a3u,a3v⟩
 have wj:=f_o B (ow X G base 323)
 have qG:=f_i B (ow X G base 330) wj
 have qF:=f_V B (ow X G base 342)
 have Ii:=f_z (ow X G base 349) qF
 have Ih:=f_b B (ow X G base 337) qG
 have Ij:=f_E B (ow X G base 354) Ih qF
 have JR:=y8x B (ow X G base 361) (ow X G base 368) (ow X G base 375) qG Ii qF Ij
 have a8u:=(JR 12).1
 have a8v:=(JR 12).2.1
 have IC:=(JR 12).2.2
 have Im:=f_F B (ow X G base 94)
 have kF:=f_N (ow X G base 108) Im
 have A_e:=f_e B (ow X G base 263)
 have Iz:=(A_e 12)
 have kG:=a1u (ow X G base 129)
 have Iq:=f_D B (ow X G base 268) kF kG
 have JS:=y8w B (ow X G base 275) (ow X G base 282) (ow X G base 287) kF Iq
 have a8w:=(JS 12).1
 have a8x:=(JS 12).2.1
 have IA:=(JS 12).2.2
 have Iv:=f_d (ow X G base 101)
 have wm:=f_H B (ow X G base 115) kF Iv
 have IB:=f_X B (ow X G base 122) wm
 have ID:=f_L B (ow X G base 294) kF Iz IA IB
 have IF:=f_n B (ow X G base 408) IC ID
 have IE:=f_M B (ow X G base 396) wj
 have IG:=f_m B (ow X G base 401) IE
 have IH:=f_j B (ow X G base 389) wm qG
 have II:=f_f B (ow X G base 382)
 have wq:=a2a B (ow X G base 415) IF IG IH II
 have wo:=f_P B (ow X G base 299)
 have R1:=f_I B (ow X G base 313) (ow X G base 306) wo
 have IS:=(R1 12).1
 have a8y:=(R1 12).2
 have IX:=a2e B (ow X G base 318) IS
 have IT:=a2g B (ow X G base 136) kG
 have IU:=f_W B (ow X G base 223) kG
 have IV:=f_h B (ow X G base 230) IT IU
 have IW:=f_x B (ow X G base 237) IV
 have JT:=f_S B (ow X G base 256) (ow X G base 244) (ow X G base 251) IW
 have wt:=(JT 12).1
 have a8z:=(JT 12).2.1
 have a9a:=(JT 12).2.2
 have I8:=a2o B (ow X G base 434) wq IX wt
 have JB:=f_C B (ow X G base 528) I8
 have JE:=f_A B (ow X G base 441)
 have wx:=f_r (ow X G base 467)
 have wu:=f_g B (ow X G base 453)
 have A_a:=f_a B (ow X G base 507)
 have JF:=(A_a 12)
 have Jc:=f_K (ow X G base 474) wu
 have JG:=f_p B (ow X G base 481) wx Jc
 have Jf:=f_T B (ow X G base 151)
 have qK:=a2u B (ow X G base 156) Jf
 have Jg:=f_k B (ow X G base 161)
 have Jh:=f_l B (ow X G base 166) Jg kG
 have qJ:=a2w B (ow X G base 171) Jh
 have Ji:=f_U B (ow X G base 185) qJ
 have Jj:=f_B B (ow X G base 190)
 have wy:=f_R B (ow X G base 197) qK Ji Jj qJ
 have Jk:=f_O B (ow X G base 178) qK
 have R3:=f_J (ow X G base 211) (ow X G base 204) qK qJ wy Jk
 have Jq:=(R3 12).1
 have a9b:=(R3 12).2
 have Jp:=a3a B (ow X G base 141) kG
 have Jr:=f_Q B (ow X G base 146) Jp
 have wz:=f_Z (ow X G base 218) wy Jq Jr
 have Js:=f_u B (ow X G base 420) kF
 have wA:=f_Y B (ow X G base 427) wz wq Js wo
 have JH:=f_G B (ow X G base 521) wA
 have JI:=f_v B (ow X G base 488)
 have JJ:=f_c B (ow X G base 514)
 have JK:=f_w B (ow X G base 446)
 have A_s:=f_s B (ow X G base 493)
 have JA:=(A_s 12)
 have JL:=f_y B (ow X G base 500) JA
 exact v0r (E:=⟨PySem.Challenge.rw_longrounds_k83_desk_leads_and_undoes.prog,w,(KK w.params),mg,base⟩) B UL (UL.binds λ_ _ _ _ _ _=>RZ λ_=>rfl) JB JE wx wu JF JG JH JI JJ JK JL wz wA wt
end
end Row
open PySem PySem.W PyProof.Rows
set_option maxRecDepth 100000 in
set_option maxHeartbeats 0 in
theorem PySem.Challenge.cw_longrounds_k83_desk_leads_and_undoes_holds : PySem.Challenge.rw_longrounds_k83_desk_leads_and_undoes.Holds := by
 w_on;o_law
 refine PySem.W.holds_open (q:=T1 K2 [94]) (loose:=HQ.a1n K2) (Xt:=λs=>PySem.W.xlAt (T1 K2 [94]) [] s&&PySem.W.recOk [] s) (XP:=PySem.W.XL (T1 K2 [94]) []) (Yf:=λs=>Row.ks.map s.heap.get?) (Ya:=λw=>(Row.KK w.params).map λp:Addr×Obj=>some p.2) (YP:=PySem.W.InK Row.KK) (N:=40000) ?hl (PySem.W.InK.of (K:=Row.KK) (as:=Row.ks) λ_=>rfl) PySem.W.InK.keeps (λs e=>PySem.W.xl_of s (Bool.and_eq_true_iff.mp e).1) PySem.W.XL.keeps (by rfl) (by rfl) (by rfl) (λs e=>PySem.W.recFacts_of (Bool.and_eq_true_iff.mp e).2) (by rfl) (by assumption) (by decide +kernel) ⟨rfl,rfl,rfl,rfl,rfl,by decide +kernel⟩ ?hw ?hc
 case hl =>
  refine HQ.a1o (by kernel_rfl) (by kernel_rfl) (λs=>by kernel_rfl) ?_
  intro w os
  delta Row.KK Row.top
  rw[PySem.W.Fast.te8993124614500920209]
  kernel_rfl
 case hw=>w_witness2
 exact L3.a0d (sp:=L3.vX L3.BJ) (l:=PySem.Challenge.rw_longrounds_k83_desk_leads_and_undoes) (n:=63) (k:=21) (x:="script") (CX:=λw=>L3.nC PySem.Challenge.rw_longrounds_k83_desk_leads_and_undoes.prog w) rfl (by decide) rfl ⟨rfl,by decide,by decide⟩ (K:=Row.KK) (λw h Y=>Y) (λw mg fa h KX G p_=>Row.all KX G p_) (λK H a ns hl hS=>L3.a0b L3.Zz hl hS) λw H s e s' h=>L3.a0c h

